import PyProof.Rows.All
import Wide.All
import OpenK.AllK
import Wide.FinOn
import Lean
import PyProof.EqAt
import PyProof.EqKinds
import PyProof.TupleCall
import PySem.Challenge.RW_duskbook_k67_whole_step_by_step
set_option Elab.async false
set_option linter.all false
set_option compiler.extract_closed false
set_option maxRecDepth 100000
abbrev Kh(l:List (PySem.Str×PySem.NameKind)):PySem.Scope:={ kind:=.function,names:=l,isGenerator:=false,isCoroutine:=false,more:=[] }
def qa{c d:Type _}{o:Option c}{f:c->Option d}{b:d}(h:o.bind f=some b):∃a,o=some a/\f a=some b:=Option.bind_eq_some_iff.mp h
def qc{c d:Type _}{o:Option c}{f:c->d}{b:d}(h:o.map f=some b):∃a,o=some a/\f a=b:=Option.map_eq_some_iff.mp h
def qd:=@Option.bind_some
def qe:=@PySem.Heap.get?_push_of_some
def qf:=@List.length_map
def qg:=@List.mem_cons_of_mem
def qh:=@List.mem_cons_self
def qi:=@Bool.false_ne_true
def qj:=@Array.length_toList
def qk:=@List.size_toArray
def ql:=@PySem.Heap.lt_size
def qm:=@Nat.ne_of_lt
def qo{b:Type _}{l:List b}{i:Nat}{a:b}(h:l[i]?=some a):∃h:i<l.length,l[i]=a:=List.getElem?_eq_some_iff.mp h
def qp:=@PySem.Heap.get?_push_size
def qr:=@List.getElem?_eq_getElem
def qt:=@List.length_cons
def qu{c:Type _}{a b:c}{l:List c}(h:a∈b::l):a=b\/a∈l:=List.mem_cons.mp h
def qv:=@Nat.le_refl
def qw{b:Type _}{a:b}{s t:List b}(h:a∈s++t):a∈s\/a∈t:=List.mem_append.mp h
def qx:=@Nat.lt_succ_of_lt
def qy{c d:Type _}{b:d}{f:c->d}{l:List c}(h:b∈l.map f):∃a,a∈l/\f a=b:=List.mem_map.mp h
def qz:=@List.length_append
def Qa:=@Nat.lt_succ_self
def Qb{m n:Nat}(h:m∈List.range n):m<n:=List.mem_range.mp h
def Qc{b:Type _}{p:b->Bool}{l:List b}{a:b}(h:a∈l.filter p):a∈l/\p a=true:=List.mem_filter.mp h
def Qd:=@List.map_cons
def Qe:=@Bool.and_eq_true
def Qf:=@List.map_map
def Qg:=@Nat.le_trans
def Qh:=@Nat.zero_le
def Qi:=@Nat.lt_of_lt_of_le
def Qj:=@List.nil_append
def Ql:=@List.mem_filter
def Qm:=@List.getElem?_map
def Qn:=@List.length_filter_le
def Qo:=@Bool.false_eq_true
def Qp:=@List.getElem?_set_ne
def Qq:=@List.map_congr_left
def Qr:=@List.mem_append_right
def Qs:=@List.mem_map_of_mem
set_option maxHeartbeats 4000000
local macro_rules|`(tactic|trivial)=>`(tactic|first|exact .inl rfl|exact .inr rfl|exact .inr (.inl rfl)|exact .inr (.inr rfl)|assumption)
local macro_rules|`(~~~$x)=>`(($x).heap.objs.size)|`(↑$x)=>`(some (.sh $x))
abbrev AA:=PySem.Value->PySem.Shared->Prop
abbrev AB:=List (PySem.Addr×PySem.Obj)
abbrev AC:=List PySem.Value
abbrev AD:=PySem.Str->Option PySem.Value
abbrev AE:=List Nat
abbrev AF:=List Int
abbrev AG:=List Bool
abbrev AH:=Nat->Bool
abbrev AJ:=List PySem.Str
abbrev AK:=List PySem.Expr
abbrev AL:=Option Nat
def wa:=@PySem.wpAny_bind
def wc:=@PySem.wpAny_pure
def wd:=@PySem.wpAny_holding
def we:=@PySem.wpAny_call_entry
def wg:=@PySem.wpAny_newObj_type
def wh:=@PySem.wpAny_setState_of
def wj:=@decide_eq_true_eq
def wm:=@decide_eq_true
def wn:=@decide_eq_false
def wq:=@of_decide_eq_true
def wt:=@List.map_append
def wu:=@Function.comp_def
def wv:=@PySem.Heap.SameBut.update
def ww:=@PySem.Heap.size_push
def wx:=@PySem.Heap.get?_update_self
def wy:=@PySem.codeAny_builtin
def wz:=@PySem.wpAny_mono
def w4:=@Option.some.inj
def w5:=@Int.toNat_natCast
def w6:=@List.append_nil
def w9:=@List.append_assoc
def ja:=@List.length_singleton
def jb:=@PySem.plainId_quiet
def jc:=@PySem.Around.under_plainId
def jd:=@PySem.PassesOwn.never
def je:=@PySem.Obj.data_mapFields
def jf:=@PySem.wpAny_attempt
def jg:=@PySem.sizeLine_eq
abbrev mZ:=@PySem.model
abbrev W7:=PySem.W.Frag
abbrev P7:=PySem.Program
noncomputable section
namespace L2
open PySem PySem.Spec PyProof.Rows
abbrev aZ:=Sum Int Str
def jA:aZ->Value->Bool
 | .inl k,v=>Value.isInt k v
 | .inr x,v=>Value.isStrOf x v
def yc(w:World):aZ->Int
 | .inl k=>hashInt k
 | .inr x=>hashStr w x
theorem gz:∀{k:aZ}{v:Value},jA k v=true->(∃i t,k=Sum.inl i/\v=Value.int i t)\/(∃x t,k=Sum.inr x/\v=Value.str x t)
 | .inl i,v,h=>by
   obtain⟨t,e⟩:=Value.isInt_shape h;grind
 | .inr x,v,h=>by
   obtain⟨t,e⟩:=Value.isStrOf_shape h;grind
def QU(i:Int)(t:Tok):jA (.inl i) (.int i t)=true:=by simp[jA,Value.isInt]
def QV(x:Str)(t:Tok):jA (.inr x) (.str x t)=true:=by simp[jA,Value.isStrOf]
theorem yd(a b:Int):decide ((Sum.inl a:aZ)=Sum.inl b)=(a==b):=by grind
theorem ye(a b:Str):decide ((Sum.inr a:aZ)=Sum.inr b)=decide (a=b):=by grind
theorem yf(a:Int)(b:Str):decide ((Sum.inl a:aZ)=Sum.inr b)=false:=by grind
theorem yg(a:Str)(b:Int):decide ((Sum.inr a:aZ)=Sum.inl b)=false:=by grind
def Yt(prog:P7)(w:World):KeyKind prog w aZ where
 is:=jA
 hash:=yc w
 inj:=λv a b l m=>by
  rcases gz l with⟨i,t,rfl,rfl⟩|⟨x,t,rfl,rfl⟩
  .rcases gz m with⟨j,u,rfl,e⟩|⟨y,u,rfl,e⟩
   .grind
   grind
  .rcases gz m with⟨j,u,rfl,e⟩|⟨y,u,rfl,e⟩
   .grind
   grind
 byValue:=λk v h=>by
  rcases gz h with⟨i,t,rfl,rfl⟩|⟨x,t,rfl,rfl⟩<;>rfl
 pyHash:=λd h=>by
  rcases gz d with⟨i,t,rfl,rfl⟩|⟨x,t,rfl,rfl⟩
  .exact wpAny_pyHash_int h
  .exact wpAny_pyHash_str h
 eqBool:=λg d h=>by
  rcases gz g with⟨i,t,rfl,rfl⟩|⟨x,t,rfl,rfl⟩
  .rcases gz d with⟨j,u,rfl,rfl⟩|⟨y,u,rfl,rfl⟩
   .rw[yd]at h;exact wpAny_eqBool_int h
   .exact SeqAt.EqAt.int_str i t y u _ _ _ _ h
  .rcases gz d with⟨j,u,rfl,rfl⟩|⟨y,u,rfl,rfl⟩
   .exact SeqAt.EqAt.str_int x t j u _ _ _ _ h
   .rw[ye]at h;exact wpAny_eqBool_str h
 «strs»:=λk x t v h=>by
  rcases gz h with⟨i,u,rfl,e⟩|⟨y,u,rfl,e⟩
  .grind
  .injection e with n _
   subst n;cases v<;>rfl
def QW(prog:P7)(w:World)(i:Int)(t:Tok):(Yt prog w).is (.inl i) (.int i t)=true:=QU i t
def QX(prog:P7)(w:World)(x:Str)(t:Tok):(Yt prog w).is (.inr x) (.str x t)=true:=QV x t
inductive V where
 | non|bl (b:Bool)|int (i:Int)|str (x:Str)|byt (b:Array UInt8)|flt (b:UInt64)|ref (a:Addr)|ty (n:String)
 deriving DecidableEq
abbrev AM:=List V
def RelV:V->Value->Prop
 | .non,u=>u=.none
 | .bl b,u=>u=.bool b
 | .int i,u=>∃t,u=.int i t
 | .str x,u=>∃t,u=.str x t
 | .byt b,u=>∃t,u=.bytes b t
 | .flt b,u=>∃t,u=.float b t
 | .ref a,u=>u=.ref a
 | .ty n,u=>u=.type n
abbrev Vals:AM->AC->Prop:=Paired RelV
def Vals.length(r:Vals xs us):xs.length=us.length:=Paired.length r
theorem Vals.get:∀{xs:AM}{us:AC}{i:Nat}{x:V},Vals xs us->xs[i]?=some x->∃u,us[i]?=some u/\RelV x u
 | _,_,_,_,.nil,e=>by simp at e
 | _,_,0,_,.cons r _,e=>by grind
 | _,_,i+1,x,.cons _ t,e=>by
   obtain⟨u,a,b⟩:=Vals.get t (by simpa using e);grind
theorem Vals.append:∀{xs ys:AM}{us a:AC},Vals xs us->Vals ys a->Vals (xs++ys) (us++a)
 | _,_,_,_,.nil,s=>s
 | _,_,_,_,.cons r t,s=>.cons r (Vals.append t s)
theorem Vals.take:∀{xs:AM}{us:AC} (n:Nat),Vals xs us->Vals (xs.take n) (us.take n)
 | _,_,0,_=>.nil
 | _,_,_+1,.nil=>.nil
 | _,_,n+1,.cons r t=>.cons r (Vals.take n t)
theorem Vals.drop:∀{xs:AM}{us:AC} (n:Nat),Vals xs us->Vals (xs.drop n) (us.drop n)
 | _,_,0,r=>r
 | _,_,_+1,.nil=>.nil
 | _,_,n+1,.cons _ t=>.drop n t
def RelO:Option V->Option Value->Prop
 | some v,some u=>RelV v u
 | none,none=>True
 | _,_=>False
def KV{κ:Type}:List (κ×V)->List (κ×Value)->Prop:=Paired λp q=>p.1=q.1/\RelV p.2 q.2
def kV:aZ->V
 | .inl i=>.int i
 | .inr x=>.str x
inductive HO where
 | lst (xs:AM)
 | tup (xs:AM)
 | dK (kvs:List (aZ×V))|dT (kvs:List (List aZ×V))
 | set (S:Int->Bool) (n:Nat)
 | ins (C dx:Addr) (fs:List (Str×V))
 | own (x:Addr)
 | xd (fs:List (Str×V))
 | met (f x:Addr)
 | rng (lo hi:Int)
 | frz (o:Obj) (u:HO)
 | tbl (ps:Array Value)
 | ext (φ:Heap->Prop)
abbrev Hp:=Addr->Option HO
def upd(H:Hp)(a:Addr)(o:HO):Hp:=λb=>if b=a then some o else H b
theorem Yg:upd H a o a=some o:=by unfold upd;grind
def Yh(h:b≠a):upd H a o b=H b:=by unfold upd;rw[if_neg h]
theorem yh{H:Hp}(h:H a=some o)(h':H b=some u)(d:o≠u):a≠b:=by grind
theorem Yk{H:Hp}(h:H a=some o)(c:H b=none):a≠b:=by grind
section
variable (P:P7) (w:World)
def ObjOk(H:Hp)(h:Heap)(a:Addr):HO->Prop
 | .lst xs=>xs.length<=sizeLine/\∃(its:AC) (n:Nat),Vals xs its/\h.get? a=some { cls:=.type "list",data:=.seq its.toArray n }
 | .tup xs=>xs.length<=sizeLine/\∃its:AC,Vals xs its/\IsTup h a its.toArray
 | .dK c=>c.length<=sizeLine/\(a==sysModules)=false/\∃vs,KV c vs/\h.DictOf (Yt P w) a vs
 | .dT c=>c.length<=sizeLine/\(a==sysModules)=false/\∃xs:List (List aZ×Addr×Value),
  Paired (λp q=>p.1=q.1/\H q.2.1=some (.tup (p.1.map kV))/\RelV p.2 q.2.2) c xs/\
  ∃o k m,h.get? a=some o/\o.ExactDict/\o.data=.dict k m/\k.toList=xs.map (entryOfKey (tupleKind (Yt P w)))/\(xs.map (·.1)).Nodup
 | .set S n=>h.SetOf (intKind P w) a S n
 | .ins C g e=>H g=some (.own a)/\e.length<=1000/\g≠a/\h.get? a=some (W.instObj C g)/\
  ∃d,h.Ns1 g d/\(∀f,RelO (e.lookup f) (d f))/\PySem.Within d (e.map (·.1))
 | .own _=>∃o,h.get? a=some o
 | .xd e=>∃d,h.Ns1 a d/\∀f,RelO (e.lookup f) (d f)
 | .rng lo r=>∃t u v,h.get? a=some { cls:=.type "range",data:=.fields #[.int lo t,.int r u,.int 1 v] }
 | .frz o u=>h.get? a=some o/\ObjOk H h a u
 | .tbl ps=>h.get? a=some { cls:=.none,data:=.fields ps }
 | .met f x=>h.get? a=some (W.methodObj (.ref f) (.ref x))
 | .ext i=>i h/\(∃o,h.get? a=some o)/\∀j l,i j->(∀o,j.get? a=some o->l.get? a=some o)->i l
def HOk(H:Hp)(h:Heap):Prop:=∀a o,H a=some o->ObjOk P w H h a o
end
section
variable {P:P7}{w:World}{H H':Hp}{h h':Heap}{a:Addr}{o:HO}
def ObjOk.lt(x:ObjOk P w H h a o):a<h.objs.size:=by
 cases o with
 | lst k=>obtain⟨_,_,_,_,e⟩:=x;exact ql e
 | tup k=>obtain⟨_,_,_,p⟩:=x;exact p.lt
 | dK b=>obtain⟨_,_,_,_,o,_,_,e,_⟩:=x;exact ql e
 | dT b=>obtain⟨_,_,_,_,o,_,_,e,_⟩:=x;exact ql e
 | set S n=>obtain⟨o,_,_,_,e,_⟩:=x;exact ql e
 | ins C i c=>obtain⟨_,_,_,e,_⟩:=x;exact ql e
 | own y=>obtain⟨_,e⟩:=x;exact ql e
 | xd c=>obtain⟨_,⟨_,_,_,e,_⟩,_⟩:=x;exact ql e
 | rng lo g=>obtain⟨_,_,_,e⟩:=x;exact ql e
 | frz d u=>obtain⟨e,_⟩:=x;exact ql e
 | tbl l=>exact ql (x)
 | met f y=>exact ql (x)
 | ext j=>obtain⟨_,⟨_,e⟩,_⟩:=x;exact ql e
theorem Paired.mapP:∀{g:List d}{c:List e},Paired F g c->(∀a b,F a b->G a b)->Paired G g c
 | _,_,.nil,_=>.nil
 | _,_,.cons r t,f=>.cons (f _ _ r) (Paired.mapP t f)
theorem ObjOk.stay(x:ObjOk P w H h a o)(k:∀b u,(b=a\/H b=some (.own a))->h.get? b=some u->h'.get? b=some u)(G:∀b,H b=some (.own a)->H' b=some (.own a))(E:∀b xs,H b=some (.tup xs)->H' b=some (.tup xs)):ObjOk P w H' h' a o:=by
 induction o with
 | lst xs=>obtain⟨z,l,n,r,e⟩:=x;exact⟨z,l,n,r,k _ _ (.inl rfl) e⟩
 | tup xs=>obtain⟨z,l,r,g,e,c⟩:=x;exact⟨z,l,r,g,k _ _ (.inl rfl) e,c⟩
 | dK s=>obtain⟨z,y,L,r,g,i,j,e,c⟩:=x;exact⟨z,y,L,r,g,i,j,k _ _ (.inl rfl) e,c⟩
 | dT s=>
   obtain⟨z,y,xs,r,g,i,j,e,c⟩:=x;exact⟨z,y,xs,Paired.mapP r λp q z=>⟨z.1,E _ _ z.2.1,z.2.2⟩,g,i,j,k _ _ (.inl rfl) e,c⟩
 | set S n=>obtain⟨g,i,j,t,e,c⟩:=x;exact⟨g,i,j,t,k _ _ (.inl rfl) e,c⟩
 | ins C I D=>
   obtain⟨d,z,B,e,A,⟨m,i,j,M,c⟩,r⟩:=x;exact⟨G _ d,z,B,k _ _ (.inl rfl) e,A,⟨m,i,j,k _ _ (.inr d) M,c⟩,r⟩
 | own y=>obtain⟨g,e⟩:=x;exact⟨g,k _ _ (.inl rfl) e⟩
 | xd D=>obtain⟨A,⟨m,i,j,e,c⟩,r⟩:=x;exact⟨A,⟨m,i,j,k _ _ (.inl rfl) e,c⟩,r⟩
 | rng lo K=>obtain⟨t,u,v,e⟩:=x;exact⟨t,u,v,k _ _ (.inl rfl) e⟩
 | frz g u F=>obtain⟨e,q⟩:=x;exact⟨k _ _ (.inl rfl) e,F q⟩
 | tbl N=>
   have e:_=_:=x;show _=_;grind
 | met f y=>
   have e:_=_:=x;show _=_;grind
 | ext J=>obtain⟨p,⟨o,e⟩,st⟩:=x;exact⟨st _ _ p λo q=>k _ _ (.inl rfl) q,⟨o,k _ _ (.inl rfl) e⟩,st⟩
def HOk.lt(x:HOk P w H h)(e:H a=some o):a<h.objs.size:=(x a o e).lt
def HOk.fresh(x:HOk P w H h)(e:h.objs.size<=a):H a=none:=by
 cases q:H a with
 | none=>rfl
 | some u=>exact absurd (Qi (x.lt q) e) (Nat.lt_irrefl _)
def HOk.kept(x:HOk P w H h)(k:∀b u,h.get? b=some u->h'.get? b=some u):HOk P w H h':=λa o e=>
 (x a o e).stay (λb u _ q=>k b u q) (λ_ q=>q) λ_ _ q=>q
theorem HOk.laid(x:HOk P w H h)(k:∀b u,h.get? b=some u->h'.get? b=some u)(g:h.objs.size<=a)(f:ObjOk P w (upd H a o) h' a o):HOk P w (upd H a o) h':=λb u e=>by
 have d:=x.fresh g;by_cases i:b=a
 .subst i;rw[Yg]at e;grind
 .rw[Yh i]at e
  exact(x b u e).stay (λc v _ q=>k c v q) (λc q=>by rwa [Yh (Yk q d)]) λc j q=>by rwa [Yh (Yk q d)]
end
def Rd(H:Hp)(a:Addr)(u:HO):Prop:=H a=some u\/∃o,H a=some (.frz o u)
def Rd.ok(r:Rd H a u)(x:HOk P w H h):ObjOk P w H h a u:=by
 rcases r with r|⟨o,r⟩
 .exact x a u r
 .obtain⟨_,q⟩:=x a _ r
  exact q
def mM:Option HO->Prop
 | some (.lst _)=>True
 | some (.dK _)=>True
 | some (.dT _)=>True
 | some (.set _ _)=>True
 | some (.ins _ _ _)=>True
 | some (.ext _)=>True
 | _=>False
section
variable {P:P7}{w:World}{H:Hp}{h h':Heap}{x e:Addr}{o':HO}
theorem HOk.write(l:HOk P w H h)(d:mM (H x))(o:e=x\/H e=some (.own x))(k:∀b u,b≠e->h.get? b=some u->h'.get? b=some u)(f:∃u,h'.get? e=some u)(i:ObjOk P w (upd H x o') h' x o'):HOk P w (upd H x o') h':=λb u q=>by
 have a:∀c y,H c=some (.own y)->c≠x:=λc y r z=>by subst z;rwa [r]at d
 by_cases p:b=x
 .subst p;rw[Yg]at q;grind
 .rw[Yh p]at q
  by_cases j:b=e
  .have g:H b=some (.own x):=by
    grind
   rw[q]at g;cases g;obtain⟨v,m⟩:=f;exact⟨v,by grind⟩
  .refine(l b u q).stay (λc v n r=>k c v ?_ r) (λc r=>by rwa [Yh (a c b r)]) λc s r=>by rwa [Yh ((λc s r z=>by subst z;rwa [r]at d) c s r)]
   grind
end
structure Un(fs ex:List Addr)(H H':Hp)(h h':Heap):Prop where
 keep:∀b o,h.get? b=some o->H b=none->b∉fs->b∉ex->h'.get? b=some o
 slot:∀b o,h.get? b=some o->H b=none->b∈fs->b∉ex->∃sl,h'.get? b=some { o with slots:=sl }
 free:∀b o,h.get? b=some o->H b=none->b∉ex->H' b=none
 there:∀b o,h.get? b=some o->b∉ex->∃o',h'.get? b=some o'
 tups:∀b xs,H b=some (.tup xs)->H' b=some (.tup xs)
 frzs:∀b o u,H b=some (.frz o u)->H' b=some (.frz o u)
 tbls:∀b ps,H b=some (.tbl ps)->∃more,H' b=some (.tbl (ps++more))
section
variable {fs fs' ex ex':List Addr}{H H1 H2:Hp}{h h1 h2 h':Heap}{a x e:Addr}{o:HO}
def Un.any(u:Un fs ex H H1 h h1)(q:h.get? b=some c)(n:H b=none)(d:b∉ex):∃f,h1.get? b=some { c with slots:=f }:=by
 by_cases a:b∈fs
 .exact u.slot b c q n a d
 .exact⟨c.slots,u.keep b c q n a d⟩
def Un.kept(k:∀b u,h.get? b=some u->h'.get? b=some u):Un fs ex H H h h':=
 ⟨λb c q _ _ _=>k b c q,λb c q _ _ _=>⟨c.slots,k b c q⟩,λ_ _ _ n _=>n,λb c q _=>⟨c,k b c q⟩,λ_ _ q=>q,λ_ _ _ q=>q,λ_ a q=>⟨#[],by rw[q];simp⟩⟩
def Un.refl:Un fs ex H H h h:=.kept λ_ _ q=>q
theorem Un.laid(k:∀b u,h.get? b=some u->h'.get? b=some u)(d:h.objs.size<=a)(c:H a=none):Un fs ex H (upd H a o) h h' where
 keep:=λb u q _ _ _=>k b u q
 slot:=λb u q _ _ _=>⟨u.slots,k b u q⟩
 free:=λb u q n _=>by rwa [Yh (qm (Qi (ql q) d))]
 there:=λb u q _=>⟨u,k b u q⟩
 tups:=λb e q=>by rwa [Yh (Yk q c)]
 frzs:=λb u e q=>by rwa [Yh (Yk q c)]
 tbls:=λb f q=>⟨#[],by rw[Yh (Yk q c),q];simp⟩
theorem Un.write(d:mM (H x))(j:e=x\/H e=some (.own x))(k:∀b u,b≠e->h.get? b=some u->h'.get? b=some u)(g:∃u,h'.get? e=some u):Un fs ex H (upd H x o) h h':=by
 have f:∀b,H b=none->b≠x:=λb n z=>by subst z;rwa [n]at d
 have a:∀b,H b=none->b≠e:=λb n z=>by
  grind
 have c:∀b u,H b=some u->¬mM (some u)->b≠x:=λb u q i z=>by grind
 refine⟨λb u q n _ _=>k b u (a b n) q,λb u q n _ _=>⟨u.slots,k b u (a b n) q⟩,λb u q n _=>by rwa [Yh (f b n)],λb u q _=>?_,
  λb l q=>by rwa [Yh (c b _ q λz=>z)],λb u l q=>by rwa [Yh (c b _ q λz=>z)],λb m q=>⟨#[],by rw[Yh (c b _ q λz=>z),q];simp⟩⟩
 grind
end
def QY(h:Heap)(H:Hp):List Addr:=(List.range h.objs.size).filter λa=>(H a).isSome
def eh(h:Heap)(H:Hp):Heap:=W.hideAll h (QY h H)
def QZ(h:Heap)(H:Hp):(eh h H).objs.size=h.objs.size:=W.hideAll_size _ _
theorem Q0(e:h.get? b=some o)(n:H b=none):(eh h H).get? b=some o:=
 W.hideAll_get _ e λc=>by
  have q:=(Qc c).2;grind
theorem yi(e:(eh h H).get? b=some o):h.get? b=some o/\H b=none:=by
 have c:=W.of_hideAll _ e;refine⟨c,?_⟩
 cases q:H b with
 | none=>rfl
 | some x=>
   have z:(eh h H).get? b=none:=W.hideAll_none _ (List.mem_filter.mpr ⟨List.mem_range.mpr (ql c),by simp[q]⟩);grind
structure Mod(K:W7)(mg:AD)(base:Heap):Prop where
 kin:K.In base
 glob:base.Ns mainGlobals mg
 blt:∃mb,base.Ns builtinsNs mb/\∀x:Str,x≠"__name__"->mb x=bootBuiltins x
 nolimit:base.NoLimit
structure Cx where
 prog:P7
 w:World
 K:W7
 mg:AD
 base:Heap
 A:Around
 N:AJ
 s₀:Shared
 H₀:Hp
 env:Env
 outer:List Env
 stack:List Env
 ex:List Addr
 fn:Str->Bool
 calm:Bool
 pn:AB
 xe:AA
def fE(l:List Env):List Addr:=l.filterMap (·.frame)
abbrev Cx.fs(X:Cx):List Addr:=fE X.outer
def eW(a:Scope)(x:Str):Prop:=a.names.lookup x=some .local\/a.names.lookup x=some .cell\/a.names.lookup x=some .free
def c9(a:Scope)(x:Str):Prop:=a.names.lookup x=some .local\/a.names.lookup x=some .cell
def yj(env:Env)(h:Heap)(m:AD)(x:Str)(u:Value):Prop:=
 env.kindOf x=some .local/\m x=some u\/((env.kindOf x=some .cell\/env.kindOf x=some .free)/\∃c,env.cells.lookup x=some c/\h.IsCell c (some u))
structure Cx.Ok(X:Cx):Prop where
 mod:Mod X.K X.mg X.base
 kind:X.env.scope.kind=.function
 glob:X.env.globals=mainGlobals
 blt:X.env.builtins=builtinsNs
 above:X.s₀.heap.objs.size<=X.env.locals
 inj:∀x y c,X.env.cells.lookup x=some c->X.env.cells.lookup y=some c->x=y
 has:∀x,(X.env.kindOf x=some .cell\/X.env.kindOf x=some .free)->∃c,X.env.cells.lookup x=some c
 cab:∀x c,X.fn x=true->X.env.cells.lookup x=some c->X.s₀.heap.objs.size<=c
 hd:X.calm=true->X.A.handled=none
 frames:X.A.frames=some X.stack
 stk:X.stack=X.outer\/(X.stack=X.env::X.outer/\X.env.frame=some X.env.locals)
 exf:∀b∈X.ex,b≠X.env.locals/\∀x c,X.env.cells.lookup x=some c->c≠b
 bs:∀b o,X.base.get? b=some o->X.s₀.heap.get? b=some o/\X.H₀ b=none
 bsz:X.base.objs.size<=X.s₀.heap.objs.size
 noex:∀b o,X.base.get? b=some o->b∉X.ex
 exfs:∀b∈X.ex,b∉X.fs
 funs:X.s₀.heap.FunFrames X.base X.outer
 frf:∀b∈X.fs,X.H₀ b=none
structure Inv(X:Cx)(pins:AB)(σ:List (Option V))(H:Hp)(s:Shared):Prop where
 ok:X.Ok
 os:s.os=X.s₀.os
 bare:AllBare s.gens
 base:Un X.fs X.ex X.H₀ H X.s₀.heap s.heap
 loc:∃m,s.heap.Ns X.env.locals m/\∀(i:Nat) (x:Str) (v:V),X.N[i]?=some x->σ[i]?=some (some v)->eW X.env.scope x->∃u,RelV v u/\yj X.env s.heap m x u
 cell:∀x c,X.env.cells.lookup x=some c->∃v,s.heap.IsCell c v
 free:H X.env.locals=none
 freeC:∀x c,X.env.cells.lookup x=some c->H c=none
 pin:∀p∈X.pn++pins,s.heap.get? p.1=some p.2/\H p.1=none/\p.1≠X.env.locals/\p.1∉X.fs/\∀v,p.2.data≠.cell v
 hok:HOk X.prog X.w H s.heap
 len:σ.length=X.N.length
section
variable {X:Cx}{pins:AB}{σ:List (Option V)}{H H':Hp}{s:Shared}{h':Heap}
theorem Cx.Ok.nofr(c:X.Ok)(e:X.base.get? b=some o):b∉X.fs:=λa=>by
 have:=(c.funs.mem a).1;grind
def Inv.bs(I:Inv X pins σ H s):∀b o,X.base.get? b=some o->s.heap.get? b=some o/\H b=none:=λb o e=>
 ⟨I.base.keep b o (I.ok.bs b o e).1 (I.ok.bs b o e).2 (I.ok.nofr e) (I.ok.noex b o e),I.base.free b o (I.ok.bs b o e).1 (I.ok.bs b o e).2 (I.ok.noex b o e)⟩
def Inv.bk(I:Inv X pins σ H s):∀b o,X.base.get? b=some o->s.heap.get? b=some o:=λb o e=>(I.bs b o e).1
def Inv.mod(I:Inv X pins σ H s):Mod X.K X.mg X.base:=I.ok.mod
def Inv.kIn(I:Inv X pins σ H s):X.K.In s.heap:=I.ok.mod.kin.keeps I.bk
def Inv.lt(I:Inv X pins σ H s):X.env.locals< ~~~s:=let ⟨_,a,_⟩:=I.loc;a.lt
def Inv.sz(I:Inv X pins σ H s):X.s₀.heap.objs.size<= ~~~s:=Qg I.ok.above (Nat.le_of_lt I.lt)
def Inv.nofs(I:Inv X pins σ H s){a:Addr}(h:(~~~s)<=a):a∉X.fs:=λc=>by
 obtain⟨_,o,b,_⟩:=I.ok.funs.mem c;exact absurd (Qi (ql b) (Qg I.sz h)) (Nat.lt_irrefl _)
theorem Inv.cne(I:Inv X pins σ H s):∀x c,X.env.cells.lookup x=some c->c≠X.env.locals:=λx c e z=>by
 obtain⟨v,o,d,i⟩:=I.cell x c e;obtain⟨m,⟨g,f,h,b,a,_⟩,_⟩:=I.loc;grind
theorem Inv.funs(I:Inv X pins σ H s):s.heap.FunFrames X.base X.outer:=by
 have c:∀(l:_),(∀b∈fE l,b∈X.fs)->X.s₀.heap.FunFrames X.base l->s.heap.FunFrames X.base l:=by
  intro l
  induction l with
  | nil=>intro _ _;trivial
  | cons t r k=>
    intro q m;obtain⟨j,⟨L,o,d,i,f,h⟩,g⟩:=m;have a:=q L (by unfold fE;grind);obtain⟨n,e⟩:=I.base.slot L o f (I.ok.frf L a) a λz=>I.ok.exfs L z a;exact⟨j,⟨L,_,d,i,e,h⟩,k (λb p=>q b (by unfold fE;rw[List.filterMap_cons,d];exact qg _ p)) g⟩
 exact c _ (λ_ p=>p) I.ok.funs
def Inv.stack(I:Inv X pins σ H s):s.heap.FunFrames X.base X.stack:=by
 rcases I.ok.stk with e|⟨e,b⟩
 .rw[e];exact I.funs
 .rw[e]
  obtain⟨m,a,_⟩:=I.loc;exact .cons (by rw[I.ok.kind];decide) b a (Heap.get?_none_of_le (Qg I.ok.bsz I.ok.above)) I.funs
theorem Inv.stkSub(I:Inv X pins σ H s):∀b∈fE X.stack,b∈X.env.locals::X.fs:=λb c=>by
 rcases I.ok.stk with e|⟨e,a⟩
 .grind
 .rw[e]at c
  unfold fE at c
  rwa [List.filterMap_cons,a]at c
def Inv.stkFree(I:Inv X pins σ H s):∀b∈fE X.stack,H b=none:=λb c=>by
 rcases qu (I.stkSub b c)with e|c
 .rw[e];exact I.free
 .obtain⟨_,o,a,_⟩:=I.ok.funs.mem c
  exact I.base.free b o a (I.ok.frf b c) λz=>I.ok.exfs b z c
theorem Inv.step{ch:List Addr}(I:Inv X pins σ H s)(g:∀b∈ch,(b∈X.ex\/X.s₀.heap.objs.size<=b)/\b≠X.env.locals/\(∀x c,X.env.cells.lookup x=some c->c≠b)/\∀p∈X.pn++pins,p.1≠b)(h:∀b o,b≠X.env.locals->b∉X.fs->b∉ch->s.heap.get? b=some o->H b=none->h'.get? b=some o)(j:∀b o,b≠X.env.locals->b∈X.fs->b∉ch->s.heap.get? b=some o->H b=none->∃G,h'.get? b=some { o with slots:=G })(f:∀b o,b∉ch->s.heap.get? b=some o->H b=none->H' b=none)(K:∀b o,b∉ch->s.heap.get? b=some o->∃F,h'.get? b=some F)(E:∀b xs,H b=some (.tup xs)->H' b=some (.tup xs))(C:∀b o u,H b=some (.frz o u)->H' b=some (.frz o u))(O:∀b ps,H b=some (.tbl ps)->∃B,H' b=some (.tbl (ps++B)))(ns:∀m,s.heap.Ns X.env.locals m->h'.Ns X.env.locals m)(M:HOk X.prog X.w H' h')(S:AllBare g'):
 Inv X pins σ H' { s with heap:=h',gens:=g',drawn:=d',toks:=t' }:=by
 have A:∀b o,X.s₀.heap.get? b=some o->b≠X.env.locals:=λb o e=>qm (Qi (ql e) I.ok.above)
 have w:∀b o,X.s₀.heap.get? b=some o->b∉X.ex->b∉ch:=λb o e a V=>by
  rcases(g b V).1 with z|z
  .exact a z
  .exact absurd (Qi (ql e) z) (Nat.lt_irrefl _)
 have t:∀x c,_->∀v,s.heap.IsCell c v->h'.IsCell c v:=λx c e v J=>by
  obtain⟨o,y,L⟩:=J;have D:c∉ch:=λz=>(g c z).2.2.1 x c e rfl;by_cases N:c∈X.fs
  .obtain⟨G,q⟩:=j c o (I.cne x c e) N D y (I.freeC x c e)
   exact⟨_,q,L⟩
  .exact⟨o,h c o (I.cne x c e) N D y (I.freeC x c e),L⟩
 refine⟨I.ok,I.os,S,⟨λb o e n V a=>?_,λb o e n V a=>?_,λb o e n a=>?_,λb o e a=>?_,λb xs e=>E b xs (I.base.tups b xs e),λb o xs e=>C b o xs (I.base.frzs b o xs e),λb ps e=>?_⟩,?_,λx c e=>?_,?_,λx c e=>?_,λp U=>?_,M,I.len⟩
 .exact h b o (A b o e) V (w b o e a) (I.base.keep b o e n V a) (I.base.free b o e n a)
 .obtain⟨G,e1⟩:=I.base.slot b o e n V a
  obtain⟨R,e2⟩:=j b _ (A b o e) V (w b o e a) e1 (I.base.free b o e n a);grind
 .obtain⟨F,e1⟩:=I.base.there b o e a
  exact f b F (w b o e a) e1 (I.base.free b o e n a)
 .obtain⟨F,e1⟩:=I.base.there b o e a
  grind
 .obtain⟨Y,e1⟩:=I.base.tbls b ps e
  grind
 .obtain⟨m,T,Q⟩:=I.loc
  refine⟨m,ns m T,λi x v e1 e2 P=>?_⟩;obtain⟨u,r,l⟩:=Q i x v e1 e2 P;refine⟨u,r,?_⟩;rcases l with l|⟨k,c,e,z⟩
  .exact .inl l
  .exact .inr ⟨k,c,e,t x c e _ z⟩
 .obtain⟨v,z⟩:=I.cell x c e
  grind
 .obtain⟨m,⟨o,_,_,y,_⟩,_⟩:=I.loc
  exact f _ o (λz=>(g _ z).2.1 rfl) y I.free
 .obtain⟨v,o,y,L⟩:=I.cell x c e
  exact f c o (λz=>(g c z).2.2.1 x c e rfl) y (I.freeC x c e)
 .obtain⟨e,n,Z,W,d⟩:=I.pin p U
  grind
theorem Inv.un(I:Inv X pins σ H s)(u:Un X.fs [] H H' s.heap h')(f:HOk X.prog X.w H' h'):Inv X pins σ H' { s with heap:=h',toks:=t' }:=by
 obtain⟨m,⟨o,q,t,g,r⟩,_⟩:=id I.loc;obtain⟨p,j⟩:=u.any g I.free (by simp)
 exact I.step (ch:=[]) (λ_ z=>nomatch z) (λb o _ v _ e n=>u.keep b o e n v (by simp)) (λb o _ v _ e n=>u.slot b o e n v (by simp)) (λb o _ e n=>u.free b o e n (by simp)) (λb o _ e=>u.there b o e (by simp)) u.tups u.frzs u.tbls (λk h=>by
  obtain⟨l,c,d,a,i⟩:=h;rw[g]at a;cases a
  exact⟨_,c,d,j,i⟩) f I.bare
def Inv.call(I:Inv X pins σ H s)(u:Un (fE X.stack) ch H H' s.heap h')(i:HOk X.prog X.w H' h')(q:AllBare D)(d:∀b∈ch,(b∈X.ex\/X.s₀.heap.objs.size<=b)/\b≠X.env.locals/\(∀x c,X.env.cells.lookup x=some c->c≠b)/\∀p∈X.pn++pins,p.1≠b):
 Inv X pins σ H' { s with heap:=h',gens:=D,drawn:=E,toks:=t' }:=by
 obtain⟨m,⟨o,B,A,k,r⟩,_⟩:=id I.loc;obtain⟨v,j⟩:=u.any k I.free λz=>(d _ z).2.1 rfl
 exact I.step d (λb o j C a e n=>u.keep b o e n (λz=>(qu (I.stkSub b z)).elim j C) a) (λb o _ _ a e n=>u.any e n a) (λb o a e n=>u.free b o e n a) (λb o a e=>u.there b o e a) u.tups u.frzs u.tbls (λy l=>by
  obtain⟨w,g,h,f,t⟩:=l;rw[k]at f;cases f
  exact⟨_,g,h,j,t⟩) i q
theorem Inv.turned(I:Inv X pins σ H s)(k:∀b o,b≠a->s.heap.get? b=some o->h'.get? b=some o)(t:H a=none)(i:a≠X.env.locals)(w:a∈X.ex\/X.s₀.heap.objs.size<=a)(y:∀x c,X.env.cells.lookup x=some c->c≠a)(l:∀p∈X.pn++pins,p.1≠a):Inv X pins σ H { s with heap:=h',toks:=t' }:=by
 refine I.step (ch:=[a]) (λb A=>?_) (λb o _ _ d e _=>k b o (λz=>d (by simp[z])) e) (λb o _ _ d e _=>⟨o.slots,k b o (λz=>d (by simp[z])) e⟩) (λ_ _ _ _ n=>n)
  (λb o d e=>⟨o,k b o (λz=>d (by simp[z])) e⟩) (λ_ _ e=>e) (λ_ _ _ e=>e) (λb B e=>⟨#[],by rw[e];simp⟩) (λm f=>?_) (λb u e=>?_) I.bare
 .grind
 .obtain⟨o,g,h,j,r⟩:=f
  exact⟨o,g,h,k _ o (.symm i) j,r⟩
 .refine(I.hok b u e).stay (λc v d q=>k c v ?_ q) (λ_ q=>q) λ_ _ q=>q
  grind
def Inv.tok(I:Inv X pins σ H s)(t:Nat):Inv X pins σ H { s with toks:=t }:=I.un .refl I.hok
def Inv.kept(I:Inv X pins σ H s)(k:∀b u,s.heap.get? b=some u->h'.get? b=some u):Inv X pins σ H { s with heap:=h',toks:=t' }:=I.un (.kept k) (I.hok.kept k)
def Inv.laid{a:Addr}(I:Inv X pins σ H s)(k:∀b u,s.heap.get? b=some u->h'.get? b=some u)(c:(~~~s)<=a)(d:ObjOk X.prog X.w (upd H a o) h' a o):
 Inv X pins σ (upd H a o) { s with heap:=h',toks:=t' }:=I.un (.laid k c (I.hok.fresh c)) (I.hok.laid k c d)
def Inv.write(I:Inv X pins σ H s)(f:mM (H x))(d:e=x\/H e=some (.own x))(k:∀b u,b≠e->s.heap.get? b=some u->h'.get? b=some u)(a:∃u,h'.get? e=some u)(c:ObjOk X.prog X.w (upd H x o) h' x o):Inv X pins σ (upd H x o) { s with heap:=h',toks:=t' }:=I.un (.write f d k a) (I.hok.write f d k a c)
def Inv.pins_of(I:Inv X pins σ H s)(h:∀p∈a,s.heap.get? p.1=some p.2/\H p.1=none/\p.1≠X.env.locals/\p.1∉X.fs/\∀v,p.2.data≠.cell v):Inv X a σ H s:=
 ⟨I.ok,I.os,I.bare,I.base,I.loc,I.cell,I.free,I.freeC,λp b=>(qw b).elim (λz=>I.pin p (List.mem_append_left _ z)) (h p),I.hok,I.len⟩
def Ki{N:AJ}(c:N.Nodup){i j:Nat}(a:N[i]?=some x)(b:N[j]?=some x):i=j:=by
 obtain⟨e,f⟩:=qo a;obtain⟨d,g⟩:=qo b;exact(List.getElem_inj c).mp (f.trans g.symm)
theorem Kj(I:Inv X pins σ H s)(hN:X.N.Nodup)(J:X.N[i]?=some x)(g:c9 X.env.scope x)(r:RelV v u)(h:∀s',Inv X pins (σ.set i (some v)) H s'->(∃a,Heap.SameBut a s.heap s'.heap/\(a=X.env.locals\/X.env.cells.lookup x=some a))->Q () s')(hf:X.fn x=true\/X.env.scope.names.lookup x=some .local:=by trivial):wpAny M A (storeName X.env x u) Q E s:=by
 obtain⟨m,N,hl⟩:=id I.loc
 have F:(X.env.scope.kind==.class||(X.env.scope.kind==.module&&X.env.locals != X.env.globals))=false:=by rw[I.ok.kind];rfl
 have t:i<σ.length:=by rw[I.len];grind
 have B:=I.cne
 have f:∀{a:Addr}{h':Heap},(∃o,s.heap.get? a=some o/\H a=none)->Heap.SameBut a s.heap h'->HOk X.prog X.w H h':=λ{a h'} ha V b ob e=>by
  refine(I.hok b ob e).stay (λc R l q=>(V.2 c ?_).trans q) (λ_ q=>q) λ_ _ q=>q;grind
 rcases g with D|D
 .refine wpAny_storeName_local D N (λh' hn' V=>?_) F
  obtain⟨oL,_,_,Z,_⟩:=id N;refine h _ ⟨I.ok,I.os,I.bare,⟨λb o e n hb g=>?_,λb o e n hb g=>?_,I.base.free,λb o e g=>?_,I.base.tups,I.base.frzs,I.base.tbls⟩,⟨_,hn',λj y O e1 e2 U=>?_⟩,λy c e=>?_,I.free,I.freeC,λp L=>?_,f ⟨oL,Z,I.free⟩ V,by simpa using I.len⟩ ⟨_,V,.inl rfl⟩
  .exact(V.2 b (qm (Qi (ql e) I.ok.above))).trans (I.base.keep b o e n hb g)
  .obtain⟨T,e1⟩:=I.base.slot b o e n hb g
   exact⟨T,(V.2 b (qm (Qi (ql e) I.ok.above))).trans e1⟩
  .obtain⟨o',e1⟩:=I.base.there b o e g
   exact⟨o',(V.2 b (qm (Qi (ql e) I.ok.above))).trans e1⟩
  .by_cases w:j=i
   .subst w
    rw[J]at e1;cases e1;rw[List.getElem?_set_self t]at e2;cases e2;exact⟨u,r,.inl ⟨D,by simp⟩⟩
   .rw[Qp (Ne.symm w)]at e2
    obtain⟨W,S,q⟩:=hl j y O e1 e2 U;refine⟨W,S,?_⟩;rcases q with⟨k,e⟩|⟨k,c,e,z⟩
    .refine .inl ⟨k,?_⟩
     have:y≠x:=λe=>w (Ki hN e1 (e ▸ J));grind
    .exact .inr ⟨k,c,e,z.sameBut V (B y c e)⟩
  .obtain⟨R,z⟩:=I.cell y c e
   exact⟨R,z.sameBut V (B y c e)⟩
  .obtain⟨e,n,K,nf,d⟩:=I.pin p L
   exact⟨(V.2 p.1 K).trans e,n,K,nf,d⟩
 .have C:X.fn x=true:=by
   grind
  obtain⟨c,l⟩:=I.ok.has x (.inl D);obtain⟨R,z⟩:=I.cell x c l;refine wpAny_storeName_cell I.ok.kind D l z (λh' P V=>?_);obtain⟨oc,hoc,hocd⟩:=id z;refine h { s with heap:=h' } ⟨I.ok,I.os,I.bare,⟨λb o e n hb g=>?_,λb o e n hb g=>?_,I.base.free,λb o e g=>?_,I.base.tups,I.base.frzs,I.base.tbls⟩,⟨m,N.sameBut V (Ne.symm (B x c l)),λj y O e1 e2 U=>?_⟩,λy G e=>?_,I.free,I.freeC,λp L=>?_,f ⟨oc,hoc,I.freeC x c l⟩ V,by simpa using I.len⟩ ⟨c,V,.inr l⟩
  .exact(V.2 b (qm (Qi (ql e) (I.ok.cab x c C l)))).trans (I.base.keep b o e n hb g)
  .obtain⟨T,e1⟩:=I.base.slot b o e n hb g
   exact⟨T,(V.2 b (qm (Qi (ql e) (I.ok.cab x c C l)))).trans e1⟩
  .obtain⟨o',e1⟩:=I.base.there b o e g
   exact⟨o',(V.2 b (qm (Qi (ql e) (I.ok.cab x c C l)))).trans e1⟩
  .by_cases w:j=i
   .subst w
    rw[J]at e1;cases e1;rw[List.getElem?_set_self t]at e2;cases e2;exact⟨u,r,.inr ⟨.inl D,c,l,P⟩⟩
   .rw[Qp (Ne.symm w)]at e2
    obtain⟨W,S,q⟩:=hl j y O e1 e2 U;refine⟨W,S,?_⟩;rcases q with q|⟨k,G,e,z'⟩
    .exact .inl q
    .refine .inr ⟨k,G,e,z'.sameBut V ?_⟩
     rintro rfl;exact w (Ki hN e1 (I.ok.inj _ _ _ e l ▸ J))
  .by_cases Y:G=c
   .grind
   .obtain⟨w2,z2⟩:=I.cell y G e
    exact⟨w2,z2.sameBut V Y⟩
  .obtain⟨e,n,K,nf,d⟩:=I.pin p L
   refine⟨(V.2 p.1 ?_).trans e,n,K,nf,d⟩;grind
def yk(I:Inv X pins σ H s)(a:X.N.Nodup)(d:X.N[i]?=some x)(b:c9 X.env.scope x)(r:RelV v u)(h:∀s',Inv X pins (σ.set i (some v)) H s'->Q () s')(e:X.fn x=true\/X.env.scope.names.lookup x=some .local:=by trivial):wpAny M A (storeName X.env x u) Q E s:=
 Kj I a d b r (λs' c _=>h s' c) e
def Inv.call'(I:Inv X pins σ H s)(f:s'.os=s.os)(u:Un (fE X.stack) ch H H' s.heap s'.heap)(d:HOk X.prog X.w H' s'.heap)(e:AllBare s'.gens)(a:∀b∈ch,(b∈X.ex\/X.s₀.heap.objs.size<=b)/\b≠X.env.locals/\(∀x c,X.env.cells.lookup x=some c->c≠b)/\∀p∈X.pn++pins,p.1≠b):Inv X pins σ H' s':=by
 obtain⟨k,h,j,i,g⟩:=s';subst f;exact I.call u d e a
end
abbrev XK:=Value->Option Addr->Hp->Prop
abbrev St:=List (Option V)
abbrev VK:=V->Hp->Prop
abbrev TE:=St->Hp->VK->Prop
abbrev TT:=St->Hp->(Bool->Hp->Prop)->Prop
abbrev TA:=St->Hp->(AM->Hp->Prop)->Prop
structure dD where
 nx:St->Hp->Prop
 rt:VK
 bk:St->Hp->Prop:=λ_ _=>False
 ct:St->Hp->Prop:=λ_ _=>False
abbrev TS:=dD->St->Hp->Prop
def EP(X:Cx)(pins:AB)(σ:St)(Q:VK)(u:Value)(s':Shared):Prop:=∃v a,Inv X pins σ a s'/\RelV v u/\Q v a
def TP(X:Cx)(pins:AB)(σ:St)(Q:Bool->Hp->Prop)(b:Bool)(s':Shared):Prop:=∃a,Inv X pins σ a s'/\Q b a
def AP(X:Cx)(pins:AB)(σ:St)(Q:AM->Hp->Prop)(us:AC)(s':Shared):Prop:=∃a b,Inv X pins σ b s'/\Vals a us/\Q a b
def SP(X:Cx)(pins:AB)(D:dD)(f:Flow)(s':Shared):Prop:=
 match f with
 | .next=>∃a b,Inv X pins a b s'/\D.nx a b
 | .brk=>∃a b,Inv X pins a b s'/\D.bk a b
 | .cont=>∃a b,Inv X pins a b s'/\D.ct a b
 | .ret u=>∃v a b,Inv X pins a b s'/\RelV v u/\D.rt v b
def PE(X:Cx)(e:Expr)(t:TE):Prop:=
 ∀(a:List _) (s:Shared) (b:St) (H:Hp) (Q:VK),Inv X a b H s->t b H Q->wpAny (mZ X.prog X.w) X.A (eval e X.env) (EP X a b Q) X.xe s
def PT(X:Cx)(e:Expr)(t:TT):Prop:=
 ∀(a:List _) (s:Shared) (b:St) (H:Hp) (Q:Bool->Hp->Prop),Inv X a b H s->t b H Q->wpAny (mZ X.prog X.w) X.A (isTrue e X.env (eval e X.env)) (TP X a b Q) X.xe s
def PW(X:Cx)(e:Expr)(t:TT):Prop:=
 ∀(a:Sem _) (b:List _) (s:Shared) (c:St) (H:Hp) (Q:Bool->Hp->Prop),Inv X b c H s->t c H Q->wpAny (mZ X.prog X.w) X.A (isTrue e X.env a) (TP X b c Q) X.xe s
def PW.pt(h:PW X e t):PT X e t:=h _
def PA(X:Cx)(b:AK)(t:TA):Prop:=
 ∀(a:Pos) (c:List _) (s:Shared) (d:St) (H:Hp) (Q:AM->Hp->Prop),Inv X c d H s->t d H Q->wpAny (mZ X.prog X.w) X.A (spliced (backTo a (starEach b X.env))) (AP X c d Q) X.xe s
def PS(X:Cx)(st:Stmt)(t:TS):Prop:=
 ∀(a:List _) (s:Shared) (b:St) (H:Hp) (D:dD),Inv X a b H s->t D b H->wpAny (mZ X.prog X.w) X.A (exec st X.env) (SP X a D) X.xe s
def PSs(X:Cx)(st:List Stmt)(t:TS):Prop:=
 ∀(a:List _) (s:Shared) (b:St) (H:Hp) (D:dD),Inv X a b H s->t D b H->wpAny (mZ X.prog X.w) X.A (execs st X.env) (SP X a D) X.xe s
def az(h:wpAny M A t Q E s)(c:∀a s,Q a s->b a s):wpAny M A t b E s:=wz h c λ_ _ x=>x
section
variable {X:Cx}
def ym(i:Nat):TE:=λa H Q=>∃v,a[i]?=some (some v)/\Q v H
def tC(v:V):TE:=λ_ H Q=>Q v H
abbrev cv(x:Str):Prop:=(x==("__debug__":Str))=false
abbrev fR(x:Str):Prop:=(x==("__classdict__":Str))=false
def gA{j:Pos}(p:X.N[i]?=some x)(o:eW X.env.scope x)(f:cv x:=by decide)(g:fR x:=by decide):PE X (.Name x j) (ym i):=by
 intro w s y H Q I h;obtain⟨v,e,h⟩:=h;obtain⟨m,n,q⟩:=I.loc;obtain⟨u,r,l⟩:=q i x v p e o
 have b:EP X _ y Q u s:=⟨v,H,I,r,h⟩
 rcases l with⟨d,t⟩|⟨d,c,k,a⟩
 .exact wpAny_Name (wpAny_loadName_local I.ok.kind d n t b) f
 .rcases d with d|d
  .exact wpAny_Name (wpAny_loadName_cell I.ok.kind d k a b) f
  .exact wpAny_Name (wpAny_loadName_free I.ok.kind d k a b g) f
def yn{i j a}:PE X (.Constant (.int i) j a) (tC (.int i)):=λ_ _ _ H _ I h=>wpAny_Constant_int ⟨.int i,H,I.tok _,⟨_,rfl⟩,h⟩
def yo{b j a}:PE X (.Constant (.bool b) j a) (tC (.bl b)):=λ_ _ _ H _ I h=>Constant_bool ⟨.bl b,H,I,rfl,h⟩
def yp{j a}:PE X (.Constant .none j a) (tC .non):=λ_ _ _ H _ I h=>Constant_none ⟨.non,H,I,rfl,h⟩
def mN{x j b}:PE X (.Constant (.str x) j b) (tC (.str x)):=λ_ _ _ H _ I h=>Calls.Constant_str ⟨.str x,H,I.tok _,⟨_,rfl⟩,h⟩
def Gl(X:Cx)(x:Str):Prop:=X.env.kindOf x=some .globalImplicit
def tq{σ:St}(I:Inv X pins σ H s)(d:Gl X x)(e:X.mg x=some u)(h:Q u s)(c:cv x:=by decide):wpAny (mZ X.prog X.w) X.A (eval (.Name x b) X.env) Q E s:=
 Calls.Name_function_global I.ok.kind d (Calls.loadGlobal_global (by rw[I.ok.glob];exact I.mod.glob.keeps I.bk) e h) c
theorem iP{E:AA}{σ:St}{b:Pos}(I:Inv X pins σ H s)(e:Gl X x)(g:X.mg x=none)(c:bootBuiltins x=some u)(h:Q u s)(j:x≠"__name__":=by decide)(f:cv x:=by decide):wpAny (mZ X.prog X.w) X.A (eval (.Name x b) X.env) Q E s:=by
 obtain⟨k,i,d⟩:=I.mod.blt;exact Calls.Name_function_global I.ok.kind e (Calls.loadGlobal_builtin (by rw[I.ok.glob];exact I.mod.glob.keeps I.bk) g (by rw[I.ok.blt];exact i.keeps I.bk) ((d x j).trans c) h) f
def Kk{x:Str}{v:V}{u:Value}{a:Pos}(c:Gl X x)(b:X.mg x=some u)(r:RelV v u)(d:cv x:=by decide):PE X (.Name x a) (tC v):=
 λ_ _ _ H _ I h=>tq I c b ⟨v,H,I,r,h⟩ d
def yq{a:Pos}(d:Gl X x)(e:X.mg x=none)(b:bootBuiltins x=some u)(r:RelV v u)(f:x≠"__name__":=by decide)(c:cv x:=by decide):PE X (.Name x a) (tC v):=
 λ_ _ _ H _ I h=>iP I d e b ⟨v,H,I,r,h⟩ f c
variable {a b:Expr}{ta tb:TE}{pos:Pos}
variable {tA tB':TT}{rest:AK}
def mO(t u:TT):TT:=λa H Q=>t a H λc d=>if c=true then u a d Q else Q false d
def Kl(t u:TT):TT:=λa H Q=>t a H λc d=>if c=true then Q true d else u a d Q
def yr(t:TT):TT:=λa H Q=>t a H λc d=>Q (!c) d
def yt(d:PT X a tA):PW X (.BoolOp .And [a] pos) tA:=by
 intro g b s i H Q I h;refine isTrue_and (az (d _ s i H Q I h) λc f e=>?_)
 cases c with
 | true=>exact isTrue_and_nil e
 | false=>exact e
def yu(d:PT X a tA):PW X (.BoolOp .Or [a] pos) tA:=by
 intro g b s i H Q I h;refine isTrue_or (az (d _ s i H Q I h) λc f e=>?_)
 cases c with
 | false=>exact isTrue_or_nil e
 | true=>exact e
def yv(i:PT X a tA)(n:PW X (.BoolOp .And (b::rest) pos) tB'):PW X (.BoolOp .And (a::b::rest) pos) (mO tA tB'):=by
 intro k l s m H Q I h;refine isTrue_and (az (i _ s m H _ I h) λc j d=>?_);obtain⟨g,f,e⟩:=d
 cases c with
 | true=>exact n k _ j m g Q f e
 | false=>exact⟨g,f,e⟩
def yw(i:PT X a tA)(n:PW X (.BoolOp .Or (b::rest) pos) tB'):PW X (.BoolOp .Or (a::b::rest) pos) (Kl tA tB'):=by
 intro k l s m H Q I h;refine isTrue_or (az (i _ s m H _ I h) λc j d=>?_);obtain⟨g,f,e⟩:=d
 cases c with
 | true=>exact⟨g,f,e⟩
 | false=>exact n k _ j m g Q f e
def yx(d:PT X a tA):PT X (.UnaryOp .Not a pos) (yr tA):=by
 intro b s c H Q I h;exact isTrue_not (d _ s c H _ I h)
def yy(ta tb:TE):TE:=λa H Q=>ta a H λx d=>∃c,x=.bl c/\if c=true then tb a d Q else Q (.bl false) d
def yz(ta:TE):TE:=λa H Q=>ta a H λx d=>∃c,x=.bl c/\Q (.bl (!c)) d
def yA{e}(h:PE X a t):PE X (.BoolOp e [a] pos) t:=λb s d H Q I c=>BoolOp_one (h _ s d H Q I c)
def yB(k:PE X a ta)(n:PE X (.BoolOp .And (b::rest) pos) tb):PE X (.BoolOp .And (a::b::rest) pos) (yy ta tb):=by
 intro l s m H Q I h;refine BoolOp_and (az (k _ s m H _ I h) λv i e=>?_);obtain⟨x,f,g,j,d⟩:=e;obtain⟨c,rfl,d⟩:=d;cases j;refine wpAny_truthy_bool ?_
 cases c with
 | true=>exact n _ i m f Q g d
 | false=>exact⟨.bl _,f,g,rfl,d⟩
def yC(j:PE X a ta):PE X (.UnaryOp .Not a pos) (yz ta):=by
 intro b s l H Q I h;refine UnaryOp_ (az (j _ s l H _ I h) λv k d=>?_);obtain⟨x,i,g,f,e⟩:=d;obtain⟨c,rfl,e⟩:=e;cases f;exact not_of (wpAny_truthy_bool ⟨.bl _,i,g,rfl,e⟩)
def Q1(t:TT)(ta tb:TE):TE:=λa H Q=>t a H λc d=>if c=true then ta a d Q else tb a d Q
def Q3(l:PT X c tA)(k:PE X a ta)(o:PE X b tb):PE X (.IfExp c a b pos) (Q1 tA ta tb):=by
 intro n s m H Q I h;refine wpAny_IfExp (az (l _ s m H _ I h) λd j e=>?_);obtain⟨i,g,f⟩:=e
 cases d with
 | true=>exact k _ j m i Q g f
 | false=>exact o _ j m i Q g f
end
def SqL(K:W7)(H:Hp)(a:Addr)(xs:AM):Prop:=
 Rd H a (.lst xs)\/
  ∃(o:Obj) (b:Array _) (n:Nat),K.lookup a=some o/\o.cls=.type "list"/\o.dict=none/\o.data=.seq b n/\b.size<=sizeLine/\Vals xs b.toList
def SqT(K:W7)(H:Hp)(a:Addr)(xs:AM):Prop:=
 Rd H a (.tup xs)\/
  ∃(o:Obj) (b:Array _) (n:Nat),K.lookup a=some o/\o.cls=.type "tuple"/\o.data=.seq b n/\b.size<=sizeLine/\Vals xs b.toList
def yD:Value->Option V
 | .none=>some .non
 | .bool b=>some (.bl b)
 | .int i _=>some (.int i)
 | .str x _=>some (.str x)
 | .bytes b _=>some (.byt b)
 | .float b _=>some (.flt b)
 | .ref a=>some (.ref a)
 | .type n=>some (.ty n)
 | _=>none
def RelV.abs(r:RelV x u):yD u=some x:=by
 cases x with
 | non=>cases r;rfl
 | bl _=>cases r;rfl
 | int _=>obtain⟨t,rfl⟩:=r;rfl
 | str _=>obtain⟨t,rfl⟩:=r;rfl
 | byt _=>obtain⟨t,rfl⟩:=r;rfl
 | flt _=>obtain⟨t,rfl⟩:=r;rfl
 | ref _=>cases r;rfl
 | ty _=>cases r;rfl
def RelV.inj(r:RelV x u)(q:RelV y u):x=y:=w4 (r.abs.symm.trans q.abs)
theorem Vals.inj:∀{xs ys:AM}{us:AC},Vals xs us->Vals ys us->xs=ys
 :=by
  intro xs ys us h
  induction h generalizing ys with
  | nil=>
    intro a;cases a;rfl
  | cons r t c=>
    intro a
    cases a with
    | cons b d=>rw[r.inj b,c d]
section
variable {X:Cx}{pins:AB}{σ:St}{H:Hp}{s:Shared}{a:Addr}{xs ys:AM}
def SqL.of{K:W7}(h:H a=some (.lst xs)):SqL K H a xs:=.inl (.inl h)
def SqT.of{K:W7}(h:H a=some (.tup xs)):SqT K H a xs:=.inl (.inl h)
theorem Inv.list(I:Inv X pins σ H s)(h:SqL X.K H a xs):∃its:AC,Vals xs its/\PlainL s.heap a its.toArray/\xs.length<=sizeLine:=by
 rcases h with h|⟨o,its,n,c,d,b,g,f,r⟩
 .obtain⟨z,its,n,r,e⟩:=h.ok I.hok
  exact⟨its,r,⟨_,n,e,rfl,rfl,rfl⟩,z⟩
 .refine⟨its.toList,r,⟨o,n,I.kIn a o c,d,b,by simpa using g⟩,?_⟩
  have e:=r.length;grind
theorem Inv.tuple(I:Inv X pins σ H s)(h:SqT X.K H a xs):∃its:AC,Vals xs its/\IsTup s.heap a its.toArray/\xs.length<=sizeLine:=by
 rcases h with h|⟨o,its,n,c,b,f,d,r⟩
 .obtain⟨z,its,r,p⟩:=h.ok I.hok
  grind
 .refine⟨its.toList,r,⟨o,I.kIn a o c,b,n,by simpa using f⟩,?_⟩
  have e:=r.length;grind
theorem Inv.list_inj(I:Inv X pins σ H s)(h:SqL X.K H a xs)(k:SqL X.K H a ys):xs=ys:=by
 obtain⟨j,r,⟨o,n,e,_,_,d⟩,_⟩:=I.list h;obtain⟨i,b,⟨c,f,g,_,_,l⟩,_⟩:=I.list k
 have:j=i:=by grind
 subst this;exact r.inj b
theorem Inv.tuple_inj(I:Inv X pins σ H s)(h:SqT X.K H a xs)(k:SqT X.K H a ys):xs=ys:=by
 obtain⟨j,r,⟨o,e,_,n,d⟩,_⟩:=I.tuple h;obtain⟨i,b,⟨c,g,_,f,l⟩,_⟩:=I.tuple k
 have:j=i:=by grind
 subst this;exact r.inj b
end
abbrev Cx.wish(X:Cx)(E:AA):Cx:={ X with xe:=E }
abbrev Cx.nox(X:Cx):Cx:=X.wish λ_ _=>False
def Cx.Ok.wish{X:Cx}(a:X.Ok)(E:AA):(X.wish E).Ok:=
 ⟨a.mod,a.kind,a.glob,a.blt,a.above,a.inj,a.has,a.cab,a.hd,a.frames,a.stk,a.exf,a.bs,a.bsz,a.noex,a.exfs,a.funs,a.frf⟩
def Cx.Ok.unwish{X:Cx}(a:(X.wish E).Ok):X.Ok:=
 ⟨a.mod,a.kind,a.glob,a.blt,a.above,a.inj,a.has,a.cab,a.hd,a.frames,a.stk,a.exf,a.bs,a.bsz,a.noex,a.exfs,a.funs,a.frf⟩
section
variable {X:Cx}{pins:AB}{σ:St}{H:Hp}{s:Shared}{E:AA}{st:Stmt}{rest:List Stmt}{t u:TS}{e:Expr}{te:TE}{pos:Pos}
def Inv.wish(I:Inv X pins σ H s)(E:AA):Inv (X.wish E) pins σ H s:=⟨I.ok.wish E,I.os,I.bare,I.base,I.loc,I.cell,I.free,I.freeC,I.pin,I.hok,I.len⟩
def Inv.unwish(I:Inv (X.wish E) pins σ H s):Inv X pins σ H s:=⟨I.ok.unwish,I.os,I.bare,I.base,I.loc,I.cell,I.free,I.freeC,I.pin,I.hok,I.len⟩
def SP.unwish(h:SP (X.wish E) pins D f s'):SP X pins D f s':=by
 cases f with
 | next=>obtain⟨a,b,I,q⟩:=h;exact⟨a,b,I.unwish,q⟩
 | brk=>obtain⟨a,b,I,q⟩:=h;exact⟨a,b,I.unwish,q⟩
 | cont=>obtain⟨a,b,I,q⟩:=h;exact⟨a,b,I.unwish,q⟩
 | ret u=>obtain⟨v,a,b,I,r,q⟩:=h;exact⟨v,a,b,I.unwish,r,q⟩
def PSs.nox{st:List Stmt}(h:PSs X.nox st t):PSs X st t:=λb s c H D I a=>
 wz (h _ s c H D (I.wish _) a) (λ_ _ q=>q.unwish) λ_ _ z=>False.elim z
def yE:TS:=λD a H=>D.nx a H
def yF(t u:TS):TS:=λD a H=>t { D with nx:=u D } a H
def Km:PSs X [] yE:=λ_ _ a H _ I h=>wpAny_execs_nil ⟨a,H,I,h⟩
def Kn(a:PS X st t)(c:PSs X rest u):PSs X (st::rest) (yF t u):=by
 intro g s i H D I h;refine wpAny_execs_cons (az (a _ s i H _ I h) λf b q=>?_)
 cases f with
 | next=>
   obtain⟨e,j,d,q⟩:=q;exact c _ b e j D d q
 | ret v=>exact q
 | brk=>exact q
 | cont=>exact q
def Ko(a:PS X st t):PSs X [st] t:=by
 intro c s d H D I h;refine wpAny_execs_cons (az (a _ s d H D I h) λf b q=>?_)
 cases f with
 | next=>exact wpAny_execs_nil q
 | ret v=>exact q
 | brk=>exact q
 | cont=>exact q
def Inv.quiet(I:Inv X pins σ H s):interactive X.env=false:=by simp[interactive,I.ok.kind]
def yG(te:TE):TS:=λD b H=>te b H λ_ a=>D.nx b a
def lA(f:PE X e te)(hs:swapsWith e none pos.line X.env=pure false:=by rfl):PS X (.Expr e pos) (yG te):=by
 intro j s k H D I h;refine wpAny_Expr_any (az (f _ s k H _ I h) λv i a=>?_) I.quiet hs;obtain⟨x,d,c,g,b⟩:=a;exact⟨k,d,c,b⟩
def yH(te:TE):TS:=λD a H=>te a H D.rt
def mP(d:PE X e te):PS X (.Return (some e) pos) (yH te):=by
 intro j s k H D I h;refine wpAny_Return_some (az (d _ s k H _ I h) λv i a=>?_);obtain⟨x,g,c,b,f⟩:=a;exact⟨x,k,g,c,b,f⟩
def yI(c:TT)(t u:TS):TS:=λD d H=>c d H λb a=>if b=true then t D d a else u D d a
def mQ(m:PT X c n)(l:PSs X a t)(p:PSs X b u):PS X (.If c a b pos) (yI n t u):=by
 intro o s e H D I h;refine wpAny_If (az (m _ s e H _ I h) λd g f=>?_);obtain⟨k,i,j⟩:=f
 cases d with
 | true=>exact l _ g e k D i j
 | false=>exact p _ g e k D i j
end
abbrev TG:=V->St->Hp->(St->Hp->Prop)->Prop
abbrev mR:=AM->St->Hp->(St->Hp->Prop)->Prop
def PG(X:Cx)(a:Expr)(t:TG):Prop:=
 ∀(b:List _) (s:Shared) (d:St) (H:Hp) (v:V) (u:Value) (Q:St->Hp->Prop),Inv X b d H s->RelV v u->t v d H Q->
  wpAny (mZ X.prog X.w) X.A (assign a X.env u) (λ_ f=>∃c e,Inv X b c e f/\Q c e) X.xe s
def tr(X:Cx)(a:AK)(t:mR):Prop:=
 ∀(b:List _) (s:Shared) (g:St) (H:Hp) (f:AM) (e:List _) (Q:St->Hp->Prop),Inv X b g H s->Vals f e->t f g H Q->
  wpAny (mZ X.prog X.w) X.A (assignInOrder ((assignEach a X.env).map (·.2)) e) (λ_ h=>∃c d,Inv X b c d h/\Q c d) X.xe s
abbrev mS:=V->V->V->Hp->(Hp->Prop)->Prop
def jB(X:Cx)(t:mS):Prop:=
 ∀(a:List _) (s:Shared) (d:St) (H:Hp) (o i v:V) (b c u:Value) (Q:Hp->Prop),Inv X a d H s->RelV o b->RelV i c->RelV v u->t o i v H Q->
  wpAny (mZ X.prog X.w) X.A (setItem b c u) (λ_ f=>∃e,Inv X a d e f/\Q e) X.xe s
abbrev yJ:=V->V->Hp->VK->Prop
def Kp(X:Cx)(c:Operator)(t:yJ):Prop:=
 ∀(a:List _) (s:Shared) (b:St) (H:Hp) (x y:V) (v u:Value) (Q:VK),Inv X a b H s->RelV x v->RelV y u->t x y H Q->
  wpAny (mZ X.prog X.w) X.A (inplaceOp c v u) (EP X a b Q) X.xe s
section
variable {X:Cx}{pos:Pos}
def lB(i:Nat):TG:=λv a H Q=>Q (a.set i (some v)) H
def yK(a:X.N.Nodup)(d:X.N[i]?=some x)(b:c9 X.env.scope x)(e:X.fn x=true\/X.env.scope.names.lookup x=some .local:=by trivial):PG X (.Name x pos) (lB i):=by
 intro f s j H v u Q I r h;exact wpAny_assign_Name (yk I a d b r (λg c=>⟨_,H,c,h⟩) e)
def yL:mR:=λb a H Q=>b=[]/\Q a H
def yM(t:TG)(u:mR):mR:=λd b H Q=>∃v r,d=v::r/\t v b H λa c=>u r a c Q
def yN:tr X [] yL:=by
 intro a s b H d c Q I r h;obtain⟨e,h⟩:=h;exact assignInOrder_nil ⟨b,H,I,h⟩
def Kr(k:PG X e t)(i:tr X a u)(hs:(assignEach (e::a) X.env).map (·.2)=assign e X.env::(assignEach a X.env).map (·.2):=by rfl):tr X (e::a) (yM t u):=by
 intro n s o H w q Q I r h;obtain⟨v,m,p,h⟩:=h;subst p
 cases r with
 | cons r f=>
   rw[hs];refine assignInOrder_cons (az (k _ s o H _ _ _ I r h) λ_ d b=>?_);obtain⟨c,j,g,l⟩:=b;exact i _ d c j _ _ Q g f l
def yO(K:W7)(n:Nat)(t:mR):TG:=λv d H Q=>∃a c,v=.ref a/\SqT K H a c/\c.length=n/\t c d H Q
theorem yP{k:Nat}(l:X.calm=true)(h:tr X f t)(m:(assignEach f X.env).length=n:=by rfl)(d:(assignEach f X.env).findIdx? (·.1)=none:=by rfl):PG X (.Tuple f k pos) (yO X.K n t):=by
 intro x s B H v u Q I r c;obtain⟨a,z,y,p,q,c⟩:=c;subst y;cases r;obtain⟨A,i,j,w⟩:=I.tuple p;exact assign_Tuple_tuple (I.ok.hd l) j (by simp[m,<-q,i.length]) d λC g=>h _ _ B H z _ Q (I.kept λb o e=>g b o (qm (ql e)) e) (by grind) c
def yQ(b f:TE)(t:mS):TG:=λv a H Q=>b a H λo d=>f a d λi c=>t o i v c λe=>Q a e
def mT(n:PE X o D)(k:PE X i f)(hs:jB X t)(B:∀v,assign (.Subscript o i pos) X.env v=(do
  let b <-holding [v] (eval o X.env)
  let c <-holding [v,b] (eval i X.env)
  standAt pos
  holding [v,b,c] (setItem b c v)
  release [v,b,c] []):=by intro _;rfl):PG X (.Subscript o i pos) (yQ D f t):=by
 intro e s d H v u Q I r h;rw[B];refine wa (wd (az (n _ s d H _ I h) λb m a=>?_));obtain⟨x,p,j,G,q⟩:=a;refine wa (wd (az (k _ m d p _ j q) λc l a=>?_));obtain⟨y,E,C,A,F⟩:=a;refine wa (wpAny_standAt (wa (wd (az (hs _ l d E x y v b c u _ C G A r F) λ_ J a=>?_))));obtain⟨w,g,z⟩:=a;exact wpAny_release ⟨d,w,g,z⟩
def fS(a:TE)(g:TG):TS:=λD c H=>a c H λx b=>g x c b D.nx
theorem mU(i:PE X e m)(j:PG X a g)(hs:swapsWithSole [a] e pos.line X.env=pure false:=by rfl)(o:swappedStores [a] e X.env=pure none:=by rfl)(n:(assignEach [a] X.env).map (·.2)=[assign a X.env]:=by rfl):PS X (.Assign [a] e pos) (fS m g):=by
 intro r s t H D I h;refine wpAny_Assign_stores (az (i _ s t H _ I h) λv c b=>?_) hs o;obtain⟨x,d,l,k,f⟩:=b;rw[n];exact az (j _ c t d x v _ l k f) λ_ p q=>q
def jC(c:X.N.Nodup)(o:X.N[i]?=some x)(p:c9 X.env.scope x)(j:PE X e n)(hs:swapsWith e (some (.Name x a)) pos.line X.env=pure false:=by rfl)(g:X.fn x=true\/X.env.scope.names.lookup x=some .local:=by trivial):
 PS X (.Assign [.Name x a] e pos) (fS n (lB i)):=by
 intro t s u H D I h;refine wpAny_Assign_Name (az (j _ s u H _ I h) λv r b=>?_) hs;obtain⟨y,d,m,l,f⟩:=b;exact yk m c o p l (λq k=>⟨_,d,k,f⟩) g
def yR(i:Nat)(d:TE)(e:yJ):TS:=λD a H=>∃x,a[i]?=some (some x)/\d a H λy c=>e x y c λz b=>D.nx (a.set i (some z)) b
theorem yS(hN:X.N.Nodup)(A:X.N[i]?=some x)(o:c9 X.env.scope x)(V:PE X e E)(Y:Kp X B J)(T:X.fn x=true\/X.env.scope.names.lookup x=some .local:=by trivial):
 PS X (.AugAssign (.Name x q) B e pos) (yR i E J):=by
 intro g s t H D I h;obtain⟨v,G,h⟩:=h;obtain⟨m,N,M⟩:=I.loc
 have n:eW X.env.scope x:=by rcases o with k|k;exact .inl k;exact .inr (.inl k)
 obtain⟨u,r,l⟩:=M i x v A G n;refine wpAny_AugAssign_Name ?_
 have p:wpAny (mZ X.prog X.w) X.A (eval e X.env) (λw f=>wpAny (mZ X.prog X.w) X.A (inplaceOp B u w) (λr j=>wpAny (mZ X.prog X.w) X.A (storeName X.env x r) (λ_=>SP X g D .next) X.xe j) X.xe f) X.xe s:=by
  refine az (V _ s t H _ I h) λw L b=>?_;obtain⟨y,H1,R,O,C⟩:=b;refine az (Y _ L t H1 v y u w _ R r O C) λz s2 b=>?_;obtain⟨zv,H2,Z,U,F⟩:=b;exact yk Z hN A o U (λs3 Q=>⟨_,H2,Q,F⟩) T
 rcases l with⟨a,K⟩|⟨a,c,S,d⟩
 .exact wpAny_loadName_local I.ok.kind a N K p
 .rcases a with a|a
  .exact wpAny_loadName_cell I.ok.kind a S d p
  .rcases o with k|k
   .have:X.env.scope.names.lookup x=_:=a
    grind
   .have:X.env.scope.names.lookup x=_:=a
    grind
def Q4(f:Int->Int->Int):yJ:=λx y H Q=>∃i j,x=.int i/\y=.int j/\Q (.int (f i j)) H
def yT:Kp X .Add (Q4 λi j=>i+j):=by
 intro a s g H x y v u Q I d e h;obtain⟨i,j,b,c,q⟩:=h;subst b c;obtain⟨t,rfl⟩:=d;obtain⟨f,rfl⟩:=e;exact iadd_int ⟨.int _,H,I.tok _,⟨_,rfl⟩,q⟩
def yU(c:TT)(e:TS):TS:=λD f H=>∃W:Nat->St->Hp->Prop,(∃m,W m f H)/\∀m f H,W m f H->
 c f H λb d=>if b=true then ∃N:St->Hp->Prop,(∀g h,N g h->∃a,a<m/\W a g h)/\e { D with nx:=N,ct:=N,bk:=D.nx } f d else D.nx f d
theorem Q5(p:PassesOwn (mZ X.prog X.w) X.A X.env X.xe)(y:PT X c A)(M:PSs X d r):PS X (.While c d [] pos) (yU A r):=by
 intro K s Q H D I h;obtain⟨W,⟨q,B⟩,e⟩:=h;refine wpAny_While (codeAny_whileLoop (λn O=>∃J L,Inv X _ J L O/\W n J L) ?_ q ⟨Q,H,I,B⟩);rintro n t ⟨a,l,x,E⟩;refine wpAny_passesOwn p (az (y _ t a l _ x (e n a l E)) λb z j=>?_);obtain⟨m,o,i⟩:=j
 cases b with
 | true=>
   obtain⟨N,G,i⟩:=i;refine wpAny_passesOwn p (az (M _ z a m _ o i) λf F g=>?_)
   cases f with
   | next=>
     obtain⟨k,u,w,C⟩:=g;grind
   | cont=>
     obtain⟨k,u,w,C⟩:=g;grind
   | brk=>exact g
   | ret v=>exact g
 | false=>
   exact wpAny_execs_nil ⟨a,m,o,i⟩
end
structure It where
 go:Nat->Hp->Prop
 yld:Nat->Hp->V->Hp->Prop
 stop:Nat->Hp->Prop
def cJ(X:Cx)(pins:AB)(H:Hp)(b:Addr):Prop:=
 H b=none/\b≠X.env.locals/\b∉X.fs/\(b∈X.ex\/X.s₀.heap.objs.size<=b)/\(∀x c,X.env.cells.lookup x=some c->c≠b)/\∀p∈X.pn++pins,p.1≠b
theorem Inv.fpOk{σ:St}{b:Addr}(I:Inv X pins σ H s)(f:(~~~s)<=b)(a:H' b=none):cJ X pins H' b:=by
 refine⟨a,Nat.ne_of_gt (Qi I.lt f),I.nofs f,.inr (Qg I.sz f),λx c e z=>?_,λp d z=>?_⟩
 .obtain⟨v,q⟩:=I.cell x c e
  exact absurd (Qi q.lt (by grind)) (Nat.lt_irrefl _)
 .exact absurd (Qi (ql (I.pin p d).1) (by grind)) (Nat.lt_irrefl _)
structure d3(P:P7)(w:World)(K:W7)(tg:Expr)(J:It)(fp:List Addr)(it:Addr)(tn:Nat->Heap->Prop):Prop where
 mem:it∈fp
 obj:∀i h,tn i h->∀b∈fp,∃o,h.get? b=some o/\∀v,o.data≠.cell v
 keep:∀i h h',tn i h->(∀b∈fp,∀o,h.get? b=some o->h'.get? b=some o)->tn i h'
 item:∀(X:Cx),X.prog=P->X.w=w->X.K=K->X.calm=true->∀(i:Nat) (pins:AB) (s:Shared) (σ:St) (H:Hp) (E:AA),Inv X pins σ H s->(∀b∈fp,cJ X pins H b)->tn i s.heap->J.go i H->
  wpAny (mZ P w) X.A (pyNext (.ref it)) (λr s1=>∃u,r=some u/\
   wpAny (mZ P w) X.A (letOwnedTupleGo tg (.ref it) u) (λ_ s2=>∃x H',Inv X pins σ H' s2/\RelV x u/\J.yld i H x H'/\tn (i+1) s2.heap/\∀b∈fp,H' b=none) E s1) E s
 done:∀(X:Cx),X.prog=P->X.w=w->X.K=K->X.calm=true->∀(i:Nat) (pins:AB) (s:Shared) (σ:St) (H:Hp) (E:AA),Inv X pins σ H s->(∀b∈fp,cJ X pins H b)->tn i s.heap->J.stop i H->
  wpAny (mZ P w) X.A (pyNext (.ref it)) (λr s1=>r=none/\Inv X pins σ H s1) E s
 self:∀(A:Around) (i:Nat) (s:Shared) (Q:AA) (E:AA),tn i s.heap->Q (.ref it) s->wpAny (mZ P w) A (pyIter (.ref it)) Q E s
abbrev TI:=St->Hp->(It->Hp->Prop)->Prop
def Ks(X:Cx)(pins:AB)(σ:St)(g:Expr)(R:It->Hp->Prop)(a:Value)(e:Shared):Prop:=
 ∃(f:Addr) (d:List _) (c:Nat->Heap->Prop) (J:It) (h:Hp),a=.ref f/\Inv X pins σ h e/\d3 X.prog X.w X.K g J d f c/\c 0 e.heap/\(∀b∈d,cJ X pins h b)/\R J h
def PI(X:Cx)(d a:Expr)(b:TI):Prop:=
 ∀(e:List _) (s:Shared) (f:St) (H:Hp) (R:It->Hp->Prop),Inv X e f H s->b f H R->
  wpAny (mZ X.prog X.w) X.A (eval a X.env) (λv c=>wpAny (mZ X.prog X.w) X.A (pyIter v) (Ks X e f d R) X.xe c) X.xe s
theorem ts(f:s.heap.get? c=some o)(b:o.cls=.type n)(e:o.data=.fields vs)(g:["enumerate","zip","dict_itemiterator","dict_reverseitemiterator","odict_iterator","itertools.zip_longest","itertools.pairwise"].contains n=false)(a:Q () s):wpAny M A (letOwnedTupleGo d (.ref c) u) Q E s:=by
 cases d<;>first
  | exact wc a
  | (cases u<;>first
   | exact wc a
   | (refine wa (wpAny_load f ?_)
      rw[b,e];show wpAny M A (if _ then _ else _) Q E s;rw[if_neg (by grind)]
      exact wc a))
def Kt(K:W7)(a:Addr):It:=
 ⟨λi H=>∃b x,SqL K H a b/\b[i]?=some x,λi H x d=>d=H/\∀b,SqL K H a b->b[i]?=some x,λi H=>∃b,SqL K H a b/\b.length<=i⟩
def Ku(K:W7)(a:Addr):It:=
 ⟨λi H=>∃b x,SqT K H a b/\b[i]?=some x,λi H x d=>d=H/\∀b,SqT K H a b->b[i]?=some x,λi H=>∃b,SqT K H a b/\b.length<=i⟩
def mV(lo:Int)(n:Nat):It:=⟨λi _=>i<n,λi H x a=>a=H/\x=.int (lo+i),λi _=>n<=i⟩
theorem Q6{K:W7}(a f:Addr):d3 P w K S (Kt K a) [f] f (λi h=>h.IsListIter f a i) where
 mem:=by simp
 obj:=λi h st b m=>by
  obtain⟨o,e,c,d⟩:=st;grind
 keep:=λi h Y st k=>st.at λo e=>k f (by simp) o e
 item:=by
  intro X r n C F i T s σ H E I l st t;subst r n C;obtain⟨Z,x,j,z⟩:=t;obtain⟨U,A,p,J⟩:=I.list j;obtain⟨u,R,G⟩:=A.get z;obtain⟨q,y,N,v,B,D⟩:=l f (by simp);refine wpAny_pyNext_list_item st p.isList (x:=u) (by grind) λY g M=>?_;obtain⟨o,e,c,d⟩:=id g;exact⟨u,rfl,ts e c d (by decide) ⟨x,H,I.turned (λb o m e=>(M.2 b m).trans e) q y v B D,G,⟨rfl,λys L=>by rwa [I.list_inj L j]⟩,g,λb m=>(l b m).1⟩⟩
 done:=by
  intro X r n C F i T s σ H E I l st t;subst r n C;obtain⟨Z,j,z⟩:=t;obtain⟨U,A,p,J⟩:=I.list j;obtain⟨q,y,N,v,B,D⟩:=l f (by simp);have Q:=A.length
  exact wpAny_pyNext_list_end (I.ok.hd F) st p.isList (by simp;lia) λY O=>⟨rfl,I.turned (λb o m e=>O b o m e) q y v B D⟩
 self:=λ_ _ _ _ _ st h=>wpAny_pyIter_listiter st h
theorem Q7{K:W7}(a f:Addr):d3 P w K S (Ku K a) [f] f (λi h=>h.IsTupleIter f a i) where
 mem:=by simp
 obj:=λi h st b m=>by
  obtain⟨o,e,c,d⟩:=st;grind
 keep:=λi h Y st k=>st.at λo e=>k f (by simp) o e
 item:=by
  intro X r n C F i T s σ H E I l st t;subst r n C;obtain⟨Z,x,j,z⟩:=t;obtain⟨U,A,p,J⟩:=I.tuple j;obtain⟨u,R,G⟩:=A.get z;obtain⟨q,y,N,v,B,D⟩:=l f (by simp);refine wpAny_pyNext_tuple_item st (p) (x:=u) (by grind) λY g M=>?_;obtain⟨o,e,c,d⟩:=id g;exact⟨u,rfl,ts e c d (by decide) ⟨x,H,I.turned (λb o m e=>(M.2 b m).trans e) q y v B D,G,⟨rfl,λys L=>by rwa [I.tuple_inj L j]⟩,g,λb m=>(l b m).1⟩⟩
 done:=by
  intro X r n C F i T s σ H E I l st t;subst r n C;obtain⟨Z,j,z⟩:=t;obtain⟨U,A,p,J⟩:=I.tuple j;obtain⟨q,y,N,v,B,D⟩:=l f (by simp);have Q:=A.length
  exact wpAny_pyNext_tuple_end (I.ok.hd F) st (p) (by simp;lia) λY O=>⟨rfl,I.turned (λb o m e=>O b o m e) q y v B D⟩
 self:=λ_ _ _ _ _ st h=>wpAny_pyIter_tupleiter st h
theorem Q8{K:W7}(a:Addr)(lo:Int)(n:Nat):d3 P w K F (mV lo n) [a] a (λi h=>IsRangeIter h a (lo+(i:Nat)*1) ((n:Int)-(i:Nat)) 1) where
 mem:=by simp
 obj:=λi h st b q=>by
  grind
 keep:=λi h J st k=>k a (by simp) _ st
 item:=by
  intro X y u x m i G s M H E I d st f;obtain⟨l,r,C,g,p,j⟩:=d a (by simp);refine(Walks.range (I.ok.hd m) a lo 1 n).item i s _ _ f st λv J N A c z=>?_;obtain⟨t,rfl⟩:=A;have D:Inv X _ M H { s with heap:=J,toks:=N }:=I.turned (λb o q e=>z b o (by grind) e) l r g p j;refine⟨_,rfl,ts c rfl rfl (by decide) ⟨.int _,H,D,⟨t,?_⟩,⟨rfl,rfl⟩,c,λb q=>(d b q).1⟩⟩;grind
 done:=by
  intro X y u x m i G s M H E I d st f;obtain⟨l,r,C,g,p,j⟩:=d a (by simp)
  exact wpAny_pyNext_range_end (I.ok.hd m) st (by have:n<=i:=f;lia) λJ B=>⟨rfl,I.turned (λb o q e=>B b o q e) l r g p j⟩
 self:=λ_ _ _ _ _ st h=>wpAny_pyIter_rangeiter st h
section
variable {X:Cx}{tg:Expr}
theorem Kv{σ:St}{lo a:Int}(I:Inv X pins σ H s)(d:-(2^62)<=lo)(g:lo<2^62)(f:-(2^62)<=a)(h:a<2^62)(q:R (mV lo (a-lo).toNat) H):wpAny (mZ X.prog X.w) X.A (pyIter (.ref (~~~s))) (Ks X pins σ tg R) E { s with heap:=s.heap.push { cls:=.type "range",data:=.fields #[.int lo t,.int a u,.int 1 v] },toks:=tk }:=by
 refine wpAny_pyIter_range (.new ..) (small_one d g f h) ?_;have c:Inv X _ σ H { s with heap:=s.heap.push { cls:=.type "range",data:=.fields #[.int lo t,.int a u,.int 1 v] },toks:=tk }:=I.kept λb o e=>qe _ e
 refine⟨(s.heap.push _).objs.size,[(s.heap.push _).objs.size],_,_,H,rfl,
  c.kept λb o e=>qe _ e,Q8 _ lo _,?_,λb k=>?_,q⟩
 .have i:lo+((0:Nat))*1=lo:=by simp
  have j:(((a-lo).toNat))-((0:Nat))=Builtin.Range.rangeSize lo a 1:=by rw[rangeSize_one];split<;>lia
  rw[i,j];exact qp _ rfl
 .have e:b=(s.heap.push { cls:=.type "range",data:=.fields #[.int lo t,.int a u,.int 1 v] }).objs.size:=by grind
  subst e;exact c.fpOk (qv _) (c.hok.fresh (qv _))
def yV(a:TA):TI:=λd H R=>a d H λc b=>∃j:Int,c=[.int j]/\-(2^62)<=j/\j<2^62/\R (mV 0 j.toNat) b
def yW(a:TA):TI:=λc H R=>a c H λd b=>∃i j:Int,d=[.int i,.int j]/\(-(2^62)<=i/\i<2^62/\-(2^62)<=j/\j<2^62)/\R (mV i (j-i).toNat) b
theorem Q9(k:Gl X "range")(g:X.mg "range"=none)(m:PA X [a] u)(hs:starEach [a] X.env=[(false,eval a X.env)]:=by rfl):PI X tg (.Call (.Name "range" p) [a] [] c) (yV u):=by
 intro x s y H R I h;refine Call_ (iP I k g boot_range (PyProof.Rows.callWith_type1 (az (m c _ s y H _ I h) λA v f=>?_) hs rfl));obtain⟨z,w,l,o,d⟩:=f;obtain⟨j,e,d,n,q⟩:=d;subst e
 cases o with
 | cons r i=>
   cases i;obtain⟨t,rfl⟩:=r;exact call_range_1 (Kv l (by lia) (by lia) d n (by simpa using q))
theorem Q_{p c:Pos}(o:Gl X "range")(l:X.mg "range"=none)(w:PA X [a,b] m)(hs:starEach [a,b] X.env=[(false,eval a X.env),(false,eval b X.env)]:=by rfl)(f:starEach [b] X.env=[(false,eval b X.env)]:=by rfl):
 PI X tg (.Call (.Name "range" p) [a,b] [] c) (yW m):=by
 intro C s D H R I h;refine Call_ (iP I o l boot_range (PyProof.Rows.callWith_type1 (az (w c _ s D H _ I h) λF B ⟨G,A,u,n,k⟩=>?_) (by rw[hs,f]) (by rw[f];rfl)));obtain⟨i,j,e,⟨k,x,y,v⟩,q⟩:=k;subst e
 cases n with
 | cons r g=>
   cases g with
   | cons z g=>
     cases g;obtain⟨t,rfl⟩:=r;obtain⟨E,rfl⟩:=z;exact call_range_2 (Kv u k x y v q)
def yX(f:TI)(g:TG)(e:TS):TS:=λD h H=>f h H λJ c=>∃W:Nat->Nat->St->Hp->Prop,(∃m,W 0 m h c)/\∀i m h H,W i m h H->
 (J.stop i H/\D.nx h H)\/(J.go i H/\∃N:St->Hp->Prop,(∀j k,N j k->∃b,b<m/\W (i+1) b j k)/\∀x k,J.yld i H x k->g x h k λa d=>e { D with nx:=N,ct:=N,bk:=D.nx } a d)
def tw(a:List Addr)(h:Heap):AB:=a.filterMap λb=>(h.get? b).map λo=>(b,o)
def tB(c:b∈a)(e:h.get? b=some o):(b,o)∈tw a h:=List.mem_filterMap.mpr ⟨b,c,by rw[e];rfl⟩
theorem Ra(a:p∈tw c h):p.1∈c/\h.get? p.1=some p.2:=by
 obtain⟨b,d,e⟩:=List.mem_filterMap.mp a
 cases q:h.get? b with
 | none=>grind
 | some o=>
   grind
theorem Inv.pinned{σ:St}(I:Inv X pins σ H s)(c:∀b∈a,cJ X pins H b)(i:∀b∈a,∃o,s.heap.get? b=some o/\∀v,o.data≠.cell v):Inv X (pins++tw a s.heap) σ H s:=
 I.pins_of λp d=>(qw d).elim (λz=>I.pin p (Qr _ z)) λz=>by
  obtain⟨j,e⟩:=Ra z;obtain⟨f,g,h,_⟩:=c p.1 j;grind
def Inv.unpinned{σ:St}(I:Inv X (pins++b) σ H s):Inv X pins σ H s:=I.pins_of λp a=>I.pin p (Qr _ (List.mem_append_left _ a))
theorem mW(E:PassesOwn (mZ X.prog X.w) X.A X.env X.xe)(Y:X.calm=true)(hi:PI X tg q wi)(hg:PG X tg g)(hb:PSs X B tb)(hs:∀x,foldedSetIterable q X.env x=pure x:=by intro _;rfl):PS X (.For tg q B [] pos) (yX wi g tb):=by
 intro pins s σ H D I h;refine wpAny_For (az (hi pins s σ H _ I h) λv s1 h1=>az h1 λitv s2 h2=>?_) hs;obtain⟨it,A,Z,J,H2,e,I2,T,P,S,W,⟨m0,w0⟩,C⟩:=h2;subst e
 have k:∀{H':Hp},(∀b∈A,H' b=none)->∀b∈A,cJ X pins H' b:=λhn b hb=>⟨hn b hb,(S b hb).2⟩
 refine codeAny_forLoop_any (λn s'=>∃i σ' H',Inv X pins σ' H' s'/\Z i s'.heap/\(∀b∈A,H' b=none)/\W i n σ' H') ?_ m0 ⟨0,σ,H2,I2,P,λb hb=>(S b hb).1,w0⟩;rintro n s3 ⟨i,l,G,V,F,z,w3⟩;rcases C i n l G w3 with⟨y,qn⟩|⟨go,N,hN,step⟩
 .refine wpAny_passesOwn E (az (T.done X rfl rfl rfl Y i pins s3 l G X.xe V (k z) F y) λr s4 c=>?_)
  obtain⟨M,I4⟩:=c;subst M;exact wpAny_execs_nil ⟨l,G,I4,qn⟩
 .refine wpAny_passesOwn E (az (T.item X rfl rfl rfl Y i pins s3 l G X.xe V (k z) F go) λr s4 c=>?_)
  obtain⟨u,M,h4⟩:=c;subst M;refine wpAny_passesOwn E (az h4 λ_ R c=>?_);obtain⟨x,U,I5,r5,y5,w,K⟩:=c;refine wpAny_passesOwn E (az (hg _ R l U x u _ (I5.pinned (k K) (T.obj _ _ w)) r5 (step x U y5)) λ_ s6 c=>?_);obtain⟨O,H6,I6,q6⟩:=c;refine wpAny_passesOwn E (az (hb _ s6 O H6 _ I6 q6) λf L t=>?_)
  have again:∀{a:St}{j:Hp},Inv X _ a j L->N a j->∃m,m<n/\∃i σ' H',Inv X pins σ' H' L/\Z i L.heap/\(∀b∈A,H' b=none)/\W i m σ' H':=λ{a j} p Q=>by
   obtain⟨m',hm,w7⟩:=hN a j Q;refine⟨m',hm,i+1,a,j,p.unpinned,T.keep _ _ _ w λb hb o e=>(p.pin (b,o) (Qr _ (Qr _ (tB hb e)))).1,λb hb=>?_,w7⟩;obtain⟨o,e,d⟩:=T.obj _ _ w b hb;exact(p.pin (b,o) (Qr _ (Qr _ (tB hb e)))).2.1
  cases f with
  | next=>obtain⟨a,j,p,Q⟩:=t;grind
  | cont=>obtain⟨a,j,p,Q⟩:=t;grind
  | brk=>obtain⟨a,j,p,t⟩:=t;exact⟨a,j,p.unpinned,t⟩
  | ret v=>obtain⟨x7,a,j,p,r7,t⟩:=t;exact⟨x7,a,j,p.unpinned,r7,t⟩
end
abbrev R2:=V->V->Hp->VK->Prop
def bp(X:Cx)(f:Value->Value->Sem Value)(r:R2):Prop:=
 ∀(a:List _) (s:Shared) (b:St) (H:Hp) (x y:V) (v u:Value) (Q:VK),Inv X a b H s->RelV x v->RelV y u->r x y H Q->
  wpAny (mZ X.prog X.w) X.A (f v u) (EP X a b Q) X.xe s
def yY(X:Cx)(f:Value->Sem Value)(r:V->Hp->VK->Prop):Prop:=
 ∀(a:List _) (s:Shared) (b:St) (H:Hp) (x:V) (v:Value) (Q:VK),Inv X a b H s->RelV x v->r x H Q->
  wpAny (mZ X.prog X.w) X.A (f v) (EP X a b Q) X.xe s
def dz(X:Cx)(f:Value)(r:AM->Hp->VK->Prop):Prop:=
 ∀(a:List _) (s:Shared) (b:St) (H:Hp) (c:AM) (d:List _) (Q:VK),Inv X a b H s->Vals c d->r c H Q->
  wpAny (mZ X.prog X.w) X.A (call f d) (EP X a b Q) X.xe s
def yZ(X:Cx)(r:V->Hp->(Bool->Hp->Prop)->Prop):Prop:=
 ∀(a:List _) (s:Shared) (b:St) (H:Hp) (x:V) (v:Value) (Q:Bool->Hp->Prop),Inv X a b H s->RelV x v->r x H Q->
  wpAny (mZ X.prog X.w) X.A (truthy v) (TP X a b Q) X.xe s
def jD(r:R2)(d a:TE):TE:=λe H Q=>d e H λx b=>a e b λy c=>r x y c Q
def Rb(r:V->Hp->VK->Prop)(a:TE):TE:=λc H Q=>a c H λx b=>r x b Q
def rI(C:Int->Int->Prop)(g:Int->Int->V):R2:=λx y H Q=>∃i j,x=.int i/\y=.int j/\C i j/\Q (g i j) H
def fT(g:Int->Int->V):R2:=λx y H Q=>∃i j,x=.int i/\y=.int j/\Q (g i j) H
def rU(g:Int->V):V->Hp->VK->Prop:=λx H Q=>∃i,x=.int i/\Q (g i) H
section
variable {X:Cx}{a b c:Expr}{ta tb tc:TE}{pos:Pos}
theorem jE(m:PE X a ta)(c:PE X b tb){σ:St}{R:V->V->Hp->Prop}(I:Inv X pins σ H s)(h:ta σ H λx j=>tb σ j λy e=>R x y e){f:Value->Value->Sem Value}(w:∀v u k x y e,Inv X pins σ e k->RelV x v->RelV y u->R x y e->wpAny (mZ X.prog X.w) X.A (f v u) Q X.xe k):
 wpAny (mZ X.prog X.w) X.A (eval a X.env) (λv i=>wpAny (mZ X.prog X.w) X.A (eval b X.env) (λu g=>wpAny (mZ X.prog X.w) X.A (f v u) Q X.xe g) X.xe i) X.xe s:=by
 refine az (m _ s σ H _ I h) λv l d=>?_;obtain⟨x,j,n,q,o⟩:=d;refine az (c _ l σ j _ n o) λu k d=>?_;obtain⟨y,e,p,t,r⟩:=d;grind
def tD(j:bp X (binaryOp n) r)(d:PE X a ta)(l:PE X b tb):PE X (.BinOp a n b pos) (jD r ta tb):=by
 intro c s m H Q I h;exact wpAny_BinOp (jE d l I h λv u g x y f i e k q=>j _ g m f x y v u Q i e k q)
def y_(k:yY X (unaryOp m) r)(l:PE X a ta):PE X (.UnaryOp m a pos) (Rb r ta):=by
 intro b s c H Q I h;refine UnaryOp_ (az (l _ s c H _ I h) λv g d=>?_);obtain⟨x,j,f,e,i⟩:=d;exact k _ g c j x v Q f e i
def tE{g:Int->Int->Int}(rule:∀(i j:Int) (t u:Tok) (s:Shared) (Q:AA) (E:AA),C i j->Q (.int (g i j) s.toks) { s with toks:=s.toks+1 }->wpAny (mZ X.prog X.w) X.A (f (.int i t) (.int j u)) Q E s):
 bp X f (rI C λi j=>.int (g i j)):=by
 intro a s c H x y v u Q I e d h;obtain⟨i,j,rfl,rfl,k,q⟩:=h;obtain⟨t,rfl⟩:=e;obtain⟨b,rfl⟩:=d;exact rule i j t b s _ _ k ⟨.int _,H,I.tok _,⟨_,rfl⟩,q⟩
def jF{g:Int->Int->Int}(rule:∀(i j:Int) (t u:Tok) (s:Shared) (Q:AA) (E:AA),Q (.int (g i j) s.toks) { s with toks:=s.toks+1 }->wpAny (mZ X.prog X.w) X.A (f (.int i t) (.int j u)) Q E s):
 bp X f (fT λi j=>.int (g i j)):=by
 intro a s c H x y v u Q I e d h;obtain⟨i,j,rfl,rfl,q⟩:=h;obtain⟨t,rfl⟩:=e;obtain⟨b,rfl⟩:=d;exact rule i j t b s _ _ ⟨.int _,H,I.tok _,⟨_,rfl⟩,q⟩
def gT{g:Int->Int->Bool}(rule:∀(i j:Int) (t u:Tok) (s:Shared) (Q:AA) (E:AA),Q (.bool (g i j)) s->wpAny (mZ X.prog X.w) X.A (f (.int i t) (.int j u)) Q E s):
 bp X f (fT λi j=>.bl (g i j)):=by
 intro a s c H x y v u Q I e d h;obtain⟨i,j,rfl,rfl,q⟩:=h;obtain⟨t,rfl⟩:=e;obtain⟨b,rfl⟩:=d;exact rule i j t b s _ _ ⟨.bl _,H,I,rfl,q⟩
def za(i j:Int):Prop:=0<j/\j<1073741824
def CMul(i j:Int):Prop:=-(2^64)<i/\i<2^64\/(-(2^64)<j/\j<2^64)
def CMul.ok(h:CMul i j):IntMulOk i j:=by
 rcases h with⟨d,e⟩|⟨d,e⟩
 .exact .of_left (intBits_le_64 d e)
 .exact .of_right (intBits_le_64 d e)
def zb:bp X (binaryOp .Add) (fT λi j=>.int (i+j)):=jF λ_ _ _ _ _ _ _ q=>add_int q
def zc:bp X (binaryOp .Sub) (fT λi j=>.int (i-j)):=jF λ_ _ _ _ _ _ _ q=>sub_int q
def zd:bp X (binaryOp .Mult) (rI CMul λi j=>.int (i*j)):=tE λ_ _ _ _ _ _ _ d q=>mul_int q d.ok
theorem ze:bp X (binaryOp .FloorDiv) (rI za λi j=>.int (i/j)):=tE λi j _ _ _ _ _ e q=>by
 have g:=e.1;have f:=e.2;exact floordiv_int (by lia) (by grind) (.inl (PyProof.noPylong_small (by lia)))
theorem zf:bp X (binaryOp .Mod) (rI (λ_ j=>0<j) λi j=>.int (i%j)):=tE λi j _ _ _ _ _ d q=>mod_int' (by lia) (by grind)
theorem zg:bp X (binaryOp .RShift) (rI (λ_ j=>0<=j) λi j=>.int (i/2^j.toNat)):=tE λi j _ _ _ _ _ a q=>
 rshift_int a (by grind)
def op_xor:bp X (binaryOp .BitXor) (fT λi j=>.int (Builtin.bitXor i j)):=jF λ_ _ _ _ _ _ _ q=>xor_int q
def Rc{g:Int->Int}(rule:∀(i:Int) (t:Tok) (s:Shared) (Q:AA) (E:AA),Q (.int (g i) s.toks) { s with toks:=s.toks+1 }->wpAny (mZ X.prog X.w) X.A (f (.int i t)) Q E s):
 yY X f (rU λi=>.int (g i)):=by
 intro a s b H x v Q I d h;obtain⟨i,rfl,q⟩:=h;obtain⟨t,rfl⟩:=d;exact rule i t s _ _ ⟨.int _,H,I.tok _,⟨_,rfl⟩,q⟩
def zh:yY X (unaryOp .USub) (rU λi=>.int (-i)):=Rc λ_ _ _ _ _ q=>neg_int q
end
def scal:V->V->Bool
 | .non,.non=>true|.non,.int _=>true|.int _,.non=>true|.non,.bl _=>true|.bl _,.non=>true|.non,.str _=>true|.str _,.non=>true
 | .int _,.int _=>true|.bl _,.bl _=>true|.str _,.str _=>true|.byt _,.byt _=>true
 | .int _,.str _=>true|.str _,.int _=>true|.bl _,.str _=>true|.str _,.bl _=>true
 | _,_=>false
section
variable {X:Cx}{a b c:Expr}{ta tb tc:TE}{pos:Pos}
def mX{σ:St}(I:Inv X pins σ H s)(q:Q (.bl k) H)(e:k=d):EP X pins σ Q (.bool d) s:=by
 subst e;exact⟨.bl k,H,I,rfl,q⟩
def mY:bp X (compareOp .Lt) (fT λi j=>.bl (decide (i<j))):=gT λ_ _ _ _ _ _ _ q=>lt_int q
def zi:bp X (compareOp .LtE) (fT λi j=>.bl (decide (i<=j))):=gT λ_ _ _ _ _ _ _ q=>le_int q
def zj:bp X (compareOp .Gt) (fT λi j=>.bl (decide (j<i))):=gT λ_ _ _ _ _ _ _ q=>gt_int q
def zk:bp X (compareOp .GtE) (fT λi j=>.bl (decide (j<=i))):=gT λ_ _ _ _ _ _ _ q=>ge_int q
def zl:bp X (compareOp .Is) (λx y H Q=>y=.non/\Q (.bl (decide (x=.non))) H):=by
 intro a s b H x y v u Q I e d h;obtain⟨rfl,q⟩:=h;cases d;refine is_none_gen (mX I q ?_)
 cases x<;>first
  | (rfl)
  | (obtain⟨t,rfl⟩:=e;rfl)
def Kw:bp X (compareOp .IsNot) (λx y H Q=>y=.non/\Q (.bl (!decide (x=.non))) H):=by
 intro a s b H x y v u Q I e d h;obtain⟨rfl,q⟩:=h;cases d;refine isnot_none_gen (mX I q ?_)
 cases x<;>first
  | (rfl)
  | (obtain⟨t,rfl⟩:=e;rfl)
theorem fU(b:Expr)(h:op≠.In:=by decide)(e:op≠.NotIn:=by decide):behindInMarks op b=false:=by
 cases b with
 | Set d k p=>
   show(_&&_)=_;grind
 | _=>rfl
def Kx(k:bp X (compareOp m) r)(d:PE X a ta)(n:PE X b tb)(j:behindInMarks m b=false):PE X (.Compare a [m] [b] pos) (jD r ta tb):=by
 intro c s o H Q I h;exact wpAny_Compare1 (jE d n I h λv u g x y f i e l q=>k _ g o f x y v u Q i e l q) j
def m_(t:TE):TT:=λa H Q=>t a H λx b=>∃k,x=.bl k/\Q k b
def zm(E:bp X (compareOp J) r)(p:PE X a ta)(L:PE X b tb)(f:behindInMarks J b=false):PT X (.Compare a [J] [b] pos) (m_ (jD r ta tb)):=by
 intro K s G H Q I h;refine wpAny_isTrue_Compare1 (az (p _ s G H _ I h) λv C d=>?_) f;obtain⟨x,g,w,o,i⟩:=d;refine az (L _ C G g _ w i) λu D d=>?_;obtain⟨y,t,n,m,B⟩:=d;refine az (E _ D G t x y v u _ n o m B) λc F d=>?_;obtain⟨z,j,q,A,k,e,l⟩:=d;subst e;cases A;exact wpAny_truthy_bool ⟨j,q,l⟩
def zo(r f:R2)(ta tb tc:TE):TE:=λa H Q=>ta a H λx d=>tb a d λy g=>r x y g λz b=>∃k,z=.bl k/\
 (if k=true then tc a b λc e=>f y c e Q else Q (.bl false) b)
def Re(E:bp X (compareOp o) r)(j:bp X (compareOp g) J)(R:PE X a ta)(hb:PE X b tb)(O:PE X c tc)(t:lastMarks [o,g] [b,c]=false:=by with_unfolding_all rfl):PE X (.Compare a [o,g] [b,c] pos) (zo r J ta tb tc):=by
 intro q s i H Q I h;refine Compare_chain (az (R _ s i H _ I h) λv w f=>?_) t;obtain⟨x,F,A,S,G⟩:=f;refine chain_link (az (hb _ w i F _ A G) λu C f=>?_);obtain⟨y,U,K,m,Z⟩:=f;refine az (E _ C i U x y v u _ K S m Z) λd s3 f=>?_;obtain⟨z,l,p,Y,k,e,n⟩:=f;subst e;cases Y;refine wpAny_truthy_bool ?_
 cases k with
 | false=>exact ite_ff ⟨.bl _,l,p,rfl,n⟩
 | true=>
   refine ite_tt (chain_last (az (O _ s3 i l _ p n) λB N f=>?_));obtain⟨V,M,D,T,L⟩:=f;exact j _ N i M y V u B Q D m T L
def jG(K:W7)(x:V)(H:Hp)(k:Bool):Prop:=
 match x with
 | .non=>k=false
 | .bl b=>k=b
 | .int i=>k=(i != 0)
 | .str y=>y.length<=sizeLine/\k=((y.length:Int)!=0)
 | .byt y=>y.size<=sizeLine/\k=((y.size:Int)!=0)
 | .ref p=>(∃a,SqL K H p a/\k=!a.isEmpty)\/(∃a,SqT K H p a/\k=!a.isEmpty)\/∃d,H p=some (.dK d)/\k=!d.isEmpty
 | _=>False
def Rf{vs:List (κ×Value)}(r:KV d vs):(!vs.isEmpty)=!d.isEmpty:=by
 cases r<;>rfl
def Ky(r:Vals xs its):(!its.toArray.isEmpty)=!xs.isEmpty:=by
 cases r<;>simp
def nc:(sizeLine:Nat)<2^63:=by decide
theorem zp:yZ X (λx H Q=>∃k,jG X.K x H k/\Q k H):=by
 intro A s E H x v Q I j h;obtain⟨k,e,q⟩:=h;have z:=nc;have D:sizeLine=16777216:=jg
 cases x with
 | non=>
   cases j;have d:k=false:=e;subst d;exact truthy_none ⟨H,I,q⟩
 | bl b=>
   cases j;have d:k=b:=e;subst d;exact wpAny_truthy_bool ⟨H,I,q⟩
 | int i=>
   obtain⟨t,rfl⟩:=j;have d:k=(i != 0):=e;subst d;exact PySem.P.truthy_int ⟨H,I,q⟩
 | str y=>
   obtain⟨t,rfl⟩:=j;obtain⟨w,d⟩:=e;subst d;exact PySem.P.truthy_str (by lia) ⟨H,I.tok _,q⟩
 | byt y=>
   obtain⟨t,rfl⟩:=j;obtain⟨w,d⟩:=e;subst d;exact W.truthy_bytes (by lia) ⟨H,I.tok _,q⟩
 | ref p=>
   cases j;have d:=e;rcases d with⟨C,l,d⟩|⟨C,l,d⟩|⟨n,l,d⟩
   .subst d
    obtain⟨c,r,f,o⟩:=I.list l;have g:=r.length;exact wpAny_truthy_list f.isList (by grind) ⟨H,I.tok _,by rw[Ky r];exact q⟩
   .subst d
    obtain⟨c,r,f,o⟩:=I.tuple l;have g:=r.length;exact truthy_tuple f (by grind) ⟨H,I.tok _,by rw[Ky r];exact q⟩
   .subst d
    obtain⟨o,u,B,r,m⟩:=I.hok p _ l;have g:n.length=B.length:=Paired.length r;exact wpAny_truthy_dict u m (by lia) ⟨H,I.tok _,by rw[Rf r];exact q⟩
 | _=>exact(show False from e).elim
def Rg(n:PE X a ta)(l:∀d,isTrue a X.env d=(do let v <-d;standAt a.pos;holding [v] (truthy v))):
 PT X a (λσ H Q=>ta σ H λx H'=>∃k,jG X.K x H' k/\Q k H'):=by
 intro b s σ H Q I h;refine isTrue_plain (az (n _ s σ H _ I h) λv i e=>?_) (l _);obtain⟨x,m,g,f,j⟩:=e;exact zp _ i σ m x v Q g f j
theorem ee(r:Vals [x] us):∃u,us=[u]/\RelV x u:=by
 cases r with
 | cons e d=>cases d;grind
theorem ng(r:Vals [x,y] us):∃u d,us=[u,d]/\RelV x u/\RelV y d:=by
 cases r with
 | cons h f=>
   cases f with
   | cons g e=>cases e;grind
def Kz(c:X.calm=true):dz X (.builtin "min") (λxs H Q=>∃i j,xs=[.int i,.int j]/\Q (.int (if j<i then j else i)) H):=by
 intro b s f H xs e Q I r h;obtain⟨i,j,rfl,q⟩:=h;obtain⟨u,m,rfl,⟨t,rfl⟩,⟨g,rfl⟩⟩:=ng r
 refine min_two_ints (I.ok.hd c) λl d k=>⟨_,H,I.kept k,?_,q⟩
 by_cases a:j<i
 .rw[if_pos a,if_pos a];exact⟨_,rfl⟩
 .rw[if_neg a,if_neg a];exact⟨_,rfl⟩
end
structure ObjM(h:Heap)(x dx C:Addr)(mA:AD):Prop where
 obj:h.get? x=some (W.instObj C dx)
 ns:h.Ns1 dx mA
 ne:dx≠x
theorem Rh{h:Heap}(n:h.Ns1 m l):∃d,h.get? m=some d/\∀b,W.lookIn b d=some (l b):=by
 obtain⟨o,j,q,f,i,g,_,p⟩:=n;refine⟨o,f,λb=>?_⟩;have e:=p b;unfold nsFind findBy at e;unfold W.lookIn;rw[i];dsimp only
 split
 .grind
 .have a:j.toList.any (·.refKey)=false:=by
   rw[List.any_eq_false];intro y k;obtain⟨z,t,c⟩:=g y (Array.mem_toList_iff.mp k);simp[DictEntry.refKey,c]
  grind
def ObjM.look(I:ObjM h x d C e):∃b,W.InstAt h x (W.instObj C d) C (some b)/\∀g,W.lookIn g b=some (e g):=
 let ⟨b,c,f⟩:=Rh I.ns
 ⟨b,⟨I.obj,rfl,rfl,c⟩,f⟩
section
variable {prog:P7}{w:World}{A:Around}{E:AA}{s:Shared}{K:W7}{x dx C f:Addr}{mA:AD}{name:Str}{v:Value}
def zq{a:Bool}{Q:AA}(X:K.In s.heap)(I:ObjM s.heap x dx C mA)(d:W.plainGet K C name=true)(e:W.hasDictIn K C=true)(i:W.findIn K (.ref C) name=some none)(c:mA name=some v)(b:W.handedIn v=true)(h:Q v { s with toks:=s.toks+1 }):
 wpAny (mZ prog w) A (getAttr (.ref x) name a) Q E s:=by
 obtain⟨j,J,g⟩:=I.look;exact W.get_value X J (W.plainGet_of d).1 (W.findObj_own e i rfl (by rw[g,c])) b h
def Ri{i:Sem Bool}{Q:Value×AC->Shared->Prop}(X:K.In s.heap)(I:ObjM s.heap x dx C mA)(a:W.plainGet K C name=true)(d:W.findIn K (.ref C) name=some (some (.ref f)))(g:W.isFn K (.ref f)=true)(b:mA name=none)(h:Q (.ref f,[.ref x]) s):
 wpAny (mZ prog w) A (getMethod (.ref x) name i) Q E s:=by
 obtain⟨c,J,e⟩:=I.look;exact W.method_fn X J (W.plainGet_of a).1 (W.plainGet_of a).2 d (beq_iff_eq.mp g) (by show(W.lookIn _ c).map _=_;rw[e,b];rfl) h
theorem zr{ns:AJ}{Q:Unit->Shared->Prop}(X:K.In s.heap)(I:ObjM s.heap x dx C mA)(hs:W.findIn K (.ref C) "__setattr__"=some (some (.builtin "object.__setattr__")))(q:W.plainOver K C=true)(j:W.takerIn K C name=some none)(m:W.hasDictIn K C=true)(p:PySem.Within mA ns)(o:ns.length<=sizeLine)(h:∀f,ObjM f x dx C (λy=>if y=name then some v else mA y)->Heap.SameBut dx s.heap f->Q () { s with heap:=f,toks:=s.toks+2 }):
 wpAny (mZ prog w) A (setAttr (.ref x) name v) Q E s:=by
 obtain⟨u,J,t⟩:=I.look;refine W.set_plain X J hs (W.osa_open X J q j λb=>?_);obtain⟨r,k,i⟩:=W.any_some m;refine wa (wc (wa (wa (wpAny_loadPart I.obj (wa (W.Looks.here (W.looks_clsIn X k) ?_))))));rw[i];refine wc (wa (wc (wa (wpAny_nsSet1 I.ns λf c a=>?_))));obtain⟨z,l,n,d,e,g⟩:=c.count (.cons _ v p);exact wa (wpAny_lookBehind d (by rw[e];exact pastItsLine_dict (Qg g (by rw[qt];lia))) (wc (h _ ⟨(a.2 _ (.symm I.ne)).trans I.obj,c,I.ne⟩ a)))
def Rj{R:Result->Shared->Prop}{vs:AC}{b:List (Str×Value)}(X:K.In s.heap)(d:W.makesIn K C=true)(c:W.findIn K (.ref C) "__init__"=some (some (.ref f)))(e:W.typeIn K (.ref f)=some (.type "function"))(h:codeAny (mZ prog w) (A.under (.builtin "type.__call__" ⟨.ref C::vs,b⟩)) (.call (.ref f) ⟨.ref (~~~s+1)::vs,b⟩) (W.InitBack (~~~s+1) R)
  { s with heap:=(s.heap.push W.emptyDict).push (W.instObj C (~~~s)) }):
 codeAny (mZ prog w) A (.call (.ref C) ⟨vs,b⟩) R s:=W.make_core (W.makes_of X d) (W.looks_findIn X c) (λa=>W.bind_fn X a e) (.inl rfl) h
end
def bM(f:Str)(v:V):List (Str×V)->List (Str×V)
 | []=>[(f,v)]
 | (g,x)::r=>if g=f then (g,v)::r else (g,x)::bM f v r
theorem KA(f g:Str)(v:V):∀b:List (Str×V),(bM f v b).lookup g=if g=f then some v else b.lookup g
 | []=>by
   show List.lookup g [_]=_;by_cases h:g=f
   .have c:=beq_iff_eq.mpr h
    simp [List.lookup,c,if_pos h]
   .have c:=beq_eq_false_iff_ne.mpr h
    simp [List.lookup,c,if_neg h]
 | (k,x)::r=>by
   rw[show bM f v _=(if k=f then (k,v)::r else (k,x)::bM f v r) from rfl];by_cases a:k=f
   .rw[if_pos a]
    by_cases h:g=k
    .have c:=beq_iff_eq.mpr h
     simp [List.lookup,c,if_pos (h.trans a)]
    .have c:=beq_eq_false_iff_ne.mpr h
     simp [List.lookup,c,if_neg (λe:g=f=>h (e.trans a.symm))]
   .rw[if_neg a]
    by_cases h:g=k
    .have c:=beq_iff_eq.mpr h
     simp [List.lookup,c,if_neg (λe=>a (h.symm.trans e))]
    .have c:=beq_eq_false_iff_ne.mpr h
     simp [List.lookup,c];exact(KA f g v r)
theorem zt(f:Str)(v:V):∀a:List (Str×V),f∈(bM f v a).map (·.1)/\∀g,g∈a.map (·.1)->g∈(bM f v a).map (·.1)
 | []=>⟨by simp[bM],λg h=>by simp at h⟩
 | (k,x)::r=>by
   obtain⟨d,c⟩:=zt f v r;rw[show bM f v _=(if k=f then (k,v)::r else (k,x)::bM f v r) from rfl];by_cases b:k=f
   .subst b
    exact⟨by simp,λg h=>by simpa using h⟩
   .rw[if_neg b]
    refine⟨?_,λg h=>?_⟩
    .exact qg _ d
    .rcases qu h with e|e
     .exact List.mem_cons.mpr (.inl e)
     .exact qg _ (c g e)
theorem KC(f:Str)(v:V):∀b:List (Str×V),(bM f v b).length<=b.length+1
 | []=>by simp[bM]
 | (k,x)::r=>by
   have c:=KC f v r;rw[show bM f v _=(if k=f then (k,v)::r else (k,x)::bM f v r) from rfl];by_cases a:k=f
   .rw[if_pos a,qt,qt];lia
   .rw[if_neg a,qt,qt];lia
def RelO.some_of(r:RelO (some v) o):∃u,o=some u/\RelV v u:=by
 cases o with
 | none=>exact(r).elim
 | some u=>exact⟨u,rfl,r⟩
def RelO.none_of{o:Option Value}(r:RelO none o):o=none:=by
 cases o with
 | none=>rfl
 | some u=>exact(r).elim
def Rk{v:V}{u:Value}(r:RelV v u):W.handedIn u=true:=by
 cases v with
 | non=>cases (r);rfl
 | bl b=>cases (r);rfl
 | int i=>obtain⟨t,e⟩:=r;cases e;rfl
 | str x=>obtain⟨t,e⟩:=r;cases e;rfl
 | byt b=>obtain⟨t,e⟩:=r;cases e;rfl
 | flt b=>obtain⟨t,e⟩:=r;cases e;rfl
 | ref a=>cases (r);rfl
 | ty n=>cases (r);rfl
section
variable {P:P7}{w:World}{H H':Hp}{h h':Heap}{a C dx:Addr}{fs fs':List (Str×V)}
def tF(g:HOk P w H h)(e:H a=some (.ins C dx fs)):∃b,ObjM h a dx C b/\(∀f,RelO (fs.lookup f) (b f))/\PySem.Within b (fs.map (·.1))/\fs.length<=1000/\H dx=some (.own a):=by
 obtain⟨d,z,i,j,b,n,r,q⟩:=g a _ e;exact⟨b,⟨j,n,i⟩,r,q,z,d⟩
end
structure Cls(K:W7)(C:Addr):Prop where
 pg:W.plainGet K C Str.empty=true
 hd:W.hasDictIn K C=true
 po:W.plainOver K C=true
 sa:W.findIn K (.ref C) "__setattr__"=some (some (.builtin "object.__setattr__"))
def Cls.get{K:W7}(c:Cls K C)(f:Str):W.plainGet K C f=true:=c.pg
def NoAttr(K:W7)(C:Addr)(f:Str):Prop:=W.findIn K (.ref C) f=some none
def NoAttr.taker{K:W7}{C:Addr}{f:Str}(n:NoAttr K C f):W.takerIn K C f=some none:=by
 unfold W.takerIn;rw[n];rfl
structure Con(K:W7)(C:Addr)(f:Str)(v:V)(u:Value):Prop where
 at_:W.findIn K (.ref C) f=some (some u)
 rel:RelV v u
 get:W.specialIn K u "__get__"=some none
 cp:W.copiedNames.contains f=false
structure eX(K:W7)(C:Addr)(m:Str)(f:Addr):Prop where
 at_:W.findIn K (.ref C) m=some (some (.ref f))
 fn:W.isFn K (.ref f)=true
 kp:W.keepIn K (.ref f)=true
section
variable {X:Cx}{pins:AB}{σ:St}{H:Hp}{s:Shared}{a C dx:Addr}{fs:List (Str×V)}{f:Str}{v:V}{A:Around}{E:AA}
def Rm{b:Bool}{Q:AA}(I:Inv X pins σ H s)(e:H a=some (.ins C dx fs))(c:Cls X.K C)(n:NoAttr X.K C f)(l:fs.lookup f=some v)(h:∀u s',Inv X pins σ H s'->RelV v u->Q u s'):wpAny (mZ X.prog X.w) A (getAttr (.ref a) f b) Q E s:=by
 obtain⟨i,O,r,_,_,_⟩:=tF I.hok e;obtain⟨u,g,d⟩:=RelO.some_of (by rw[<-l];exact r f);exact zq I.kIn O (c.get f) c.hd n g (Rk d) (h u _ (I.tok _) d)
def KD{m:Str}{g:Addr}{d:Sem Bool}{Q:Value×AC->Shared->Prop}(I:Inv X pins σ H s)(e:H a=some (.ins C dx fs))(c:Cls X.K C)(k:eX X.K C m g)(l:fs.lookup m=none)(h:Q (.ref g,[.ref a]) s):wpAny (mZ X.prog X.w) A (getMethod (.ref a) m d) Q E s:=by
 obtain⟨b,O,r,_,_,_⟩:=tF I.hok e;exact Ri I.kIn O (c.get m) k.at_ k.fn (RelO.none_of (by rw[<-l];exact r m)) h
theorem Rn{y:V}{u:Value}{Q:Unit->Shared->Prop}(I:Inv X pins σ H s)(e:H a=some (.ins C dx fs))(c:Cls X.K C)(n:NoAttr X.K C f)(x:fs.length<1000)(p:RelV y u)(h:∀s',Inv X pins σ (upd H a (.ins C dx (bM f y fs))) s'->Q () s'):wpAny (mZ X.prog X.w) A (setAttr (.ref a) f u) Q E s:=by
 obtain⟨m,O,r,j,_,i⟩:=tF I.hok e
 have t:(fs.map (·.1)).length<=sizeLine:=by rw[qf,jg];lia
 refine zr I.kIn O c.sa c.po n.taker c.hd j t λB d k=>h _ (I.write (by rw[e];exact .intro) (.inr i) (λb q v z=>(k.2 b v).trans z) (let ⟨o,_,_,l,_⟩:=d.ns;⟨o,l⟩) (⟨by rwa [Yh O.ne],?_,O.ne,d.obj,_,d.ns,λg=>?_,λg w=>?_⟩))
 .have:=KC f y fs;lia
 .rw[KA]
  by_cases q:g=f
  .rwa [if_pos q,if_pos q]
  .rw[if_neg q,if_neg q];exact r g
 .by_cases q:g=f
  .rw[q];exact(zt f y fs).1
  .refine(zt f y fs).2 g (j g λz=>w ?_)
   show(if g=f then _ else m g)=none
   rwa [if_neg q]
theorem Inv.made(I:Inv X pins σ H s):Inv X pins σ (upd (upd H (~~~s) (.own (~~~s+1))) (~~~s+1) (.ins C (~~~s) []))
 { s with heap:=(s.heap.push W.emptyDict).push (W.instObj C (~~~s)) }:=by
 have c:_=some W.emptyDict:=qp s.heap rfl
 have f:=by
  have:=qp (s.heap.push W.emptyDict) (o:=W.instObj C (~~~s)) rfl
  rwa [ww]at this
 refine(I.laid (o:=.own _) (t':=s.toks) (λb u q=>qe _ q) (qv _) ⟨_,c⟩).laid (λb u q=>qe _ q) (Nat.le_of_eq (ww _ _)) ?_;have d:(~~~s)≠_:=qm (Qa _);refine⟨by rw[Yh d,Yg],Qh _,d,f,λ_=>none,(Heap.Ns1.of_empty (⟨W.emptyDict,#[],_,c,rfl,λe h=>absurd h (by simp),λ_=>rfl⟩)).at λo q=>qe _ q,λ_=>.intro,λy g=>absurd rfl g⟩
def zu{prog:P7}{w:World}{env:Env}{e:Expr}{f:Str}{c:Pos}{s:Shared}{Q:AA}(a:attributeBase e f env (eval e env)=eval e env)(h:wpAny (mZ prog w) A (eval e env) (λo b=>wpAny (mZ prog w) A (getAttr o f true) Q E b) E s):wpAny (mZ prog w) A (eval (.Attribute e f c) env) Q E s:=
 Attribute_any_ h (by rw[arm_eval_Attribute,a])
end
def zw(K:W7)(g:TE)(f:Str):TE:=λh H Q=>g h H λx d=>∃a C e c v,x=.ref a/\d a=some (.ins C e c)/\Cls K C/\NoAttr K C f/\c.lookup f=some v/\Q v d
def zx(K:W7)(g i:TE)(f:Str):TS:=λD j H=>i j H λy h=>g j h λx d=>∃a C e c,x=.ref a/\d a=some (.ins C e c)/\Cls K C/\NoAttr K C f/\c.length<1000/\
 D.nx j (upd d a (.ins C e (bM f y c)))
section
variable {X:Cx}{o e value:Expr}{f:Str}{pos pos' tpos:Pos}{ta tv:TE}{pins:AB}{σ:St}{H:Hp}{s:Shared}{A:Around}{E Q:AA}{c:Value}{b:Bool}
def nh(g:PE X e ta)(o:attributeBase e f X.env (eval e X.env)=eval e X.env):PE X (.Attribute e f pos) (zw X.K ta f):=by
 intro b s A H Q I h;refine zu o (az (g _ s A H _ I h) λu y d=>?_);obtain⟨x,k,t,r,a,C,w,z,v,m,j,c,n,l,q⟩:=d;subst m;obtain rfl:=r
 exact Rm t j c n l λB D p i=>⟨v,k,p,i,q⟩
def ni(k:PE X o ta)(t:PE X value tv)(hs:swapsWith value (some (.Attribute o f pos')) pos.line X.env=pure false):PS X (.Assign [.Attribute o f pos'] value pos) (zx X.K ta tv f):=by
 intro e s b H D I h;refine plainObj_wpAny_Assign_Attribute (az (t _ s b H _ I h) λu B d=>?_) hs;obtain⟨y,i,v,g,q⟩:=d;refine az (k _ B b i _ v q) λL K d=>?_;obtain⟨x,G,p,j,a,C,M,F,m,r,c,n,l,z⟩:=d;subst m;obtain rfl:=j
 exact Rn p r c n l g λJ w=>⟨b,_,w,z⟩
inductive cw (K:W7) (H:Hp):V->Value->Prop where
 | non:cw K H .non (.type "NoneType")
 | bl (x:Bool):cw K H (.bl x) (.type "bool")
 | int (i:Int):cw K H (.int i) (.type "int")
 | str (x:Str):cw K H (.str x) (.type "str")
 | flt (x:UInt64):cw K H (.flt x) (.type "float")
 | lst {a:Addr}{xs:AM} (e:H a=some (.lst xs)):cw K H (.ref a) (.type "list")
 | frz {a:Addr}{o:Obj}{xs:AM} (e:H a=some (.frz o (.lst xs))):cw K H (.ref a) (.type "list")
 | tup {a:Addr}{xs:AM} (e:H a=some (.tup xs)):cw K H (.ref a) (.type "tuple")
 | dK {a:Addr}{kvs:List (aZ×V)} (e:H a=some (.dK kvs)):cw K H (.ref a) (.type "dict")
 | dT {a:Addr}{kvs:List (List aZ×V)} (e:H a=some (.dT kvs)):cw K H (.ref a) (.type "dict")
 | ins {a C dx:Addr}{fs:List (Str×V)} (e:H a=some (.ins C dx fs)) (cl:Cls K C) (ha:W.findIn K (.ref C) "__class__"=some (some (.builtin "object.__class__")))
  (hn:W.specialIn K (.builtin "object.__class__") "__get__"=some (some (.builtin "getset_descriptor.__get__"))) (htk:W.takesIn K (.builtin "object.__class__")=some true)
  (hm:W.mroIn K C (.type "object")=some true):cw K H (.ref a) (.ref C)
def Rq(I:Inv X pins σ H s)(j:RelV x u)(F:cw X.K H x t)(e:W.kitOne X.K t c=some b)(h:∀tk,Q (.bool b) { s with toks:=tk }):
 wpAny (mZ X.prog X.w) A (call (.builtin "isinstance") [u,c]) Q E s:=by
 cases F with
 | non=>cases (j);exact W.kia_one W.kitx_none I.kIn .intro e (λz=>nomatch z) h
 | bl y=>cases (j);exact W.kia_one W.kitx_bool I.kIn .intro e (λz=>nomatch z) h
 | int i=>obtain⟨t,q⟩:=j;cases q;exact W.kia_one W.kitx_int I.kIn .intro e (λz=>nomatch z) h
 | str y=>obtain⟨t,q⟩:=j;cases q;exact W.kia_one W.kitx_str I.kIn .intro e (λz=>nomatch z) h
 | flt y=>obtain⟨t,q⟩:=j;cases q;exact W.kia_one W.kitx_float I.kIn .intro e (λz=>nomatch z) h
 | @lst a f g=>
   cases (show u=.ref a from j);obtain⟨_,_,n,_,k⟩:=I.hok a _ g;exact W.kia_one W.kitx_list I.kIn ⟨_,k,rfl⟩ e (λz=>nomatch z) h
 | @frz a P f g=>
   cases (j);obtain⟨_,_,_,n,_,k⟩:=I.hok a _ g;exact W.kia_one W.kitx_list I.kIn ⟨_,k,rfl⟩ e (λz=>nomatch z) h
 | @tup a f g=>
   cases (show u=.ref a from j);obtain⟨_,_,_,p⟩:=I.hok a _ g;obtain⟨o,k,l,_⟩:=p;exact W.kia_one W.kitx_tuple I.kIn ⟨o,k,l⟩ e (λz=>nomatch z) h
 | @dK a r g=>
   cases (show u=.ref a from j);obtain⟨_,_,S,_,p⟩:=I.hok a _ g;obtain⟨o,G,B,k,l,_⟩:=p;exact W.kia_one W.kitx_dict I.kIn ⟨o,k,l.1⟩ e (λz=>nomatch z) h
 | @dT a r g=>
   cases (show u=.ref a from j);obtain⟨_,_,f,_,o,G,B,k,l,_⟩:=I.hok a _ g;exact W.kia_one W.kitx_dict I.kIn ⟨o,k,l.1⟩ e (λz=>nomatch z) h
 | @ins a C L N g v D K m w=>
   cases (j);obtain⟨R,O,_⟩:=tF I.hok g;obtain⟨M,J,_⟩:=O.look;exact W.kia_one (W.kitx_own (v.get _) v.hd D K m w) I.kIn J e (λz=>nomatch z) h
end
structure Room(k:Nat)(A:Around):Prop where
 hd:A.handled=none
 dp:A.depth+3*k+5<recursionLimit
 un:A.units+16*k+200<cLine
theorem Room.mono(r:Room k A)(h:j<=k):Room j A:=⟨r.hd,by have:=r.dp;lia,by have:=r.un;lia⟩
theorem Room.deeper(r:Room (k+1) A)(env:Env):Room k (A.deeper env):=
 ⟨r.hd,by have:=r.dp;show _+1+3*k+5<_;lia,by have:=r.un;show _+3+16*k+200<_;lia⟩
def Rr{A:Around}{C:Addr}{us:AC}{a:List (Str×Value)}:(A.under (.builtin "type.__call__" ⟨.ref C::us,a⟩)).depth=A.depth+1:=by
 first|rfl|simp[guardIds]
def Rt{A:Around}{C:Addr}{us:AC}{a:List (Str×Value)}:(A.under (.builtin "type.__call__" ⟨.ref C::us,a⟩)).units=A.units+1:=by
 first|rfl|simp[.frames]
theorem Room.make{k:Nat}{A:Around}(r:Room (k+1) A)(C:Addr)(us:AC)(a:List (Str×Value)):Room k (A.under (.builtin "type.__call__" ⟨.ref C::us,a⟩)):=
 ⟨r.hd,by have:=r.dp;rw[Rr];lia,by have:=r.un;rw[Rt];lia⟩
theorem Room.depth(r:Room k A):A.depth<recursionLimit:=by have:=r.dp;lia
theorem Room.units(r:Room k A):A.units+64<cLine:=by have:=r.un;lia
def nj:TA:=λ_ H Q=>Q [] H
def zy(a:TE)(d:TA):TA:=λe H Q=>a e H λx b=>d e b λf c=>Q (x::f) c
section
variable {X:Cx}{e:Expr}{es:AK}{te:TE}{t:TA}{pos:Pos}
def fV:PA X [] nj:=λ_ _ _ _ H Q I h=>Calls.spliced_nil ⟨[],H,I,.nil,h⟩
def fW(k:PE X e te)(d:PA X es t)(hs:starEach (e::es) X.env=(false,eval e X.env)::starEach es X.env:=by rfl):PA X (e::es) (zy te t):=by
 intro b r s v H Q I h;rw[hs];show wpAny _ _ (spliced ((_,eval e _)::backTo b _)) _ _ s;refine Calls.spliced_cons (az (k _ s v H _ I h) λu c a=>?_);obtain⟨x,o,m,j,f⟩:=a;refine az (d b _ c v o _ m f) λy p a=>?_;obtain⟨w,l,i,g,n⟩:=a;exact⟨x::w,l,i,.cons j g,n⟩
def zz(t:TA):TE:=λc H Q=>t c H λb a=>b.length<=sizeLine/\∀p,a p=none->Q (.ref p) (upd a p (.tup b))
def zA(t:TA):TE:=λc H Q=>t c H λb a=>b.length<=sizeLine/\∀p,a p=none->Q (.ref p) (upd a p (.lst b))
def zB{d}(h:PA X es t):PE X (.Tuple es d pos) (zz t):=by
 intro i s k H Q I g;exact wpAny_Tuple_spliced (az (h pos _ s k H _ I g) λl c ⟨j,f,a,r,z,q⟩=>⟨by rwa [<-r.length],⟨.ref _,upd f _ (.tup j),a.laid (λb u e=>qe _ e) (qv _) (⟨z,l,r,⟨_,qp _ rfl,rfl,_,rfl⟩⟩),rfl,q _ (a.hok.fresh (qv _))⟩⟩)
def nk(h:PA X es t):PE X (.List es pos) (zA t):=by
 intro g s j H Q I d;exact wpAny_List_spliced (az (h pos _ s j H _ I d) λk a ⟨i,f,c,r,z,q⟩=>⟨by rwa [<-r.length],⟨.ref _,upd f _ (.lst i),c.laid (λb u e=>qe _ e) (qv _) (⟨z,k,0,r,qp _ rfl⟩),rfl,q _ (c.hok.fresh (qv _))⟩⟩)
end
abbrev Sp:=AM->Hp->VK->XK->Prop
abbrev gU:=List Env->Hp->Shared->XK->AA
structure Env0(P:P7)(w:World)(K:W7)(mg:AD)(base:Heap)(A:Around)(outer:List Env)(s:Shared)(H:Hp):Prop where
 frames:A.frames=some outer
 mod:Mod K mg base
 bs:∀b o,base.get? b=some o->s.heap.get? b=some o/\H b=none
 bsz:base.objs.size<= ~~~s
 funs:s.heap.FunFrames base outer
 frf:∀b∈fE outer,H b=none
 hok:HOk P w H s.heap
 bare:AllBare s.gens
def CE(a:List Env)(P:P7)(w:World)(H:Hp)(s:Shared)(Q:VK)(u:Value)(s':Shared):Prop:=
 ∃v b,s'.os=s.os/\AllBare s'.gens/\Un (fE a) [] H b s.heap s'.heap/\HOk P w b s'.heap/\RelV v u/\Q v b
def CR(CX:gU)(a:List Env)(P:P7)(w:World)(H:Hp)(s:Shared)(Q:VK)(E:XK)(r:Result)(s':Shared):Prop:=
 match r with
 | .ok (.ret u)=>CE a P w H s Q u s'
 | .ok _=>False
 | .error e=>CX a H s E e s'
structure FnOk(P:P7)(w:World)(K:W7)(mg:AD)(base:Heap)(CX:gU)(k:Nat)(f:Addr)(fd:FuncData)(ps:AJ)(sp:Sp):Prop where
 len:∀vs H Q E,sp vs H Q E->vs.length=ps.length
 run:∀(A:Around) (outer:List Env) (s:Shared) (H:Hp) (args:Args) (us:AC) (vs:AM) (Q:VK) (E:XK),Room k A->Env0 P w K mg base A outer s H->BindsTo s fd args (ps.zip us)->Vals vs us->sp vs H Q E->
  codeAny (mZ P w) A (.call (.ref f) args) (CR CX outer P w H s Q E) s
def FnOk.mono{P:P7}{w:World}{K:W7}{g:AD}{a:Heap}{CX:gU}{j k:Nat}{f:Addr}{e:FuncData}{l:AJ}{sp:Sp}(F:FnOk P w K g a CX j f e l sp)(h:j<=k):
 FnOk P w K g a CX k f e l sp:=⟨F.len,λA b s H c n m Q E i=>F.run A b s H c n m Q E (i.mono h)⟩
def Env0.make{P:P7}{w:World}{K:W7}{d:AD}{b:Heap}{A:Around}{a:List Env}{s:Shared}{H:Hp}(e:Env0 P w K d b A a s H)(C:Addr)(us:AC)(f:List (Str×Value)):
 Env0 P w K d b (A.under (.builtin "type.__call__" ⟨.ref C::us,f⟩)) a s H:=⟨by first|exact e.frames|(simpa [pushEnvs]using e.frames),e.mod,e.bs,e.bsz,e.funs,e.frf,e.hok,e.bare⟩
section
variable {X:Cx}{pins:AB}{σ:St}{H:Hp}{s s':Shared}
def Inv.env0(I:Inv X pins σ H s):Env0 X.prog X.w X.K X.mg X.base X.A X.stack s H:=
 ⟨I.ok.frames,I.ok.mod,I.bs,Qg I.ok.bsz I.sz,I.stack,I.stkFree,I.hok,I.bare⟩
def Inv.after(I:Inv X pins σ H s)(h:CE X.stack X.prog X.w H s Q u s'):EP X pins σ Q u s':=by
 obtain⟨v,j,os,a,e,c,r,q⟩:=h;obtain⟨i,g,d,t,f⟩:=s';obtain rfl:=os;exact⟨v,j,I.call e c a (λb z=>absurd z (by simp)),r,q⟩
end
def zC(sp:Sp)(b:AM)(E:XK)(t:TA):TE:=λc H Q=>t c H λd a=>sp (d++b) a Q E
def zD(C:Addr)(m:Str)(sp:Sp)(g:AM)(E:XK)(d:TE)(t:TA):TE:=λh H Q=>d h H λx c=>∃a e b,x=.ref a/\c a=some (.ins C e b)/\b.lookup m=none/\
 t h c λi f=>sp (x::(i++g)) f Q E
def zE(C:Addr)(sp:Sp)(d:AM)(E:XK)(t:TA):TE:=λe H Q=>t e H λf b=>∀x a,b x=none->b a=none->a≠x->
 sp (.ref x::(f++d)) (upd (upd b a (.own x)) x (.ins C a [])) (λv c=>v=.non/\Q (.ref x) c) E
def Binds(K:W7)(b:FuncData)(d:AJ)(e:AC):Prop:=
 ∀(s:Shared) (c:List _),K.In s.heap->(c++e).length=d.length->BindsTo s b ⟨c,[]⟩ (d.zip (c++e))
def Binds.all{K:W7}(h:∀us:AC,us.length=d.length->bindArgs c ⟨us,[]⟩=pure (d.zip us)):Binds K c d []:=λs us _ b=>by
 rw[w6]at b ⊢;exact .of_eq (h us b)
def lC(CX:gU)(X:Cx)(E:XK):Prop:=∀(a:List _) (c:St) (H:Hp) (s:Shared) (e:Value) (b:Shared),Inv X a c H s->CX X.stack H s E e b->X.xe e b
section
variable {X:Cx}{CX:gU}{k:Nat}{f C:Addr}{fd:FuncData}{ps:AJ}{sp:Sp}{dvs:AM}{ds:AC}{E:XK}{x m:Str}{p pos apos:Pos}{e o:Expr}{es:AK}{ta:TE}{t:TA}
def zF{σ:St}(F:FnOk X.prog X.w X.K X.mg X.base CX k f fd ps sp)(d:Room k X.A)(m:Binds X.K fd ps ds)(c:Vals dvs ds)(g:lC CX X E)(I:Inv X pins σ H s)(r:Vals vs us)(h:sp (vs++dvs) H Q E):wpAny (mZ X.prog X.w) X.A (call (.ref f) us) (EP X pins σ Q) X.xe s:=by
 have b:=r.append c
 have i:(us++ds).length=ps.length:=by rw[<-b.length];exact F.len _ _ _ _ h
 refine wpAny_call (codeAny_mono (F.run X.A _ s H _ _ _ Q E d I.env0 (m s us I.kIn i) b h) λr j a=>?_)
 cases r with
 | error e=>exact g _ σ H s e j I a
 | ok l=>
   cases l with
   | ret u=>exact I.after a
   | next=>exact .elim a
   | brk=>exact .elim a
   | cont=>exact .elim a
theorem zG(F:FnOk X.prog X.w X.K X.mg X.base CX k f fd ps sp)(y:Room k X.A)(l:Gl X x)(w:X.mg x=some (.ref f))(v:W.keepIn X.K (.ref f)=true)(B:Binds X.K fd ps ds)(n:Vals dvs ds)(i:lC CX X E)(u:PA X (e::es) t)(b:cv x:=by decide)(j:starEach (e::es) X.env=(false,eval e X.env)::starEach es X.env:=by rfl)(c:(backTo pos (starEach es X.env)).any (·.1)=false:=by rfl):
 PE X (.Call (.Name x p) (e::es) [] pos) (zC sp dvs E t):=by
 intro m s o H Q I h;refine wpAny_Call_Name_kw (tq I l w (W.callWith_K I.ok.mod.kin v (az (u pos _ s o H _ I h) λD A d=>?_) j c) b);obtain⟨C,z,g,r,q⟩:=d;exact⟨g.kIn,zF F y B n i g r q⟩
def Ru{t:Sem Bool}(w:PE X o ta)(c:Cls X.K C)(i:eX X.K C m f)(F:FnOk X.prog X.w X.K X.mg X.base CX k f fd ps sp)(A:Room k X.A)(L:Binds X.K fd ps ds)(y:Vals dvs ds)(n:lC CX X E)(B:eval (.Call (.Attribute o m apos) [] [] pos) X.env=(do
  let j <-eval o X.env
  standAt apos.atName
  let (f,first) <-holding [j] (getMethod j m t)
  callWith pos f first (backTo pos (starEach [] X.env)) (backToKw pos (keywordEach [] X.env))):=by rfl):
 PE X (.Call (.Attribute o m apos) [] [] pos) (zD C m sp dvs E ta nj):=by
 intro e s p H Q I h;refine W.methodCall_KW (az (w _ s p H _ I h) λu J g=>?_) B;obtain⟨x,G,d,v,a,K,D,r,z,l,q⟩:=g;subst r;obtain rfl:=v;exact KD d z c i l (W.callWith_K0 d.kIn i.kp (zF (vs:=[.ref a]) F A L y n d (.cons rfl .nil) q))
structure Mk(K:W7)(C f:Addr):Prop where
 makes:W.makesIn K C=true
 init:W.findIn K (.ref C) "__init__"=some (some (.ref f))
 fn:W.isFn K (.ref f)=true
 kp:W.keepIn K (.ref C)=true
def Rv{pins:AB}{σ:St}{H:Hp}{s:Shared}{Q:VK}{us:AC}{vs:AM}(M:Mk X.K C f)(F:FnOk X.prog X.w X.K X.mg X.base CX k f fd ps sp)(n:Room (k+1) X.A)(m:Binds X.K fd ps ds)(q:Vals dvs ds)(l:lC CX X E)(I:Inv X pins σ H s)(r:Vals vs us)(h:∀x b,H x=none->H b=none->b≠x->sp (.ref x::(vs++dvs)) (upd (upd H b (.own x)) x (.ins C b [])) (λv y=>v=.non/\Q (.ref x) y) E):
 wpAny (mZ X.prog X.w) X.A (call (.ref C) us) (EP X pins σ Q) X.xe s:=by
 have g:=h (~~~s+1) _ (I.hok.fresh (Nat.le_succ _)) (I.hok.fresh (qv _)) (qm (Qa _));have c:=Inv.made (C:=C) I;have d:Vals (.ref (~~~s+1)::_) _:=.cons rfl (r.append q)
 have z:=by
  have e:=d.length;rw[F.len _ _ _ _ g]at e;exact e.symm
 refine wpAny_call (Rj I.kIn M.makes M.init (beq_iff_eq.mp M.fn) (codeAny_mono (F.run _ _ _ _ _ _ _ _ E (n.make C us [])
  (c.env0.make C us []) (m _ _ c.kIn z) d g) λr t a=>?_))
 cases r with
 | error e=>exact l _ σ _ _ e t c a
 | ok o=>
   cases o with
   | ret u=>
     obtain⟨v,A,w,j,p,i⟩:=c.after a;subst p;exact⟨j,⟨.ref _,A,w,rfl,i⟩⟩
   | next=>exact .elim a
   | brk=>exact .elim a
   | cont=>exact .elim a
theorem zH(M:Mk X.K C f)(F:FnOk X.prog X.w X.K X.mg X.base CX k f fd ps sp)(u:Room (k+1) X.A)(l:Gl X x)(w:X.mg x=some (.ref C))(A:Binds X.K fd ps ds)(n:Vals dvs ds)(i:lC CX X E)(v:PA X (e::es) t)(b:cv x:=by decide)(j:starEach (e::es) X.env=(false,eval e X.env)::starEach es X.env:=by rfl)(c:(backTo pos (starEach es X.env)).any (·.1)=false:=by rfl):
 PE X (.Call (.Name x p) (e::es) [] pos) (zE C sp dvs E t):=by
 intro m s o H Q I h;refine wpAny_Call_Name_kw (tq I l w (W.callWith_K I.ok.mod.kin M.kp (az (v pos _ s o H _ I h) λD z d=>?_) j c) b);obtain⟨B,y,g,r,q⟩:=d;exact⟨g.kIn,Rv M F u A n i g r q⟩
end
section
variable {X:Cx}{CX:gU}{k:Nat}{f C:Addr}{fd:FuncData}{ps ks:AJ}{sp:Sp}{E:XK}{x m:Str}{p pos apos kpos:Pos}{e o:Expr}{es:AK}{kws:List Keyword}{te ta:TE}{t tk:TA}{nm:Option Str}
structure zI(K:W7)(fd:FuncData)(ps ks:AJ)(g:AC->AC->AC)(gV:AM->AM->AM):Prop where
 to:∀(s:Shared) (us ws:AC),K.In s.heap->(g us ws).length=ps.length->BindsTo s fd ⟨us,ks.zip ws⟩ (ps.zip (g us ws))
 rel:∀{vs:AM}{us:AC}{zs:AM}{ws:AC},Vals vs us->Vals zs ws->Vals (gV vs zs) (g us ws)
variable {g:AC->AC->AC}{gV:AM->AM->AM}
end
structure dE(N P:AJ)(sc:Scope):Prop where
 kind:sc.kind=.function
 co:sc.isCoroutine=false
 gen:sc.isGenerator=false
 nd:N.Nodup
 pre:N.take P.length=P
 par:∀x∈P,sc.names.lookup x=some .local\/sc.names.lookup x=some .cell
 nofree:∀y∈sc.names,y.2≠.free
theorem KE{kindOf:Str->Option NameKind}:∀{a:List (Str×Value)}{m:AD},(∀v,(x,v)∉a)->bindL kindOf a m x=m x
 | [],_,_=>rfl
 | (n,v)::r,m,h=>by
   unfold bindL;rw[KE λw b=>h w (qg _ b)]
   split
   .grind
   .rfl
theorem KF{kindOf:Str->Option NameKind}:∀{a:List (Str×Value)}{m:AD},(∀v,(x,v)∉a)->bindC kindOf a m x=m x
 | [],_,_=>rfl
 | (n,v)::r,m,h=>by
   unfold bindC;rw[KF λw b=>h w (qg _ b)]
   split
   .rfl
   grind
theorem KG{kindOf:Str->Option NameKind}:∀{P:AJ}{vs:AC}{i:Nat}{m:AD},P.Nodup->P[i]?=some x->vs[i]?=some v->kindOf x=some .local->
 bindL kindOf (P.zip vs) m x=some v
 | [],_,_,_,_,h,_,_=>by simp at h
 | _::_,[],_,_,_,_,h,_=>by simp at h
 | p::P,w::vs,0,m,b,a,c,d=>by
   simp at a c;subst a c;show bindL _ (_::P.zip vs) m p=_;unfold bindL;rw[KE λv e=>(List.nodup_cons.mp b).1 (List.of_mem_zip e).1,if_pos d];simp
 | p::P,w::vs,i+1,m,b,a,c,d=>by
   unfold bindL;exact KG (i:=i) (List.nodup_cons.mp b).2 (by grind) (by grind) d
theorem KH{kindOf:Str->Option NameKind}:∀{P:AJ}{vs:AC}{i:Nat}{m:AD},P.Nodup->P[i]?=some x->vs[i]?=some v->kindOf x≠some .local->
 bindC kindOf (P.zip vs) m x=some v
 | [],_,_,_,_,h,_,_=>by simp at h
 | _::_,[],_,_,_,_,h,_=>by simp at h
 | p::P,w::vs,0,m,b,a,c,d=>by
   simp at a c;subst a c;show bindC _ (_::P.zip vs) m p=_;unfold bindC;rw[KF λv e=>(List.nodup_cons.mp b).1 (List.of_mem_zip e).1,if_neg d];simp
 | p::P,w::vs,i+1,m,b,a,c,d=>by
   unfold bindC;exact KH (i:=i) (List.nodup_cons.mp b).2 (by grind) (by grind) d
def start(N:AJ)(vs:AM):St:=vs.map some++List.replicate (N.length-vs.length) none
def ck(CX:gU)(P:P7)(w:World)(K:W7)(mg:AD)(base:Heap)(N:AJ)(b:Str)(a:Scope)(f:Addr)(d:Value)(A:Around)(outer:List Env)(s:Shared)(H:Hp)(E:XK):Cx where
 prog:=P
 w:=w
 K:=K
 mg:=mg
 base:=base
 A:=A.deeper (envOfC b a (~~~s) f d)
 N:=N
 s₀:=s
 H₀:=H
 env:=envOfC b a (~~~s) f d
 outer:=outer
 stack:=envOfC b a (~~~s) f d::outer
 ex:=[]
 calm:=true
 fn:=λ_=>true
 pn:=[]
 xe:=λe i=>wpAny (mZ P w) (A.deeper (envOfC b a (~~~s) f d)) (leaving (envOfC b a (~~~s) f d) e) (λ_ c=>CX outer H s E e c) (λh c=>CX outer H s E h c) i
def KI{b:Scope}(h:b.names.lookup x=some .cell):∃c,(cellsFrom n b.names []).lookup x=some c:=Option.isSome_iff_exists.mp (PySem.W.cellsFrom_some _ n [] (.inl h))
theorem Rw{K:W7}(S:dE N Y a)(M:A.handled=none)(l:Env0 P w K J m A j s H)(V:vs.length=Y.length)(r:Vals vs us)(x:InCallC s (~~~s) (bindL (envOfC g a (~~~s) f F).kindOf (Y.zip us) λ_=>none) (cellsFrom (~~~s+1) a.names []) (bindC (envOfC g a (~~~s) f F).kindOf (Y.zip us) λ_=>none) R):
 Inv (ck CX P w K J m N g a f F A j s H E) [] (start N vs) H R:=by
 have O:Y.length<=N.length:=by have:=congrArg List.length S.pre;grind
 obtain⟨C,Z,rfl,G⟩:=x.done;have n:∀b,b∉(ck CX P w K J m N g a f F A j s H E).ex:=λb z=>absurd (show b∈([]) from z) (by simp)
 refine⟨⟨l.mod,S.kind,rfl,rfl,qv _,λy z c C D=>?_,λy o=>?_,λy c _ h=>?_,λ_=>M,Around.frames_deeper l.frames,.inr ⟨rfl,rfl⟩,λb z=>absurd z (n b),l.bs,l.bsz,λb _ _=>n b,λb z=>absurd z (n b),l.funs,l.frf⟩,
  rfl,l.bare,Un.kept G,⟨_,x.toInCall.ns,λi y v C D T=>?_⟩,λy c h=>⟨_,x.cell y c h⟩,l.hok.fresh (qv _),λy c h=>?_,λp t=>absurd (show p∈([]) from t) (by simp),l.hok.kept G,?_⟩
 .exact name_of_addr x.apart (PySem.mem_of_lookup C) (PySem.mem_of_lookup D)
 .rcases o with o|o
  .exact KI o
  .exact absurd rfl (S.nofree _ (PySem.mem_of_lookup o))
 .exact Nat.le_of_lt (x.above y c (PySem.mem_of_lookup h))
 .have U:i<vs.length:=by
   unfold start at D;grind
  have Q:vs[i]?=some v:=by
   unfold start at D;grind
  obtain⟨u,I,L⟩:=r.get Q
  have t:Y[i]?=some y:=by
   rw[<-S.pre,List.getElem?_take_of_lt (by lia)];exact C
  have B:Y.Nodup:=by rw[<-S.pre];exact S.nd.sublist (List.take_sublist _ _)
  refine⟨u,L,?_⟩;rcases S.par y (List.mem_of_getElem? t)with k|k
  .exact .inl ⟨k,KG B t I k⟩
  .obtain⟨c,e⟩:=KI k
   refine .inr ⟨.inl k,c,e,?_⟩;have q:=x.cell y c e;rw[KH B t I (by show a.names.lookup y≠_;grind)]at q;exact q
 .exact l.hok.fresh (Nat.le_of_lt (x.above y c (PySem.mem_of_lookup h)))
 .unfold start
  show _=N.length;grind
theorem nq{K:W7}{T kV y R h I Y:Value}(X:K.lookup f=some ⟨Y,od,.func (W.fnOf name g i j c T kV y R Z h I),osl⟩)(G:W.codeIn K h g=true)(S:dE N ps c)(B:∀vs H Q E,sp vs H Q E->vs.length=ps.length)(m:∀(A:Around) (a:List Env) (s:Shared) (H:Hp) (vs:AM) (Q:VK) (E:XK),Room k (A.deeper (envOfC g c (~~~s) f h))->sp vs H Q E->
   ∃t,PSs (ck CX P w K L l N g c f h A a s H E) j t/\t { nx:=λ_ H'=>Q .non H',rt:=Q } (start N vs) H):
  FnOk P w K L l CX (k+1) f (W.fnOf name g i j c T kV y R Z h I) ps sp:=by
  refine⟨B,λA a s H M us vs Q E D C hb r z=>?_⟩;have O:=C.mod.kin.keeps λb o e=>(C.bs b o e).1
  refine codeAny_call_function D.depth (O _ _ X) rfl S.co S.gen rfl (W.codeRec_of O G) (hb _ _ _ _ (wpAny_newFunctionEnv_cells S.kind (λ⟨n,v⟩ U=>by
   rcases S.par n (List.of_mem_zip U).1 with q|q
   .exact .inl q
   .exact .inr ⟨q,PySem.W.cellsFrom_some _ _ _ (.inl q)⟩) λenv d s1 x=>?_))
  subst d;refine⟨(C.mod.nolimit.keeps λb o e=>(C.bs b o e).1).keeps x.toInCall.keep,codeAny_func ?_⟩;obtain⟨t,ht,hq⟩:=m A a s H vs Q E (D.deeper _) z;refine wz (ht [] s1 _ H _ (Rw S D.hd C (B _ _ _ _ z) r x) hq) (λfl s' hs=>?_) λe s' hs=>hs
  have p:∀{σ':St}{H':Hp}{v:V}{u:_},Inv (ck CX P w K L l N g c f h A a s H E) [] σ' H' s'->_->Q v H'->CE a P w H s Q u s':=
   λ{σ' H' v u} J F q=>⟨v,H',J.os,J.bare,J.base,J.hok,F,q⟩
  cases fl with
  | ret u=>
    obtain⟨v,σ',H',J,F,q⟩:=hs;exact p J F q
  | next=>
    obtain⟨σ',H',J,q⟩:=hs;exact p (v:=.non) J rfl q
  | brk=>
    obtain⟨_,_,_,q⟩:=hs;grind
  | cont=>
    obtain⟨_,_,_,q⟩:=hs;grind
section
variable {X:Cx}{x:Str}{p pos:Pos}{e:Expr}{es:AK}{t:TA}{id T:String}{r:AM->Hp->VK->Prop}
def tG(r:AM->Hp->VK->Prop)(t:TA):TE:=λb H Q=>t b H λc a=>r c a Q
theorem nt(i:dz X (.builtin id) r)(j:Gl X x)(v:X.mg x=none)(m:bootBuiltins x=some (.builtin id))(n:PA X (e::es) t)(l:x≠"__name__":=by decide)(b:cv x:=by decide)(g:starEach (e::es) X.env=(false,eval e X.env)::starEach es X.env:=by rfl)(d:(backTo pos (starEach es X.env)).any (·.1)=false:=by rfl):PE X (.Call (.Name x p) (e::es) [] pos) (tG r t):=by
 intro y s w H Q I h;refine wpAny_Call_Name_kw (iP I j v m (PyProof.Rows.callWith_builtin1 (az (n pos _ s w H _ I h) λA k c=>?_) g d) l b);obtain⟨z,f,q,o,u⟩:=c;exact i _ k w f z A Q q o u
theorem iQ(i:dz X (.type T) r)(j:Gl X x)(v:X.mg x=none)(m:bootBuiltins x=some (.type T))(n:PA X (e::es) t)(l:x≠"__name__":=by decide)(b:cv x:=by decide)(g:starEach (e::es) X.env=(false,eval e X.env)::starEach es X.env:=by rfl)(d:(backTo pos (starEach es X.env)).any (·.1)=false:=by rfl):PE X (.Call (.Name x p) (e::es) [] pos) (tG r t):=by
 intro y s w H Q I h;refine wpAny_Call_Name_kw (iP I j v m (PyProof.Rows.callWith_type1 (az (n pos _ s w H _ I h) λA k c=>?_) g d) l b);obtain⟨z,f,q,o,u⟩:=c;exact i _ k w f z A Q q o u
end
section
variable {κ:Type} [DecidableEq κ]
def bw(a:List (κ×V))(k:κ):Option V:=(a.find? λb=>decide (b.1=k)).map (·.2)
def bh(a:List (κ×V))(k:κ)(v:V):List (κ×V):=
 if (a.any λb=>decide (b.1=k))=true then a.map (λb=>if b.1=k then (b.1,v)else b)else a++[(k,v)]
def gW{k:κ}(e:p.1=k):bw (p::r) k=some p.2:=by simp[bw,e]
def gX{k:κ}(e:¬p.1=k):bw (p::r) k=bw r k:=by simp[bw,e]
theorem zJ(k:κ):∀a:List (κ×V),(a.any λb=>decide (b.1=k))=(bw a k).isSome
 | []=>rfl
 | p::r=>by
   rw[List.any_cons];by_cases e:p.1=k
   .simp [gW e,wm e,Bool.true_or]
   .rw[gX e,wn e];exact zJ k r
theorem KJ(k j:κ)(y:V):∀a:List (κ×V),bw a k=none->bw (a++[(k,y)]) j=if j=k then some y else bw a j
 | [],_=>by
   by_cases e:k=j
   .rw[if_pos e.symm];exact gW e
   .rw[if_neg (λz=>e z.symm)];exact gX e
 | p::r,b=>by
   rw[List.cons_append]
   have c:¬_:=λz=>by rw[gW z]at b;cases b
   rw[gX c]at b;by_cases e:p.1=j
   .rw[gW e,gW e,if_neg (λz=>c (e.trans z))]
   .rw[gX e,gX e,KJ k j y r b]
theorem tH(a:List (κ×V))(k:κ)(v:V):(bh a k v).length<=a.length+1:=by
 unfold bh;grind
def Rx{a:List (κ×V)}{k:κ}(v:V)(h:bw a k=none):bh a k v=a++[(k,v)]:=by
 unfold bh;rw[zJ,h];exact if_neg (by decide)
def RelO.isSome_eq(r:RelO o u):o.isSome=u.isSome:=by
 cases o with
 | none=>cases u with
   | none=>rfl
   | some _=>exact(r).elim
 | some _=>cases u with
   | none=>exact(r).elim
   | some _=>rfl
def RelO.getD(r:RelO o u)(a:RelV d b):RelV (o.getD d) (u.getD b):=by
 cases o with
 | none=>cases u with
   | none=>exact a
   | some _=>exact(r).elim
 | some _=>cases u with
   | none=>exact(r).elim
   | some _=>exact r
theorem KV.val(r:KV a vs)(k:κ):RelO (bw a k) (valueAt vs k):=by
 induction r with
 | nil=>exact .intro
 | @cons p q j c h t i=>
   obtain⟨f,g⟩:=h;by_cases e:p.1=k
   .have d:=f.symm.trans e
    have b:valueAt (q::c) k=some q.2:=by simp[valueAt,d]
    rwa [gW e,b]
   .have d:¬_:=λz=>e (f.trans z)
    have b:valueAt (q::c) k=valueAt c k:=by simp[valueAt,d]
    rwa [gX e,b]
theorem KV.any(r:KV b vs)(k:κ):(b.any λa=>decide (a.1=k))=vs.any λa=>decide (a.1=k):=by
 induction r with
 | nil=>rfl
 | cons h t c=>grind
theorem KV.repl(r:KV b vs)(k:κ)(d:RelV y u):
 KV (b.map λa=>if a.1=k then (a.1,y)else a) (vs.map λa=>if a.1=k then (a.1,u)else a):=by
 induction r with
 | nil=>exact .nil
 | @cons p q f e h t c=>
   refine .cons ?_ c;grind
def KV.put(r:KV a vs)(k:κ)(b:RelV y u):KV (bh a k y) (stored vs k u):=by
 unfold bh stored;rw[r.any k];by_cases e:(vs.any λc=>decide (c.1=k))=true
 .rw[if_pos e,if_pos e];exact r.repl k b
 .rw[if_neg e,if_neg e];exact .snoc r ⟨rfl,b⟩
def KV.length{vs:List (κ×Value)}(r:KV a vs):a.length=vs.length:=Paired.length r
end
def iR(r:RelV (kV k) u):(Yt P w).is k u=true:=by
 cases k with
 | inl i=>obtain⟨t,e⟩:=r;subst e;exact QW P w i t
 | inr x=>obtain⟨t,e⟩:=r;subst e;exact QX P w x t
theorem KM:∀{ks:List aZ}{us:AC},Vals (ks.map kV) us->ItemsAre (Yt P w) ks us
 | [],_,r=>by cases r;exact .nil
 | k::ks,_,r=>by
   cases r with
   | cons h t=>exact .cons (iR h) (KM t)
abbrev KT(H:Hp):List (List aZ×V)->List (List aZ×Addr×Value)->Prop:=Paired λp q=>p.1=q.1/\H q.2.1=some (.tup (p.1.map kV))/\RelV p.2 q.2.2
theorem KT.val(r:KT H a xs)(k:List aZ):RelO (bw a k) ((atKey xs k).map (·.2)):=by
 induction r with
 | nil=>exact .intro
 | @cons p q j c h t i=>
   obtain⟨f,_,g⟩:=h;by_cases e:p.1=k
   .have d:=f.symm.trans e
    have b:atKey (q::c) k=some q.2:=by simp[atKey,d]
    rwa [gW e,b]
   .have d:¬_:=λz=>e (f.trans z)
    have b:atKey (q::c) k=atKey c k:=by simp[atKey,d]
    rwa [gX e,b]
theorem KT.repl(r:KT H b xs)(k:List aZ)(d:RelV y u):
 KT H (b.map λa=>if a.1=k then (a.1,y)else a) (xs.map (putAt k u)):=by
 induction r with
 | nil=>exact .nil
 | @cons p q e f h t c=>
   refine .cons ?_ c;unfold putAt;grind
def KT.put(r:KT H a xs)(k:List aZ)(d:H b=some (.tup (k.map kV)))(c:RelV y u):
 KT H (bh a k y) (storedH xs k b u):=by
 have e:(a.any λf=>decide (f.1=k))=(atKey xs k).isSome:=by
  rw[zJ,(r.val k).isSome_eq,Option.isSome_map]
 unfold bh storedH;rw[e];by_cases q:(atKey xs k).isSome=true
 .rw[if_pos q,if_pos q];exact r.repl k c
 .rw[if_neg q,if_neg q];exact .snoc r ⟨rfl,d,c⟩
def KT.keeps(r:KT H a xs)(c:∀b ys,H b=some (.tup ys)->H' b=some (.tup ys)):KT H' a xs:=
 Paired.mapP r λ_ _ z=>⟨z.1,c _ _ z.2.1,z.2.2⟩
section
variable {P:P7}{w:World}{H:Hp}{h:Heap}{a:Addr}
def nu(b:HOk P w H h)(e:Rd H a u):ObjOk P w H h a u:=e.ok b
def iS(c:HOk P w H h)(e:Rd H a (.dK b)):b.length<=sizeLine/\(a==sysModules)=false/\∃vs,KV b vs/\h.DictOf (Yt P w) a vs:=
 nu c e
def tI(c:HOk P w H h)(e:H a=some (.dK b)):b.length<=sizeLine/\(a==sysModules)=false/\∃vs,KV b vs/\h.DictOf (Yt P w) a vs:=iS c (.inl e)
def lD(f:HOk P w H h)(e:H a=some (.tup (ks.map kV))):(tupleKind (Yt P w)).is h ks a:=by
 obtain⟨_,g,r,o,b,d,n,c⟩:=f a _ e;exact⟨o,g.toArray,n,b,d,c,by simpa using KM r⟩
theorem jH(d:HOk P w H h)(e:Rd H a (.dT b)):b.length<=sizeLine/\(a==sysModules)=false/\
 ∃xs,KT H b xs/\h.DictOfH (tupleKind (Yt P w)) a xs:=by
 obtain⟨z,y,xs,r,o,s,i,k,n,u,j,f⟩:=nu d e;refine⟨z,y,xs,r,o,s,i,k,n,u,j,λx c=>?_,f⟩
 have g:∀{l:_}{m:_},KT H l m->∀x∈m,(tupleKind (Yt P w)).is h x.1 x.2.1:=by
  intro l m q
  induction q with
  | nil=>grind
  | @cons p q C B A t v=>
    intro x c;rcases qu c with e|c
    .exact lD d (by grind)
    grind
 grind
def zL(c:HOk P w H h)(e:H a=some (.dT b)):b.length<=sizeLine/\(a==sysModules)=false/\
 ∃xs,KT H b xs/\h.DictOfH (tupleKind (Yt P w)) a xs:=jH c (.inl e)
end
def DGet(H:Hp)(a:Addr)(y:V)(r:Option V):Prop:=
 (∃c k,Rd H a (.dK c)/\y=kV k/\r=bw c k)\/∃c k b,Rd H a (.dT c)/\y=.ref b/\H b=some (.tup (k.map kV))/\r=bw c k
def DPut(H:Hp)(a:Addr)(y v:V)(H':Hp):Prop:=
 (∃c k,H a=some (.dK c)/\y=kV k/\c.length<sizeLine/\H'=upd H a (.dK (bh c k v)))\/
 ∃c k b,H a=some (.dT c)/\y=.ref b/\H b=some (.tup (k.map kV))/\c.length<sizeLine/\H'=upd H a (.dT (bh c k v))
def DGet.k{k:aZ}(e:H a=some (.dK b)):DGet H a (kV k) (bw b k):=.inl ⟨b,k,.inl e,rfl,rfl⟩
def DPut.k{k:aZ}(e:H a=some (.dK b))(c:b.length<sizeLine):DPut H a (kV k) v (upd H a (.dK (bh b k v))):=.inl ⟨b,k,e,rfl,c,rfl⟩
section
variable {X:Cx}{pins:AB}{σ:St}{H:Hp}{s:Shared}{a:Addr}{y v:V}{u r:Value}{o:Option V}{A:Around}{E:AA}
def Inv.big(I:Inv X pins σ H s):sysModules< ~~~s:=Nat.lt_trans (by decide) ((I.mod.glob.keeps I.bk).lt)
def KN(w:A.units+1<cLine)(I:Inv X pins σ H s)(g:DGet H a y (some v))(t:RelV y u)(h:∀f s',Inv X pins σ H s'->RelV v f->Q f s'):
 wpAny (mZ X.prog X.w) A (getItem (.ref a) u) Q E s:=by
 rcases g with⟨n,k,e,j,l⟩|⟨n,k,b,e,j,C,l⟩
 .subst j
  obtain⟨z,x,o,d,i⟩:=iS I.hok e;obtain⟨f,m,c⟩:=RelO.some_of (by rw[l];exact d.val k);exact wpAny_getItem_of (iR t) i.mapOf m (h f _ (I.tok _) c)
 .subst j
  cases (t);obtain⟨z,x,r,d,i⟩:=jH I.hok e;obtain⟨f,m,c⟩:=RelO.some_of (by rw[l];exact d.val k);obtain⟨p,B,q⟩:=qc m;refine wpAny_getItem_heap (tupleKind_room_in1 w) (lD I.hok C) i B ?_;rw[q];exact h f _ (I.tok _) c
def zM(n:A.units+1<cLine)(I:Inv X pins σ H s)(g:DGet H a y o)(m:RelV y u)(h:∀s',Inv X pins σ H s'->Q (.bool o.isSome) s'):
 wpAny (mZ X.prog X.w) A (compareOp .In u (.ref a)) Q E s:=by
 rcases g with⟨i,k,e,j,l⟩|⟨i,k,b,e,j,p,l⟩
 .subst j
  obtain⟨z,d,t,c,f⟩:=iS I.hok e;refine wpAny_in_of (iR m) d f.mapOf ?_;rw[<-(c.val k).isSome_eq,<-l];exact h _ (I.tok _)
 .subst j
  cases (m);obtain⟨z,d,r,c,f⟩:=jH I.hok e;refine wpAny_in_heap (tupleKind_room_in1 n) (lD I.hok p) d f ?_;have q:=(c.val k).isSome_eq;rw[Option.isSome_map]at q;rw[<-q,<-l];exact h _ (I.tok _)
def zN(n:A.units+1<cLine)(I:Inv X pins σ H s)(g:DGet H a y o)(m:RelV y u)(h:∀s',Inv X pins σ H s'->Q (.bool (!o.isSome)) s'):
 wpAny (mZ X.prog X.w) A (compareOp .NotIn u (.ref a)) Q E s:=by
 rcases g with⟨d,k,e,j,l⟩|⟨d,k,b,e,j,p,l⟩
 .subst j
  obtain⟨z,i,r,c,f⟩:=iS I.hok e;refine wpAny_notIn_of (iR m) i f.mapOf ?_;rw[<-(c.val k).isSome_eq,<-l];exact h _ (I.tok _)
 .subst j
  cases (m);obtain⟨z,i,t,c,f⟩:=jH I.hok e;refine wpAny_notIn_heap (tupleKind_room_in1 n) (lD I.hok p) i f ?_;have q:=(c.val k).isSome_eq;rw[Option.isSome_map]at q;rw[<-q,<-l];exact h _ (I.tok _)
def lE(I:Inv X pins σ H s)(e:mM (H a))(hs:Heap.SameBut a s.heap h')(g:∃q,h'.get? a=some q)(c:ObjOk X.prog X.w (upd H a d) h' a d):
 Inv X pins σ (upd H a d) { s with heap:=h',toks:=t' }:=
 I.write e (.inl rfl) (λb q f z=>(hs.2 b f).trans z) g c
def tJ(z:b.length<=sizeLine)(d:(a==sysModules)=false)(c:KV b vs)(e:f.DictOf (Yt P w) a vs):
 ObjOk P w H' f a (.dK b):=⟨z,d,vs,c,e⟩
theorem Ry(M:A.units+1<cLine)(I:Inv X pins σ H s)(g:DPut H a y v H')(x:RelV y u)(B:RelV v r)(h:∀s',Inv X pins σ H' s'->Q () s'):
 wpAny (mZ X.prog X.w) A (setItem (.ref a) u r) Q E s:=by
 rcases g with⟨d,k,e,p,l,n⟩|⟨d,k,b,e,p,D,l,n⟩
 .subst p n
  obtain⟨z,t,F,f,w⟩:=tI I.hok e
  have T:F.length<=sizeLine:=by rw[<-f.length];exact z
  have m:(bh d k v).length<=sizeLine:=by have:=tH d k v;lia
  refine wpAny_setItem_pairs (iR x) w λO i o=>h _ ?_;have L:∃q,_:=let ⟨q,_,_,j,_⟩:=i;⟨q,j⟩;exact lE I (by rw[e];exact .intro) o L (tJ m t (f.put k B) i)
 .subst p n
  cases (x);obtain⟨z,t,N,f,w⟩:=zL I.hok e
  have T:N.length<=sizeLine:=by rw[<-Paired.length f];exact z
  have m:(bh d k v).length<=sizeLine:=by have:=tH d k v;lia
  refine wpAny_setItem_heap (tupleKind_room_in1 M) (lD I.hok D) w λO i o=>h _ ?_;obtain⟨q,R,J,j,S,G,K,_,U⟩:=i;refine lE I (by rw[e];exact .intro) o ⟨q,j⟩ ⟨m,t,_,(f.put k D B).keeps λc V C=>?_,q,R,J,j,S,G,K,U⟩;rw[Yh (yh C e (λz=>nomatch z))];exact C
end
def gY(i:Expr):Prop:=∀a b,subscripted i false a b=operate [a,b] (getItem a b)
def KO{T id:String}(m:typeLookup (.type T) "__getitem__"=pure (some (.builtin id)))(hs:gY a)(h:wpAny (mZ prog w) A (eval c env) (λo e=>wpAny (mZ prog w) A (eval a env) (λi b=>b.TypeIs o T/\wpAny (mZ prog w) A (getItem o i) Q E b) E e) E s):
 wpAny (mZ prog w) A (eval (.Subscript c a l) env) Q E s:=by
 refine Subscript_ (wz h (λo e k=>wz k (λi b d=>?_) λ_ _ x=>x) λ_ _ x=>x);obtain⟨n,d⟩:=d;refine wa (wa (wpAny_specialOf n m ?_))
 have g:wpAny (mZ prog w) A (subscripted a false o i) (λr f=>wpAny (mZ prog w) A (letTemporaryGo c o r>>=λ_=>pure r) Q E f) E b:=by
  rw[hs o i];exact wpAny_operating (wz d (λr f j=>wa (wpAny_letTemporaryGo (wc j))) λ_ _ x=>x)
 first
  | exact wc (wa g)
  | exact wa _
  | exact wa g
def KP{σ:St}(I:Inv X pins σ H s)(g:DGet H a y o):s.TypeIs (.ref a) "dict":=by
 rcases g with⟨c,k,e,_,_⟩|⟨c,k,b,e,_,_,_⟩
 .obtain⟨_,_,f,_,d⟩:=iS I.hok e
  exact d.typeIs
 .obtain⟨_,_,h,_,d⟩:=jH I.hok e
  exact d.typeIs
def zO(f e:TE):TE:=λb H Q=>f b H λx d=>e b d λy c=>∃a v,x=.ref a/\DGet c a y (some v)/\Q v c
section
variable {X:Cx}{o i e value:Expr}{pos pos' tpos:Pos}{td ty tv:TE}
def zP(m:X.A.units+1<cLine)(q:PE X o td)(n:PE X i ty)(hs:gY i):PE X (.Subscript o i pos) (zO td ty):=by
 intro j s e H Q I h;refine KO PySem.F.slot_dict_getitem.lookup hs (az (q _ s e H _ I h) λu p b=>?_);obtain⟨x,r,l,A,t⟩:=b;refine az (n _ p e r _ l t) λE G b=>?_;obtain⟨y,w,f,k,a,v,z,g,B⟩:=b;subst z;obtain rfl:=A;exact⟨KP f g,KN m f g k λD F C c=>⟨v,w,C,c,B⟩⟩
end
def KQ(h:Heap)(a:sysModules<h.objs.size):ObjOk P w H (h.push { cls:=.type "dict",data:=.dict #[] }) h.objs.size (.dK []):=
 ⟨Qh _,beq_eq_false_iff_ne.mpr (.symm (qm a)),[],.nil,.new h⟩
def zQ:TE:=λ_ H Q=>∀p,H p=none->Q (.ref p) (upd H p (.dK []))
section
variable {X:Cx}{pos:Pos}
def Rz:PE X (.Dict [] [] pos) zQ:=λa s b H Q I h=>
 wpAny_Dict_empty ⟨.ref _,_,I.laid (λ_ _ q=>qe _ q) (qv _) (KQ _ I.big),rfl,h _ (I.hok.fresh (qv _))⟩
end
def nv:List (TE×TE)->St->Hp->(List (V×V)->Hp->Prop)->Prop
 | [],_,H,Q=>Q [] H
 | (tk,a)::r,σ,H,Q=>tk σ H λx c=>a σ c λy b=>nv r σ b λps d=>Q ((x,y)::ps) d
abbrev VV:List (V×V)->List (Value×Value)->Prop:=Paired λp q=>RelV p.1 q.1/\RelV p.2 q.2
def lG(X:Cx)(c:Pos)(b:List (Option Expr))(a:AK)(d:List (TE×TE)):Prop:=
 ∀(e:List _) (s:Shared) (f:St) (H:Hp) (Q:List _->Hp->Prop),Inv X e f H s->nv d f H Q->
  wpAny (mZ X.prog X.w) X.A (evalPairs (pairTrees b a X.env c)) (λi j=>∃h g,Inv X e f g j/\VV h i/\Q h g) X.xe s
def KU:lG X pos [] [] []:=λa s b H Q I h=>pairTrees_nil_walk ⟨[],H,I,.nil,h⟩
def KW(j:PE X k tk)(B:PE X v i)(p:lG X pos ks vs c):
 lG X pos (some k::ks) (v::vs) ((tk,i)::c):=λd s a H Q I h=>
 pairTrees_cons_walk (az (j _ s a H _ I h) λu m ⟨x,n,g,A,q⟩=>az (B _ m a n _ g q) λE l ⟨y,C,w,e,z⟩=>
  az (p _ l a C _ w z) λD F ⟨o,r,f,b,t⟩=>⟨(x,y)::o,r,f,.cons ⟨A,e⟩ b,t⟩)
def gZ(c a:List (aZ×V)):List (aZ×V):=a.foldl (λb d=>bh b d.1 d.2) c
theorem KV.merge:∀{b:List (aZ×V)}{c:List (aZ×Value)}{a:List (aZ×V)}{vs:List (aZ×Value)},KV b c->KV a vs->KV (gZ a b) (merged vs c):=by
 intro b c a vs r
 induction r generalizing a vs with
 | nil=>exact λq=>q
 | @cons p q g i h t d=>
   intro f
   have e:KV (bh a p.1 p.2) (stored vs q.1 q.2):=by
    have:=f.put p.1 h.2
    rwa [<-h.1]
   exact d e
theorem KY:∀(b a:List (aZ×V)),(gZ a b).length<=a.length+b.length
 | [],a=>by show a.length<=_;lia
 | p::r,a=>by
   have d:=KY r (bh a p.1 p.2);have c:=tH a p.1 p.2;show(gZ _ r).length<=_;rw[qt];lia
theorem KZ{P:P7}{w:World}:∀{d:List (aZ×V)}{g:List (Value×Value)},VV (d.map λf=>(kV f.1,f.2)) g->∃e,Carries (Yt P w) g e/\KV d e
 | [],_,r=>by cases r;exact⟨[],.intro,.nil⟩
 | p::d,_,r=>by
   cases r with
   | @cons a b j l h t=>
     obtain⟨e,c,q⟩:=KZ t;obtain⟨k,i⟩:=b;exact⟨(p.1,i)::e,⟨iR h.1,rfl,c⟩,.cons ⟨rfl,h.2⟩ q⟩
def zR(b:List (TE×TE)):TE:=λe H Q=>∀p,H p=none->nv b e (upd H p (.dK [])) λf c=>c p=some (.dK [])/\∃a:List _,f=a.map (λd=>(kV d.1,d.2))/\a.length<=15/\Q (.ref p) (upd c p (.dK (gZ [] a)))
theorem zS{X:Cx}{pos:Pos}{a:List (Option Expr)}{b:AK}{i:List (TE×TE)}(h:lG X pos a b i)(f:a.all (·.isSome)=true)(t:a.length=b.length)(h0:a≠[])(l:a.length<=15):PE X (.Dict a b pos) (zR i):=by
 intro m s x H Q I q;refine wpAny_Dict_walk (knd:=Yt _ X.w) f t h0 l (az (h _ _ x _ _ (I.laid (t':=s.toks) (λ_ _ q=>qe _ q) (qv _) (KQ _ I.big)) (q _ (I.hok.fresh (qv _)))) λK J k=>?_);obtain⟨L,G,n,j,e,g,u,F,D⟩:=k;subst u;obtain⟨w,c,E⟩:=KZ j;obtain⟨z,A,B,o,r⟩:=tI n.hok e;cases o;refine⟨w,c,r,λM d y=>⟨.ref _,_,?_,rfl,D⟩⟩
 have p:(gZ [] g).length<=sizeLine:=by
  have C:=KY g [];rw[List.length_nil]at C;rw[jg];lia
 exact lE n (by rw[e];exact .intro) y (let ⟨q,_,_,v,_⟩:=d;⟨q,v⟩) (tJ p A (E.merge .nil) d)
structure M1(X:Cx)(o:Expr)(m:Str)(apos:Pos)(e:Expr)(cpos:Pos):Prop where
 base:attributeBase o m X.env (eval o X.env)=eval o X.env
 few:((backTo cpos (starEach [e] X.env)).all (λx=>!x.1)&&(backToKw cpos (keywordEach [] X.env)).all (λx=>x.1.isSome)
  &&decide (([e]:AK).length+([]:List Keyword).length+(if ([]:List Keyword).isEmpty then 0 else 1)<30))=true
 line:(apos.endLine==cpos.line)=true
 trees:backTo cpos (starEach [e] X.env)=[(false,eval e X.env)]
structure M2(X:Cx)(o:Expr)(m:Str)(apos:Pos)(e f:Expr)(cpos:Pos):Prop where
 base:attributeBase o m X.env (eval o X.env)=eval o X.env
 few:((backTo cpos (starEach [e,f] X.env)).all (λx=>!x.1)&&(backToKw cpos (keywordEach [] X.env)).all (λx=>x.1.isSome)
  &&decide (([e,f]:AK).length+([]:List Keyword).length+(if ([]:List Keyword).isEmpty then 0 else 1)<30))=true
 line:(apos.endLine==cpos.line)=true
 trees:backTo cpos (starEach [e,f] X.env)=[(false,eval e X.env),(false,eval f X.env)]
def K0(H:Hp)(a:Addr):Prop:=(∃b,Rd H a (.dK b))\/∃b,Rd H a (.dT b)
def zT{σ:St}(I:Inv X pins σ H s)(d:K0 H a):
 s.TypeIs (.ref a) "dict"/\(∀b,Value.ref a=.ref b->∃c,s.heap.get? b=some c/\c.dict=none)/\(a==sysModules)=false:=by
 rcases d with⟨i,e⟩|⟨i,e⟩
 .obtain⟨_,g,k,_,f⟩:=iS I.hok e
  refine⟨f.typeIs,λb q=>?_,g⟩;cases q;obtain⟨c,_,_,h,j,_⟩:=f;exact⟨c,h,j.2.1⟩
 .obtain⟨_,g,l,_,f⟩:=jH I.hok e
  refine⟨f.typeIs,λb q=>?_,g⟩;cases q;obtain⟨c,_,_,h,j,_⟩:=f;exact⟨c,h,j.2.1⟩
section
variable {X:Cx}{pins:AB}{σ:St}{H:Hp}{s:Shared}{a:Addr}{y d:V}{u r:Value}{o:Option V}{A:Around}{E:AA}
def zU(w:A.units+1<cLine)(I:Inv X pins σ H s)(g:DGet H a y o)(q:RelV y u)(p:RelV d r)(h:∀t s',Inv X pins σ H s'->RelV (o.getD d) t->Q t s'):
 wpAny (mZ X.prog X.w) A (call (.builtin "dict.get") [.ref a,u,r]) Q E s:=by
 rcases g with⟨n,k,e,m,l⟩|⟨n,k,b,e,m,v,l⟩
 .subst m
  obtain⟨z,j,B,f,i⟩:=iS I.hok e;refine call_meetsIn PySem.F.slot_dict_get i.typeIs PySem.F.entry_dict_get (PySem.F.args_dict_get_3 _ _ _) (meets_dict_get_default _ a (iR q) j r) ⟨_,i.mapOf,h _ _ (I.tok _) ?_⟩;rw[l];exact(f.val k).getD p
 .subst m
  cases (q);obtain⟨z,j,x,f,i⟩:=jH I.hok e;refine call_meetsIn PySem.F.slot_dict_get i.typeIs PySem.F.entry_dict_get (PySem.F.args_dict_get_3 _ _ _) (meetsH_dict_get_default _ a b j r) ⟨tupleKind_room_in1 w,k,x,lD I.hok v,i,h _ _ (I.tok _) ?_⟩;rw[l];exact(f.val k).getD p
end
def zV(f e d:TE):TE:=λh H Q=>f h H λx c=>∃a,x=.ref a/\K0 c a/\e h c λy g=>d h g λz b=>∃o,DGet b a y o/\Q (o.getD z) b
section
variable {X:Cx}{o e f:Expr}{apos cpos:Pos}{td ty tx:TE}
def RA(w:X.A.units+1<cLine)(A:PE X o td)(r:PE X e ty)(G:PE X f tx)(m:M2 X o "get" apos e f cpos):PE X (.Call (.Attribute o "get" apos) [e,f] [] cpos) (zV td ty tx):=by
 intro Z s Y H Q I h;refine wpAny_Call_method m.base m.few m.line PySem.F.plainAttrs_dict PySem.F.slot_dict_get PySem.F.type_dict_get (az (A _ s Y H _ I h) λu v c=>?_);obtain⟨x,B,k,L,a,q,d,C⟩:=c;subst q;obtain rfl:=L;obtain⟨K,D,_⟩:=zT k d;refine⟨K,D,?_⟩;rw[m.trees];refine Calls.callWith_builtin rfl (Calls.evalArgs_plain (Calls.spliced_cons (az (r _ v Y B _ k C) λP t c=>?_)));obtain⟨y,J,n,l,N⟩:=c;refine Calls.spliced_cons (az (G _ t Y J _ n N) λV S c=>?_);obtain⟨z,E,p,O,U,g,F⟩:=c;exact Calls.spliced_nil (zU w p g l O λR T M j=>⟨_,E,M,j,F⟩)
end
end L2
namespace HT
open PySem PyProof.Rows
section
variable {prog:P7}{w:World}{A:Around}{E:AA}{s:Shared}
theorem cat_tup(r:IsTup s.heap t vs.toArray)(u:IsTup s.heap b d.toArray)(y:vs≠[])(v:d=[]->Q (.ref t) s)(x:d≠[]->Q (.ref (~~~s)) { s with heap:=s.heap.push { cls:=.type "tuple",data:=.seq (vs++d).toArray } })(hsz:vs.length+d.length<=sizeLine):wpAny (mZ prog w) A (binaryOp .Add (.ref t) (.ref b)) Q E s:=by
 obtain⟨⟨cls,m,data,l⟩,i,o,n,k⟩:=id r;obtain⟨⟨p,g,data2,h⟩,c,f,q,e⟩:=id u;simp at o k f e;subst o k f e;by_cases j:d=[]
 .exact concat_meets ⟨_,i,rfl⟩ ⟨_,c,rfl⟩ noFill_tuple_add seq_tuple_add PySem.F.slot_tuple_add PySem.F.entry_tuple_add (PySem.F.args_tuple_add_2 _ _)
   (tuple_addW1 t b _ _ n q m g l h (by grind) (by simp[j])) ⟨i,c,v j⟩
 .refine concat_meets ⟨_,i,rfl⟩ ⟨_,c,rfl⟩ noFill_tuple_add seq_tuple_add PySem.F.slot_tuple_add PySem.F.entry_tuple_add (PySem.F.args_tuple_add_2 _ _)
   (tuple_addW2 t b _ _ n q m g l h (by grind) (by grind) (by grind)) ⟨i,c,?_⟩
  grind
def sIx(n d:Nat):Option Int->Nat
 | none=>d
 | some v=>if v<0 then (v+n).toNat else min v.toNat n
def sIx_none(n d:Nat):sIx n d none=d:=rfl
theorem sIx_nat(n d k:Nat):sIx n d (some (k:Int))=min k n:=by
 show(if k<0 then (k+(n:Int)).toNat else _)=_;grind
theorem zW(n d:Nat)(a:d<=n)(o:Option Int):sIx n d o<=n:=by
 cases o with
 | none=>exact a
 | some v=>
   show(if v<0 then _ else _)<=n;grind
theorem K1(v:Int)(n d:Nat):(if v<0 then max (v+(n:Int)) 0 else min v (n:Int))=((sIx n d (some v):Nat):Int):=by
 show(if v<0 then _ else min v _)=(((if v<0 then (v+n).toNat else min v.toNat n)));grind
def RB(lo a:Option Int)(n:Nat):Builtin.Slice.sliceAdjust lo a 1 (n:Int)=(((sIx n 0 lo:Nat):Int),((sIx n n a:Nat):Int)):=by
 refine Prod.ext ?_ ?_
 .cases lo with
  | none=>rfl
  | some v=>exact K1 v n 0
 .cases a with
  | none=>rfl
  | some v=>exact K1 v n n
theorem RC(i j:Nat):Builtin.Slice.slicePlaces (i:Int) (j:Int) 1=j-i:=by
 unfold Builtin.Slice.slicePlaces;grind
def K3(p:IsPart v o)(h:Q o s):wpAny (mZ prog w) A (Builtin.Slice.slicePartIndex v) Q E s:=by
 cases p with
 | none=>exact slicePart_none h
 | int i t=>exact slicePart_int h
def sliceApplied_gen{lo c:Option Int}{Q:Int×Int×Nat->Shared->Prop}(hs:s.heap.IsSliceOf g e d .none)(f:IsPart e lo)(j:IsPart d c)(h:Q (((sIx n 0 lo:Nat):Int),1,sIx n n c-sIx n 0 lo) s):wpAny (mZ prog w) A (Builtin.Slice.sliceApplied (.ref g) (pure (n:Int))) Q E s:=by
 obtain⟨os,a,i,b⟩:=id hs;refine wa (wa (wpAny_field a b (x:=e) rfl (wa (wpAny_field a b (x:=d) rfl (wa (wpAny_field a b (x:=.none) rfl (wc (wa (slicePart_none (wa (K3 f (wa (K3 j (wa (wc ?_)))))))))))))));show wpAny _ _ (match Builtin.Slice.sliceAdjust lo c 1 _ with|(lo,c)=>pure (lo,_,Builtin.Slice.slicePlaces lo c 1)) _ _ s;rw[RB lo c n];show wpAny _ _ (pure _) _ _ s;rw[RC];exact wc h
theorem RE(xs:Array Value)(i k:Nat):((List.range k).filterMap fun(m:Nat)=>xs[((i:Int)+(m:Int)*1).toNat]?).toArray=((xs.toList.drop i).take k).toArray:=by
 have e:(fun(m:Nat)=>xs[(i+(m:Int)*1).toNat]?)=λm=>xs[i+m]?:=by
  grind
 have:=pick_run xs i k;have a:(_ ∘ _)=λm=>xs[i+m]?:=rfl;grind
theorem getItem_tuple_cut{lo d:Option Int}(e:IsTup s.heap t a)(hs:s.heap.IsSliceOf k o n .none)(m:IsPart o lo)(l:IsPart n d)(q:¬(sIx a.size 0 lo=0/\sIx a.size a.size d=a.size))(h:Q (.ref (~~~s)) { s with heap:=s.heap.push { cls:=.type "tuple",data:=.seq ((a.toList.drop (sIx a.size 0 lo)).take (sIx a.size a.size d-sIx a.size 0 lo)).toArray } })(hsz:a.size<=sizeLine):wpAny (mZ prog w) A (getItem (.ref t) (.ref k)) Q E s:=by
 have c:=by
  show((a.toList.drop (sIx a.size 0 lo)).take (sIx a.size a.size d-sIx a.size 0 lo)).toArray.size<=sizeLine;grind
 obtain⟨os,f,i,p⟩:=id hs
 have g:s.TypeIs (.ref k) _:=⟨os,f,i⟩
 unfold getItem
 try with_reducible refine wd ?_
 refine wa (wpAny_sequenceKey e.typeIs (by decide) ?_)
 refine wa (wpAny_callSpecial?_slot e.typeIs PyProof.Rows.slot_tuple_getitem
  (we PyProof.Rows.slot_tuple_getitem e.typeIs entry_tuple_getitem ?_ (args_tuple_getitem _ _)))
 show wpAny _ _ (Builtin.Tuple.tupleItemsOf _>>=_) _ _ s;refine wa (tupleItemsOf_ e ?_);refine wa (wpAny_typeOf g ?_);refine wa (sliceApplied_gen hs m l ?_)
 have j:¬((((sIx a.size 0 lo):Int)==0&&(1:Int)==1&&(sIx a.size a.size d-sIx a.size 0 lo)==a.size)=true):=by
  grind
 show wpAny _ _ (if _ then _ else _) _ _ s;rw[if_neg j,RE]
 first
  | exact wa (wg (wc ⟨_,rfl,wc h⟩) c)
  | exact wa _
  | exact wa _
  | exact wa _
end
end HT
namespace L2
open PySem PySem.Spec PyProof.Rows
abbrev TO:=St->Hp->(Option Int->Hp->Prop)->Prop
def PO(X:Cx)(e:Option Expr)(t:TO):Prop:=
 ∀(a:List _) (s:Shared) (b:St) (H:Hp) (Q:Option Int->Hp->Prop),Inv X a b H s->t b H Q->
  wpAny (mZ X.prog X.w) X.A (evalPart e X.env) (λu d=>∃o c,Inv X a b c d/\IsPart u o/\Q o c) X.xe s
def K4:TO:=λ_ H Q=>Q none H
def ny(t:TE):TO:=λb H Q=>t b H λx a=>∃i,x=.int i/\Q (some i) a
theorem tL:∀{us:AC},Vals (ns.map V.int) us->IntsAre us ns:=by
 induction ns with
 | nil=>intro us r;cases r;exact .nil
 | cons n ns b=>
   intro us r
   cases r with
   | cons a c=>
     obtain⟨t,e⟩:=a;subst e;exact .cons n t (b c)
section
variable {X:Cx}{e:Expr}{te:TE}{lo hi:Option Expr}{tl th:TO}{pos p2:Pos}
def zX:PO X none K4:=by
 intro a s b H Q I h;exact wc ⟨none,H,I,.none,h⟩
def zY(h:PE X e te):PO X (some e) (ny te):=by
 intro k s l H Q I f;refine az (h _ s l H _ I f) λu j a=>?_;obtain⟨x,g,c,b,d⟩:=a;obtain⟨i,rfl,q⟩:=d;obtain⟨t,rfl⟩:=b;exact⟨some i,g,c,.int i t,q⟩
def SlR(X:Cx)(r:V->Option Int->Option Int->Hp->VK->Prop):Prop:=
 ∀(d:List _) (s:Shared) (f:St) (H:Hp) (x:V) (v b a:Value) (lo e:Option Int) (c:Addr) (Q:VK),Inv X d f H s->RelV x v->s.heap.IsSliceOf c b a .none->IsPart b lo->IsPart a e->r x lo e H Q->
  ∃T id,typeLookup (.type T) "__getitem__"=pure (some (.builtin id))/\s.TypeIs v T/\wpAny (mZ X.prog X.w) X.A (getItem v (.ref c)) (EP X d f Q) X.xe s
def SlR.or(h:SlR X r)(h':SlR X k):SlR X (λx lo hi H Q=>r x lo hi H Q\/k x lo hi H Q):=by
 intro f s g H x v d b lo hi c Q I i e j a q;rcases q with q|q
 .exact h _ s g H x v d b lo hi c Q I i e j a q
 .exact h' _ s g H x v d b lo hi c Q I i e j a q
def RF(r:V->Option Int->Option Int->Hp->VK->Prop)(te:TE)(tl th:TO):TE:=λd H Q=>te d H λx c=>tl d c λl b=>th d b λu a=>r x l u a Q
def K5(z:SlR X r)(E:PE X e te)(p:PO X lo tl)(F:PO X hi th):PE X (.Subscript e (.Slice lo hi none p2) pos) (RF r te tl th):=by
 intro g s c H Q I h;refine Subscript_ (az (E _ s c H _ I h) λv D a=>?_);obtain⟨x,y,m,K,A⟩:=a;refine wpAny_Slice (az (p _ D c y _ m A) λf o a=>?_);obtain⟨l,M,B,n,L⟩:=a;refine az (F _ o c M _ B L) λi d a=>?_;obtain⟨u,j,N,k,C⟩:=a;refine wc ?_;have t:Inv X _ c j { d with heap:=d.heap.push { cls:=.type "slice",data:=.fields #[f,i,.none] } }:=N.kept λb O q=>qe _ q;obtain⟨T,id,w,G,J⟩:=z _ _ c j x v f i l u d.heap.objs.size Q t K (.new ..) n k C;exact tail_any G w J (by with_unfolding_all rfl)
def ej(xs:AM)(lo hi:Option Int):AM:=(xs.drop (HT.sIx xs.length 0 lo)).take (HT.sIx xs.length xs.length hi-HT.sIx xs.length 0 lo)
theorem K6(xs:AM)(lo hi:Option Int):(ej xs lo hi).length<=xs.length:=by
 unfold ej;grind
def zZ(K:W7):V->Option Int->Option Int->Hp->VK->Prop:=λx lo d H Q=>∃a b,x=.ref a/\SqT K H a b/\
 ¬(HT.sIx b.length 0 lo=0/\HT.sIx b.length b.length d=b.length)/\∀p,H p=none->Q (.ref p) (upd H p (.tup (ej b lo d)))
theorem z0:SlR X (zZ X.K):=by
 intro g s w H x v y A lo n z Q I m j k i h;obtain⟨a,l,rfl,p,t,q⟩:=h;cases m;obtain⟨e,r,f,o⟩:=I.tuple p;have c:e.toArray.size=_:=r.length.symm;refine⟨"tuple",_,PyProof.Rows.slot_tuple_getitem.lookup,f.typeIs,HT.getItem_tuple_cut f j k i (by grind) ?_ (by grind)⟩;rw[c];refine⟨.ref _,_,I.laid (λb u q=>qe _ q) (qv _) ?_,rfl,q _ (I.hok.fresh (qv _))⟩;exact⟨Qg (K6 l lo n) o,_,(r.drop _).take _,.new _ _⟩
def z1(K:W7):R2:=λx y H Q=>∃a b d c,x=.ref a/\y=.ref b/\SqT K H a d/\SqT K H b c/\d≠[]/\d.length+c.length<=sizeLine/\
 (c=[]->Q (.ref a) H)/\(c≠[]->∀p,H p=none->Q (.ref p) (upd H p (.tup (d++c))))
def Vals.nil_iff(r:Vals xs us):us=[]↔xs=[]:=by
 cases r with
 | nil=>simp
 | cons _ _=>simp
theorem z3:bp X (binaryOp .Add) (z1 X.K):=by
 intro f s A H x y v u Q I n l h;obtain⟨a,b,C,B,rfl,rfl,m,o,i,t,j,p⟩:=h;cases n;cases l;obtain⟨g,d,r,_⟩:=I.tuple m;obtain⟨e,c,k,_⟩:=I.tuple o;refine HT.cat_tup r k (λz=>i (d.nil_iff.mp z)) (λz=>⟨.ref a,H,I,rfl,j (c.nil_iff.mp z)⟩) (λz=>⟨.ref _,_,I.laid (λb E q=>qe _ q) (qv _) ?_,rfl,p (λw=>z (c.nil_iff.mpr w)) _ (I.hok.fresh (qv _))⟩) (by rwa [<-d.length,<-c.length]);exact⟨by grind,_,d.append c,.new _ _⟩
end
def iT(n:Nat)(i:Int):AL:=if 0<=i then (if i<n then some i.toNat else none)else if -n<=i then some (i+n).toNat else none
def bE{a:Type}(xs:List a)(i:Int):Option a:=(iT xs.length i).bind λj=>xs[j]?
theorem z4(h:iT n i=some j):seqIndex? i n=some j/\j<n/\-(n:Int)<=i/\i<n:=by
 unfold iT at h;by_cases b:0<=i
 .rw[if_pos b]at h
  by_cases a:i<n
  .rw[if_pos a]at h
   have e:=w4 h;exact⟨by rw[seqIndex_of b a,e],by lia,by lia,a⟩
  grind
 .rw[if_neg b]at h
  by_cases a:-n<=i
  .rw[if_pos a]at h
   have e:=w4 h;exact⟨by rw[seqIndex_neg (by lia) a,e],by lia,a,by lia⟩
  grind
theorem z_(h:bE xs i=some v):∃j,seqIndex? i xs.length=some j/\xs[j]?=some v/\j<xs.length/\-(xs.length:Int)<=i/\i<xs.length:=by
 unfold bE at h
 cases e:iT xs.length i with
 | none=>grind
 | some j=>
   obtain⟨a,d,c,b⟩:=z4 e;grind
theorem lH{j:Nat}(h:xs[j]?=some v):bE xs (j:Int)=some v:=by
 have e:iT xs.length j=some j:=by
  unfold iT;grind
 unfold bE;grind
def jI(b:Expr):Prop:=∀o i,subscripted b false o i=operate [o,i] (getItem o i)
def IxR(X:Cx)(r:R2):Prop:=
 ∀(b a:Expr) (c:List _) (s:Shared) (d:St) (H:Hp) (x y:V) (v u:Value) (Q:VK),Inv X c d H s->RelV x v->RelV y u->r x y H Q->
  subscripted a false v u=operate [v,u] (getItem v u)->wpAny (mZ X.prog X.w) X.A (subscriptTail b a v u) (EP X c d Q) X.xe s
def RG(X:Cx)(id:String)(r:V->AM->Hp->VK->Prop):Prop:=
 ∀(a:List _) (s:Shared) (b:St) (H:Hp) (x:V) (c:AM) (v:Value) (d:List _) (Q:VK),Inv X a b H s->RelV x v->Vals c d->r x c H Q->
  wpAny (mZ X.prog X.w) X.A (call (.builtin id) (v::d)) (EP X a b Q) X.xe s
section
variable {X:Cx}{a b:Expr}{ta tb:TE}{pos:Pos}
def IxR.or(h:IxR X r)(j:IxR X g):IxR X (λx y H Q=>r x y H Q\/g x y H Q):=by
 intro c d i s a H x y v u Q I f e q b;rcases q with q|q
 .exact h c d _ s a H x y v u Q I f e q b
 .exact j c d _ s a H x y v u Q I f e q b
def Aa(f:IxR X r)(c:PE X a ta)(l:PE X b tb)(hs:jI b):PE X (.Subscript a b pos) (jD r ta tb):=by
 intro k s m H Q I h;exact Subscript_ (jE c l I h λv u g x y e i d j q=>f a b _ g m e x y v u Q i d j q (hs _ _))
def nz(K:W7):R2:=λx y H Q=>∃p b i v,x=.ref p/\y=.int i/\SqL K H p b/\bE b i=some v/\Q v H
def nA(K:W7):R2:=λx y H Q=>∃p b i v,x=.ref p/\y=.int i/\SqT K H p b/\bE b i=some v/\Q v H
def nB:R2:=λx y H Q=>∃z i c,x=.str z/\y=.int i/\z.length<=sizeLine/\bE z.cps.toList i=some c/\Q (.str ⟨#[c]⟩) H
theorem ix_list:IxR X (nz X.K):=by
 intro e f K s N H x y v u Q I B k h M;obtain⟨p,O,i,z,rfl,rfl,l,m,q⟩:=h;cases B;obtain⟨t,rfl⟩:=k;obtain⟨a,r,b,J⟩:=I.list l;obtain⟨j,g,n,E,o,C⟩:=z_ m;obtain⟨w,F,d⟩:=r.get n;have G:=r.length;have D:=nc
 have c:EP X _ N Q w s:=⟨z,H,I,d,q⟩
 by_cases L:0<=i
 .have A:i.toNat=j:=by
   rw[seqIndex_of L C]at g;grind
  exact item_listR b.isList L (by lia) (by grind) c M
 .have A:(i+a.toArray.size).toNat=j:=by
   rw[seqIndex_neg (by lia) o]at g;grind
  exact subscriptTail_builtinR b.isList.typeIs slot_list_getitem.lookup
   (wpAny_getItem_list_neg b.isList (by lia) (by grind) (by lia) (by grind) ⟨rfl,c⟩) M
theorem ix_tup:IxR X (nA X.K):=by
 intro d c a s L H x y v u Q I k f h J;obtain⟨p,K,i,z,rfl,rfl,l,g,q⟩:=h;cases k;obtain⟨t,rfl⟩:=f;obtain⟨G,r,b,C⟩:=I.tuple l;obtain⟨j,D,m,n,B,F⟩:=z_ g;obtain⟨w,A,e⟩:=r.get m;have E:=r.length;have o:=nc
 exact subscriptTail_builtinR b.typeIs slot_tuple_getitem.lookup
  (getItem_tuple (j:=j) b (by lia) (by lia) (by grind) (by grind) ⟨rfl,⟨z,H,I,e,q⟩⟩) J
theorem Ab:IxR X nB:=by
 intro e d a s C H x y v u Q I g f h b;obtain⟨z,i,c,rfl,rfl,n,k,q⟩:=h;obtain⟨t,rfl⟩:=g;obtain⟨B,rfl⟩:=f;obtain⟨j,r,p,l,o,A⟩:=z_ k
 have w:z.cps.toList.length=z.length:=by simp[Str.length]
 have m:=nc
 exact tail_any (typeIs_str s z t) slot_str_getitem.lookup (getItem_str (by
  grind) (by grind) ⟨.str _,H,I.tok _,⟨_,rfl⟩,q⟩) b
def K7(K:W7):R2:=λx y H Q=>nz K x y H Q\/nA K x y H Q\/nB x y H Q
def Ac:IxR X (K7 X.K):=ix_list.or (ix_tup.or Ab)
theorem RH(lo d:Option Int)(n:Nat):(sliceBounds lo d none n).1=((HT.sIx n 0 lo:Nat):Int)/\(sliceBounds lo d none n).2.1=((HT.sIx n n d:Nat):Int)/\(sliceBounds lo d none n).2.2=1:=by
 refine⟨?_,?_,rfl⟩
 .cases lo with
  | none=>simp[sliceBounds,HT.sIx]
  | some i=>
    simp only[sliceBounds,HT.sIx];grind
 .cases d with
  | none=>simp[sliceBounds,HT.sIx]
  | some i=>
    simp only[sliceBounds,HT.sIx];grind
def RI(its:AC)(lo c:Option Int):slicePick its.toArray lo c none=((its.drop (HT.sIx its.length 0 lo)).take (HT.sIx its.length its.length c-HT.sIx its.length 0 lo)).toArray:=by
 obtain⟨f,g,e⟩:=RH lo c _;unfold slicePick;rw[f,g,e];simp only[sliceRange_one,pick_run]<;>rfl
def Ad(K:W7):V->Option Int->Option Int->Hp->VK->Prop:=λx lo d H Q=>∃a c,x=.ref a/\SqL K H a c/\∀p,H p=none->Q (.ref p) (upd H p (.lst (ej c lo d)))
theorem K8:SlR X (Ad X.K):=by
 intro f s y H x v n o lo e m Q I i w t g h;obtain⟨a,p,rfl,j,q⟩:=h;cases i;obtain⟨u,r,d,k⟩:=I.list j;have c:=r.length;refine⟨"list",_,slot_list_getitem.lookup,d.isList.typeIs,wpAny_getItem_list_slice d.isList w t g .none (by simp) ?_ (by grind)⟩;rw[RI,<-c];refine⟨.ref _,_,I.laid (λb l q=>qe _ q) (qv _) ?_,rfl,q _ (I.hok.fresh (qv _))⟩;exact⟨Qg (K6 p lo e) k,_,0,(r.drop _).take _,qp _ rfl⟩
theorem tM:dz X (.builtin "len") (λxs H Q=>∃p ys,xs=[.ref p]/\(SqL X.K H p ys\/SqT X.K H p ys)/\Q (.int ys.length) H):=by
 intro k s m H xs l Q I r h;obtain⟨p,ys,rfl,c,q⟩:=h;obtain⟨u,rfl,g⟩:=ee r;cases g;have j:=nc;rcases c with c|c
 .obtain⟨f,e,b,i⟩:=I.list c
  have d:=e.length;exact Calls.call_len_list b.isList (by grind) ⟨.int _,H,I.tok _,⟨s.toks+1,by grind⟩,q⟩
 .obtain⟨f,e,b,i⟩:=I.tuple c
  have d:=e.length;exact len_tuple b (by grind) ⟨.int _,H,I.tok _,⟨s.toks+1,by grind⟩,q⟩
theorem RJ:dz X (.type "list") (λxs H Q=>∃p ys,xs=[.ref p]/\(SqL X.K H p ys\/SqT X.K H p ys)/\∀l,H l=none->Q (.ref l) (upd H l (.lst ys))):=by
 intro y s z H xs A Q I r h;obtain⟨p,ys,rfl,f,q⟩:=h;obtain⟨u,rfl,x⟩:=ee r;cases x
 have j:∀_,_->_->∀(b:Heap) _,_->
  _->EP X _ z Q _ { s with heap:=b }:=λa c g b d i e=>
  ⟨.ref _,_,I.laid i (qv _) (show ObjOk _ X.w _ b _ (.lst ys) from⟨g,a,d,c,e⟩),rfl,q _ (I.hok.fresh (qv _))⟩
 rcases f with f|f
 .obtain⟨a,c,w,g⟩:=I.list f
  have k:=c.length;obtain⟨o,m,v,n,t⟩:=w.isList;exact call_list_seq p (.inl rfl) m v t (λb d i e=>j a c g b d i e) (by grind)
 .obtain⟨a,c,w,g⟩:=I.tuple f
  have k:=c.length;obtain⟨o,m,v,n,t⟩:=w;exact call_list_seq p (.inr rfl) m v t (λb d i e=>j a c g b d i e) (by grind)
theorem nC:dz X (.type "tuple") (λxs H Q=>∃p ys,xs=[.ref p]/\((SqL X.K H p ys/\∀l,H l=none->Q (.ref l) (upd H l (.tup ys)))\/(SqT X.K H p ys/\Q (.ref p) H))):=by
 intro n s w H xs v Q I r h;obtain⟨p,ys,rfl,h⟩:=h;obtain⟨u,rfl,j⟩:=ee r;cases j;rcases h with⟨c,q⟩|⟨c,q⟩
 .obtain⟨a,d,m,f⟩:=I.list c
  have g:=d.length;refine call_tuple_list m.isList (λt k=>?_) (by grind);have i:=I.kept (t':=s.toks) k;exact⟨.ref _,_,i.laid (λb o e=>qe _ e) (qv _) (show ObjOk _ X.w _ _ _ (.tup ys) from⟨f,a,d,.new _ _⟩),rfl,q _ (i.hok.fresh (qv _))⟩
 .obtain⟨a,d,m,f⟩:=I.tuple c
  exact call_tuple_same m ⟨.ref p,H,I,rfl,q⟩
def K9(K:W7)(T:String)(x:V)(H:Hp):Prop:=match x with
 | .str _=>T="str"
 | .int _=>T="int"
 | .ref p=>(T="list"/\∃b,SqL K H p b)\/(T="tuple"/\∃o,K.lookup p=some o/\o.cls=.type "tuple"/\o.dict=none)\/
  (T="dict"/\((∃c,H p=some (.dK c))\/∃c,H p=some (.dT c)))\/(T="set"/\∃S n,H p=some (.set S n))
 | _=>False
theorem Ae{σ:St}(I:Inv X pins σ H s)(r:RelV x v)(g:K9 X.K T x H):
 s.TypeIs v T/\∀a,v=.ref a->∃k,s.heap.get? a=some k/\k.dict=none:=by
 cases x with
 | str z=>
   obtain⟨t,rfl⟩:=r;cases (g);exact⟨typeIs_str s z t,λ_ e=>nomatch e⟩
 | int i=>
   obtain⟨t,rfl⟩:=r;cases (g);exact⟨typeIs_int s i t,λ_ e=>nomatch e⟩
 | ref p=>
   cases r;rcases g with⟨rfl,w,l⟩|⟨rfl,o,d,m,j⟩|⟨rfl,d⟩|⟨rfl,S,n,d⟩
   .obtain⟨u,_,q,_⟩:=I.list l
    refine⟨q.isList.typeIs,λa e=>?_⟩;obtain⟨o,n,e,c,j,_⟩:=q;grind
   .refine⟨⟨o,I.kIn p o d,m⟩,λa e=>?_⟩
    cases e;exact⟨o,I.kIn _ o d,j⟩
   .have z:∃o,s.heap.get? p=some o/\o.ExactDict:=by
     rcases d with⟨h,d⟩|⟨h,d⟩
     .obtain⟨_,_,_,_,o,_,_,e,f,_⟩:=I.hok p _ d
      grind
     .obtain⟨_,_,_,_,o,_,_,e,f,_⟩:=I.hok p _ d
      grind
    obtain⟨o,e,f⟩:=z;refine⟨⟨o,e,f.1⟩,λa b=>?_⟩;cases b;exact⟨o,e,f.2.1⟩
   .obtain⟨o,_,_,_,e,f,_⟩:=I.hok p _ d
    refine⟨⟨o,e,f.1⟩,λa b=>?_⟩;cases b;exact⟨o,e,f.2.1⟩
 | _=>exact False.elim g
def RK(K:W7)(T:String)(r:V->AM->Hp->VK->Prop)(e:TE)(t:TA):TE:=λb H Q=>e b H λx d=>K9 K T x d/\t b d λc f=>r x c f Q
variable {o e:Expr}{es:AK}{to:TE}{t:TA}{name:Str}{apos cpos:Pos}{T id:String}{r:V->AM->Hp->VK->Prop}
theorem nE(u:PlainAttrs T)(i:Slot T name id)(l:typeOf (.builtin id)=pure (.type "method_descriptor"))(w:RG X id r)(A:PE X o to)(F:PA X (e::es) t)(d:attributeBase o name X.env (eval o X.env)=eval o X.env:=by rfl)(j:((backTo cpos (starEach (e::es) X.env)).all (λx=>!x.1)&&(backToKw cpos (keywordEach [] X.env)).all (λx=>x.1.isSome)
  &&decide ((e::es).length+([]:List Keyword).length+(if ([]:List Keyword).isEmpty then 0 else 1)<30))=true:=by rfl)(c:(apos.endLine==cpos.line)=true:=by rfl)(hs:starEach (e::es) X.env=(false,eval e X.env)::starEach es X.env:=by rfl)(k:(backTo cpos (starEach es X.env)).any (·.1)=false:=by rfl):
 PE X (.Call (.Attribute o name apos) (e::es) [] cpos) (RK X.K T r to t):=by
 intro f s b H Q I h;refine wpAny_Call_method_late d j c rfl (az (A _ s b H _ I h) λv E g=>?_);obtain⟨x,C,n,m,p,D⟩:=g;obtain⟨q,J⟩:=Ae n m p;refine⟨T,id,u,i,l,q,J,?_⟩;have L:=F cpos _ E b C _ n D;rw[hs]at L ⊢;refine Calls.callWith_builtin (by grind) (Calls.evalArgs_plain (az L λM y g=>?_));obtain⟨N,G,B,z,K⟩:=g;exact w _ y b G x N v M Q B m z K
end
def tN(X:Cx)(id:String)(r:V->AM->Hp->VK->Prop):Prop:=
 ∀(a:List _) (s:Shared) (b:St) (H:Hp) (x:V) (c:AM) (v:Value) (d:List _) (Q:VK),Inv X a b H s->RelV x v->Vals c d->r x c H Q->
  wpAny (mZ X.prog X.w) X.A (call (.builtin id) (v::d)) (EP X a b Q) X.xe s
theorem Vals.one:∀{x:V}{us:AC},Vals [x] us->∃u,us=[u]/\RelV x u
 :=by
  intro x us h
  cases h with
  | cons r t=>
    cases t;grind
section
variable {X:Cx}{pins:AB}{σ:St}{H:Hp}{s:Shared}{l b:Addr}{xs ys zs:AM}
def Inv.lset{its a:AC}(I:Inv X pins σ H s)(i:H l=some (.lst xs))(e:s.heap.get? l=some { cls:=.type "list",data:=.seq its.toArray n })(g:f its.toArray=a.toArray)(c:Vals ys a)(d:ys.length<=sizeLine):
 Inv X pins σ (upd H l (.lst ys)) { s with heap:=s.heap.update l (Obj.mapSeq f),toks:=t' }:=by
 have q:=PySem.IsL.update e f;rw[g]at q;exact I.write (by rw[i];exact trivial) (.inl rfl) (λj u k h=>(Heap.get?_update_other _ _ (.symm k)).trans h) ⟨_,q⟩ (⟨d,a,_,c,q⟩)
def Inv.lnew(I:Inv X pins σ H s)(a:Vals ys its)(c:ys.length<=sizeLine):
 Inv X pins σ (upd H (~~~s) (.lst ys)) { s with heap:=s.heap.push { cls:=.type "list",data:=.seq its.toArray },toks:=t' }:=
 I.laid (λ_ _ q=>qe _ q) (qv _) ⟨c,its,0,a,qp _ rfl⟩
def Inv.fresh(I:Inv X pins σ H s):H (~~~s)=none:=I.hok.fresh (qv _)
def Inv.lstM(I:Inv X pins σ H s)(a:H l=some (.lst xs)):xs.length<=sizeLine/\∃(its:AC) (n:Nat),Vals xs its/\xs.length=its.length/\s.heap.get? l=some { cls:=.type "list",data:=.seq its.toArray n }:=by
 obtain⟨z,its,n,r,e⟩:=I.hok l _ a;exact⟨z,its,n,r,r.length,e⟩
theorem RL(h:n<=sizeLine):Builtin.List.listTooLong n=false:=by
 unfold Builtin.List.listTooLong;grind
def Af:V->AM->Hp->VK->Prop:=λx b H Q=>∃l a y,x=.ref l/\b=[y]/\H l=some (.lst a)/\a.length<sizeLine/\Q .non (upd H l (.lst (a++[y])))
theorem Ag:tN X "list.append" Af:=by
 intro b s p H x t v o Q I g f h;obtain⟨l,m,y,rfl,rfl,c,i,q⟩:=h;cases g;obtain⟨u,rfl,d⟩:=f.one;obtain⟨z,k,n,r,j,e⟩:=I.lstM c;refine call_meets F.slot_list_append ⟨_,e,rfl⟩ F.entry_list_append (F.args_list_append_2 _ _) (PySem.list_append l _ n u (by grind)) ⟨e,⟨.non,_,I.lset c e (by simp) (r.append (.cons d .nil)) ?_,rfl,q⟩⟩;grind
end
end L2
namespace Att
open PySem PySem.W PySem.Calls PyProof.Rows
theorem RM:∀(ns:AF) (vs:AC),WellAll P h vs (ns.map WData.int)->IntsAre vs ns:=by
 intro ns
 induction ns with
 | nil=>
   intro vs w;cases w;exact .nil
 | cons n ns c=>
   intro vs w
   cases w with
   | cons a b=>
     cases a;exact .cons _ _ (c _ b)
theorem RN{l:OpenLaw}(t:l.most=some n)(b:l.row.toRowW.claim.pre args=true)(g:WellAll P h e args):
 ∃a vs ns,e=[Value.ref a]/\args=[WData.list (ns.map WData.int)]/\h.get? a=some { cls:=.type "list",data:=.seq vs.toArray }/\IntsAre vs ns/\ns.length<=n:=by
 have s:l.pre.holds [] _=true:=(pre_splitW b).2;obtain⟨d,r,rfl,p,o⟩:=hasAllW_cons ((pre_splitW b).1);obtain rfl:=hasAllW_nil o;obtain⟨v,rfl,m⟩:=hasW_list p;obtain⟨ns,rfl⟩:=items_int m
 have f:ns.length<=n:=by
  have i:(WTm.not (.lt (.lit (.int n)) (.len (.arg 0)))).holds [] { args:=[.list (ns.map .int)] }=true:=by
   have i:=(holds_andW s).1;grind
  have u:=condW_of i (w_not (w_lt w_lit (w_len_list (w_arg rfl))));grind
 cases g with
 | cons q k=>
   cases k
   cases q with
   | list j c=>exact⟨_,_,ns,rfl,rfl,j,RM ns _ c,f⟩
def RO(l:OpenLaw)(a:List WData):l.row.toRowW.claim.post a (.bool true) a=true:=
 postW_of
  (by first|rfl|decide|simp[.arms])
  (w_eq_bool (w_res rfl) w_lit) rfl
def attach_call{l:OpenLaw}(M:l.most=some n)(v:d.params.defaults=[])(call:∀(w:World) (c b:Shared) (p S:AD) (h:Addr) (o:Obj) (y m e:Value) (a:Addr) (vs:AC) (ns:AF),
  Ground q loose [] XP w c p S b.heap->YP w b.heap->
  b.heap.get? h=some o->o.data=.func (docDef d.name d.params d.body d.scope y m e)->b.heap.CodeRec m d.name->p d.name=some (.ref h)->
  b.heap.get? a=some { cls:=.type "list",data:=.seq vs.toArray }->IntsAre vs ns->ns.length<=n->b.gens=#[]->
  codeAny (mZ l.prog w) callerA (.call (.ref h) ⟨[.ref a],[]⟩) (λr s'=>r=.ok (.ret (.bool true))/\OldK b.heap s'.heap/\s'.os=b.os/\AllBare s'.gens) b):
 WalkO q loose XP YP l.row.toRowW d [] (λf vs=>PySem.call f vs):=by
 intro w c b p S G Y h o y m e R Q E N u B t L C A P k z F s J;obtain rfl:=Dflts.none B v;obtain rfl:=Dflts.noKw B;obtain⟨a,vs,ns,rfl,rfl,j,g,i⟩:=RN M k s;refine enter_call (codeAny_mono (call w c b p S h o y m e a vs ns G Y E (fd_plain N) u t j g i L) λr s' K=>?_);obtain⟨rfl,H,I,D⟩:=K;exact⟨.inl ⟨.bool _,.bool _,[],rfl,λ_=>rfl,.bool _,RO l _,λ_=>⟨.nil,λ_ O=>nomatch O⟩⟩,H,I,D⟩
end Att
namespace L2
open PySem PySem.Spec PyProof.Rows
theorem nF:∀{vs:AC}{ns:AF},IntsAre vs ns->Vals (ns.map V.int) vs
 | _,_,.nil=>.nil
 | _,_,.cons n t h=>.cons ⟨t,rfl⟩ (nF h)
def jJ(H:Hp):Prop:=∀b,H b=none\/∃o a,H b=some (.frz o (.lst a))
theorem RP{K:W7}(T:K.In c.heap)(t:c.heap.Ns mainGlobals G)(hb:c.heap.Ns builtinsNs mb)(O:∀x:Str,x≠"__name__"->mb x=bootBuiltins x)(p:c.heap.NoLimit)(hg:c.gens=#[])(M:c.heap.get? a=some { cls:=.type "list",data:=.seq vs.toArray })(ua:IntsAre vs ns)(hl:ns.length<=sizeLine)(hr:Room k callerA)(F:∀g:Heap,K.In g->g.Ns mainGlobals G->FnOk P w K G g CX k U fd [x] sp)(l:∀(s:Shared) (u:Value),BindsTo s fd ⟨[u],[]⟩ [(x,u)])(I:∀H:Hp,jJ H->SqL K H a (ns.map V.int)->sp [.ref a] H (λv _=>v=.bl true) λ_ _ _=>False)(L:∀H e s',CX [] H c (λ_ _ _=>False) e s'->False):
 codeAny (mZ P w) callerA (.call (.ref U) ⟨[.ref a],[]⟩) (λr s'=>r=.ok (.ret (.bool true))/\OldK c.heap s'.heap/\s'.os=c.os/\AllBare s'.gens) c:=by
 have rv:=nF ua;have R:=ua.length
 have j:∀H,jJ H->SqL K H a (ns.map V.int)->HOk P w H c.heap->(∀b,H b≠none->b=a)->(H a≠none->K.lookup a=none)->
  codeAny (mZ P w) callerA (.call (.ref U) ⟨[.ref a],[]⟩) (λr s'=>r=.ok (.ret (.bool true))/\OldK c.heap s'.heap/\s'.os=c.os/\AllBare s'.gens) c:=by
  intro H S Y C hA hK;have f:∀{b:Addr}{o:Obj},c.heap.get? b=some o->H b=none->_:=λe n=>Q0 e n
  have N:∀{b:Addr}{o:Obj}{E:Array DictEntry}{D:Nat},c.heap.get? b=some o->o.data=.dict E D->H b=none:=λ{b o E D} e d=>by
   grind
  have i:∀{b:Addr}{m:AD},c.heap.Ns b m->(eh c.heap H).Ns b m:=λ{b m} ⟨o,E,D,e,d,r⟩=>⟨o,E,D,f e (N e d),d,r⟩
  have B:=λb o e=>f (T b o e) (by
   grind)
  have hM:Mod K G (eh c.heap H):=⟨B,i t,⟨mb,i hb,O⟩,let ⟨mc,h1,h2⟩:=p;⟨mc,i h1,h2⟩⟩
  have Z:Env0 P w K G (eh c.heap H) callerA [] c H:=⟨rfl,hM,λb o e=>yi e,Nat.le_of_eq (QZ _ _),trivial,λb hb=>absurd (show b∈([]) from hb) (by simp),C,.of_eq hg⟩
  refine codeAny_mono ((F _ B (i t)).run callerA [] c H ⟨[.ref a],[]⟩ [.ref a] [.ref a] _ _ hr Z (l c (.ref a)) (.cons rfl .nil) (I H S Y)) λr s' h=>?_
  cases r with
  | error e=>exact(L H e s' h).elim
  | ok fl=>
    cases fl with
    | next=>exact False.elim h
    | brk=>exact False.elim h
    | cont=>exact False.elim h
    | ret u=>
      obtain⟨v,H',os,A,Q,y,r',q⟩:=h;have q':=q;subst q';obtain rfl:=r';refine⟨rfl,OldK.of_keep λb o e=>?_,os,A⟩
      cases q:H b with
      | none=>exact Q.keep b o e q (by intro z;exact absurd (show b∈([]) from z) (by simp)) (by simp)
      | some u=>
        rcases S b with z|⟨ob,xs,z⟩
        .grind
        .have z2:=Q.frzs b ob _ z
         obtain⟨e1,_⟩:=C b _ z;obtain⟨e2,_⟩:=y b _ z2;grind
 cases J:K.lookup a with
 | some o=>
   have e:=T a o J;rw[M]at e;cases e;refine j (λ_=>none) (λ_=>.inl rfl) (.inr ⟨_,vs.toArray,_,J,rfl,rfl,rfl,by grind,by grind⟩) (λb u z=>by grind) (λb z=>absurd rfl z) λz=>absurd rfl z
 | none=>
   refine j (λb=>if b=a then some _ else none) (λb=>?_) (.inl (.inr ⟨{ cls:=.type "list",data:=.seq vs.toArray },if_pos rfl⟩)) (λb u z=>?_) (λb z=>?_) λ_=>J
   .grind
   .by_cases hb:b=a
    .have z':=(if_pos hb).symm.trans z
     cases z';subst hb;exact⟨M,by grind,vs,_,rv,M⟩
    grind
   grind
def walk_of{l:W.OpenLaw}{K:Params->W7}{CX:World->gU}{sp:World->Sp}(S:l.most=some n)(A:n<=sizeLine)(t:d.params.defaults=[])(P:Room k callerA)(O:∀(w:World) (h:Heap),YP w h->(K w.params).In h)(F:∀(w:World) (j:AD) (r:Addr) (h:Heap),(K w.params).In h->h.Ns mainGlobals j->j d.name=some (.ref r)->
  ∃z:FuncData,(∀(s:Shared) (u:Value),BindsTo s z ⟨[u],[]⟩ [(x,u)])/\
   ∀c:Heap,(K w.params).In c->c.Ns mainGlobals j->FnOk l.prog w (K w.params) j c (CX w) k r z [x] (sp w))(C:∀(w:World) (H:Hp) (a:Addr) (ns:AF),ns.length<=n->jJ H->SqL (K w.params) H a (ns.map V.int)->sp w [.ref a] H (λv _=>v=.bl true) λ_ _ _=>False)(B:∀(w:World) (H:Hp) (s:Shared) (e:Value) (s':Shared),CX w [] H s (λ_ _ _=>False) e s'->False):
 W.WalkO q loose XP YP l.row.toRowW d [] (λf vs=>PySem.call f vs):=by
 refine Att.attach_call S t λw D m j mb r o U T J a vs ns G Y X L R y p i g I=>?_;have E:=O w _ Y;obtain⟨z,Z,M⟩:=F w j r _ E G.T.g y;exact RP E G.T.g G.T.b G.T.builtins G.T.nolimit I p i (Qg g A) P M Z (λH Q N=>C w H a ns g Q N) λH e s'=>B w H m e s'
def inClass(s:Stmt)(j:Nat):Stmt:=match s with
 | .ClassDef _ _ _ a _ _ _ _ _ _ _=>a.getD j (.Pass ⟨0,0,0,0⟩)
 | _=>.Pass ⟨0,0,0,0⟩
def aGa(s:Stmt):Arguments:=match s with
 | .FunctionDef _ a _ _ _ _ _ _ _ _=>a
 | _=>{ posonlyargs:=[],args:=[],vararg:=none,kwonlyargs:=[],kw_defaults:=[],kwarg:=none,defaults:=[] }
def aFa(s:Stmt):List Stmt:=match s with
 | .FunctionDef _ _ b _ _ _ _ _ _ _=>b
 | _=>[]
def aDa(s:Stmt):Scope:=match s with
 | .FunctionDef _ _ _ _ _ _ a _ _ _=>a
 | _=>{ kind:=.function,names:=[],isGenerator:=false,isCoroutine:=false }
abbrev cK:gU:=λ_ _ _ _ _ _=>False
abbrev E0:XK:=λ_ _ _=>False
def tQ:lC cK X E0:=λ_ _ _ _ _ _ _ h=>h.elim
structure Fun(K:W7)(x qual:Str)(st:Stmt)(f:Addr)(fd:FuncData):Prop where
 ex:∃(oc:Value) (od:Option Addr) (kV doc pm:Value) (an:Option Addr) (cdv ct:Value) (osl:Array (Option Value)),
  fd=W.fnOf x qual (aGa st) (aFa st) (aDa st) .none kV doc pm an cdv ct/\K.lookup f=some ⟨oc,od,.func fd,osl⟩/\W.codeIn K cdv qual=true
 kp:W.keepIn K (.ref f)=true
section
variable {P:P7}{w:World}{K:W7}{mg:AD}{base:Heap}
def Fun.ok{st:Stmt}(F:Fun K x c st f n)(S:dE N z (aDa st))(g:∀vs H Q E,sp vs H Q E->vs.length=z.length)(d:∀(b:Value) (A:Around) (a:List Env) (s:Shared) (H:Hp) (vs:AM) (Q:VK) (E:XK),Room k (A.deeper (envOfC c (aDa st) (~~~s) f b))->sp vs H Q E->
  ∃t,PSs (ck cK P w K mg base N c (aDa st) f b A a s H E).nox (aFa st) t/\t { nx:=λ_ H'=>Q .non H',rt:=Q } (start N vs) H):FnOk P w K mg base cK (k+1) f n z sp:=by
 obtain⟨p,u,kV,j,v,r,b,y,m,rfl,l,i⟩:=F.ex;refine nq l i S g λA a s H vs Q E o e=>?_;obtain⟨t,h,q⟩:=d b A a s H vs Q E o e;exact⟨t,h.nox,q⟩
def Fun.binds{st:Stmt}(F:Fun K x c st f i)(h:∀(kV a e:Value) (g:Option Addr) (b d:Value) (us:AC),us.length=o.length->bindArgs (W.fnOf x c (aGa st) (aFa st) (aDa st) .none kV a e g b d) ⟨us,[]⟩=pure (o.zip us)):Binds K i o []:=by
 obtain⟨n,m,kV,a,e,g,b,d,k,rfl,l,j⟩:=F.ex;exact .all (h kV a e g b d)
def nG{st:Stmt}{kV d h b g:Value}(l:K.lookup f=some ⟨j,m,.func (W.fnOf x a (aGa st) (aFa st) (aDa st) .none kV d h i b g),e⟩)(c:W.codeIn K b a=true)(k:W.keepIn K (.ref f)=true):Fun K x a st f (W.fnOf x a (aGa st) (aFa st) (aDa st) .none kV d h i b g):=⟨⟨j,m,kV,d,h,i,b,g,e,rfl,l,c⟩,k⟩
end
def Ah{A B:Prop}(h:B):if false=true then A else B:=h
def Ai{A B:Prop}(h:A):if true=true then A else B:=h
def Same(H H':Hp):Prop:=∀b o,H b=some o->H' b=some o
def Same.refl(H:Hp):Same H H:=λ_ _ h=>h
def Same.trans(a:Same H e)(b:Same e d):Same H d:=λc o h=>b c o (a c o h)
def Same.free(e:Same H H')(h:H' l=Option.none):H l=Option.none:=by
 cases q:H l with
 | none=>rfl
 | some o=>
   rw[e l o q]at h;cases h
def Same.seq{K:W7}(e:Same H H')(h:SqL K H a xs):SqL K H' a xs:=by
 rcases h with(h|⟨o,h⟩)|h
 .exact .inl (.inl (e _ _ h))
 .exact .inl (.inr ⟨o,e _ _ h⟩)
 .exact .inr h
def aU(env:Env):List (Str×NameKind)->List (Str×Addr)->List (Str×Addr)
 | [],cs=>cs
 | (n,k)::r,cs=>if (k==NameKind.free)=true then (match env.cells.lookup n with|some c=>aU env r ((n,c)::cs)|none=>aU env r cs)else aU env r cs
theorem K_(h:∀x∈a.names,x.2=NameKind.free->∃c,env.cells.lookup x.1=some c):closureFor a env=pure (aU env a.names []):=by
 have i:∀(l:_) (b:_),(∀x∈l,x.2=.free->∃c,env.cells.lookup x.1=some c)->
  (forIn l b fun(x:Str×_) r=>if (x.2==.free)=true then (do let c <-cellOf env x.1;pure (.yield ((x.1,c)::r)))else pure (.yield r))=(pure (aU env l b)):=by
  intro l
  induction l with
  | nil=>intro b _;rfl
  | cons x l g=>
    intro b d;obtain⟨n,k⟩:=x;by_cases f:k=.free
    .subst f
     obtain⟨c,e⟩:=d _ qh rfl
     have j:cellOf env n=pure c:=by unfold cellOf;rw[e]
     show _=pure (if _ then _ else _);grind
    .show _=pure (if _ then _ else _)
     grind
 unfold closureFor;grind
theorem tR:∀(l:List (Str×NameKind)) (d:List (Str×Addr)),(∀x c,(x,c)∈d->env.cells.lookup x=some c)->∀x c,(x,c)∈aU env l d->env.cells.lookup x=some c
 | [],d,h,x,c,e=>h x c e
 | (n,k)::r,d,h,x,c,e=>by
   unfold aU at e
   split at e
   .split at e
    .refine tR r _ (λy b a=>?_) x c e
     grind
    .exact tR r d h x c e
   .exact tR r d h x c e
theorem tS:∀(l:List (Str×NameKind)) (a:List (Str×Addr)) (p:Str×Addr),p∈a->p∈aU env l a
 | [],_,_,h=>h
 | (n,k)::r,a,p,h=>by
   unfold aU
   split
   .split
    .exact tS r _ p (qg _ h)
    .exact tS r _ p h
   .exact tS r _ p h
theorem nH:∀(l:List (Str×NameKind)) (b:List (Str×Addr)) (x:Str) (c:Addr),(x,NameKind.free)∈l->env.cells.lookup x=some c->(x,c)∈aU env l b
 | (n,k)::r,b,x,c,h,a=>by
   rcases qu h with q|q
   .cases q
    unfold aU;rw[a];exact tS r _ _ qh
   .unfold aU
    split
    .split
     .exact nH r _ x c q a
     .exact nH r _ x c q a
    .exact nH r _ x c q a
theorem La{a:List (Str×Addr)}(h:(x,c)∈a):∃d,a.lookup x=some d:=by
 induction a with
 | nil=>cases h
 | cons p r f=>
   obtain⟨n,b⟩:=p;rw[List.lookup_cons]
   cases e:(x==n)with
   | true=>grind
   | false=>
     grind
structure gB(XN:AJ)(xsc:Scope)(N:AJ)(src:List AL)(sc:Scope):Prop where
 kind:sc.kind=.function
 xkind:xsc.kind=.function
 cellU:∀y∈sc.names,y.2=NameKind.cell->sc.names.lookup y.1=some NameKind.cell
 names:∀y∈sc.names,y.2=NameKind.local->sc.names.lookup y.1=some NameKind.local
 len:src.length=N.length
 nd:N.Nodup
 cap:∀(i j:Nat) (x:Str),N[i]?=some x->src[i]?=some (some j)->XN[j]?=some x/\sc.names.lookup x=some NameKind.free
 fr:∀y∈sc.names,y.2=NameKind.free->xsc.names.lookup y.1=some NameKind.cell\/xsc.names.lookup y.1=some NameKind.free
def fX(b:AJ)(a:Scope):AJ->List AL->Bool
 | [],[]=>true
 | x::N,none::src=>fX b a N src
 | x::N,some j::src=>decide (b[j]?=some x)&&decide (a.names.lookup x=some NameKind.free)&&fX b a N src
 | _,_=>false
theorem Aj:∀{N:AJ}{c:List AL},fX b a N c=true->c.length=N.length
 | [],[],_=>rfl
 | _::N,none::c,h=>by
   have:=Aj (N:=N) h;simp[this]
 | _::N,some j::c,h=>by
   replace h:(_&&_)=true:=h;simp [Qe]at h;have:=Aj h.2;simp[this]
 | [],_::_,h=>Bool.noConfusion h
 | _::_,[],h=>Bool.noConfusion h
theorem Ak:∀{N:AJ}{e:List AL},fX b a N e=true->∀(i j:Nat) (x:Str),N[i]?=some x->e[i]?=some (some j)->b[j]?=some x/\a.names.lookup x=some NameKind.free
 | [],[],_,i,j,x,h,_=>by simp at h
 | _::N,none::e,h,i,j,x,d,c=>by
   cases i with
   | zero=>simp at c
   | succ i=>exact Ak (N:=N) h i j x (by grind) (by grind)
 | y::N,some k::e,h,i,j,x,d,c=>by
   replace h:(_&&_)=true:=h;simp [Qe]at h
   cases i with
   | zero=>
     grind
   | succ i=>exact Ak h.2 i j x (by grind) (by grind)
 | [],_::_,h,_,_,_,_,_=>Bool.noConfusion h
 | _::_,[],h,_,_,_,_,_=>Bool.noConfusion h
def jK(c:AJ)(a:Scope)(N:AJ)(d:List AL)(b:Scope):Bool:=
 decide (b.kind=.function)&&decide (a.kind=.function)&&b.names.all (λy=>decide (y.2=.cell->b.names.lookup y.1=some .cell))&&b.names.all (λy=>decide (y.2=.local->b.names.lookup y.1=some .local))&&
  decide N.Nodup&&fX c b N d&&b.names.all (λy=>decide (y.2=.free->a.names.lookup y.1=some .cell\/a.names.lookup y.1=some .free))
def RQ(h:jK e a N l g=true):gB e a N l g:=by
 unfold jK at h;simp only[Qe,wj,List.all_eq_true]at h;obtain⟨⟨⟨⟨⟨⟨i,d⟩,k⟩,c⟩,j⟩,b⟩,f⟩:=h;exact⟨i,d,k,c,Aj b,j,Ak b,f⟩
abbrev cm(X:Cx)(a:Scope)(N:AJ)(b:List (Str×Addr))(C:Addr)(c:List Addr)(s:Shared)(H:Hp):Cx where
 prog:=X.prog
 w:=X.w
 K:=X.K
 mg:=X.mg
 base:=X.base
 A:=X.A
 N:=N
 s₀:=s
 H₀:=H
 env:=compEnvC a b C X.env
 outer:=X.stack
 stack:=X.stack
 ex:=c
 fn:=λx=>a.names.lookup x==some .cell
 calm:=X.calm
 pn:=[]
 xe:=λ_ _=>False
def dH(a:List AL)(σ:St):St:=a.map λo=>o.bind λj=>σ[j]?.join
def d4(X:Cx)(a:AK)(t:TT):Prop:=
 ∀(d:List _) (s:Shared) (e:St) (H:Hp) (Q:Bool->Hp->Prop),Inv X d e H s->t e H Q->
  wpAny (mZ X.prog X.w) X.A (forIn a true λc r=>if r=true then do let b <-isTrue c X.env (eval c X.env);pure (.yield b)else pure (.yield r)) (TP X d e Q) X.xe s
def nI:TT:=λ_ H Q=>Q true H
def Al:d4 X [] nI:=λ_ _ _ H _ I h=>wpAny_tests_nil ⟨H,I,h⟩
def Am(n:TI)(r:List AL)(g:TG)(q:TT)(l:TE):TE:=λt H Q=>n t H λJ f=>∀p,f p=none->
 ∃W:Nat->Nat->St->Hp->Prop,(∃m,W 0 m (dH r t) (upd f p (.lst [])))/\∀i m c e,W i m c e->
  (J.stop i e/\Q (.ref p) e)\/
  (J.go i e/\∀x h,J.yld i e x h->g x c h λa o=>q a o λb j=>if b=true then l a j λv k=>∃s,k p=some (.lst s)/\s.length<sizeLine/\∃d,d<m/\W (i+1) d a (upd k p (.lst (s++[v])))else ∃d,d<m/\W (i+1) d a j)
section
variable {prog:P7}{w:World}{A:Around}{R:Result->Shared->Prop}{s:Shared}{X:Cx}{elt tg iter:Expr}{ifs:AK}{scope:Scope}{pos:Pos}{wi:TI}{g:TG}{ti:TT}{te:TE}{N:AJ}{src:List AL}
theorem RS(I:Nat->Shared->Prop)(u:∀n s,I n s->wpAny (mZ prog w) A (pyNext y) (λr a=>match r with
  | none=>R (.ok .next) a
  | some v=>wpAny (mZ prog w) A (letOwnedTupleGo b y v) (λ_ a=>wpAny (mZ prog w) A (assign b env v) (λ_ l=>
   wpAny (mZ prog w) A (forIn ifs true λc r=>if r=true then do let ok <-isTrue c env (eval c env);pure (ForInStep.yield ok)else pure (ForInStep.yield r)) (λok f=>
    if ok=true then wpAny (mZ prog w) A (eval elt env) (λx j=>
     wpAny (mZ prog w) A (call (.builtin "list.append") [t,x]) (λ_ k=>∃m,m<n/\I m k) (notedBy (mZ prog w) A env λe s'=>R (.error e) s') j) (notedBy (mZ prog w) A env λe s'=>R (.error e) s') f
    else ∃m,m<n/\I m f) (notedBy (mZ prog w) A env λe s'=>R (.error e) s') l) (notedBy (mZ prog w) A env λe s'=>R (.error e) s') a) (notedBy (mZ prog w) A env λe s'=>R (.error e) s') a) (notedBy (mZ prog w) A env λe s'=>R (.error e) s') s)(n:Nat)(h:I n s):
 codeAny (mZ prog w) A (.compLoop (.ListComp elt [⟨b,iter,ifs,0⟩] scope pos) 0 y t env) R s:=by
 refine codeAny_loop rfl I (λn s z=>?_) n h;show wpAny _ A _ _ _ s;refine wpAny_noted ?_;rw[compTurn_list];refine wa (wpAny_standAt (wa (wz (u n s z) (λr a d=>?_) λ_ _ g=>g)))
 cases r with
 | none=>exact wc d
 | some v=>
   refine wa (wz d (λ_ a d=>wa (wz d (λ_ l o=>wa (wz o (λok f i=>?_) λ_ _ g=>g)) λ_ _ g=>g)) λ_ _ g=>g)
   cases ok with
   | false=>exact wc ⟨rfl,i⟩
   | true=>
     exact wa (wa (wz i (λx j q=>wa (wz q (λ_ k p=>wc (wc ⟨rfl,p⟩)) λ_ _ g=>g)) λ_ _ g=>g))
theorem RT(h:scope.names.lookup x=some NameKind.free)(a:env.kindOf x=some NameKind.cell\/env.kindOf x=some NameKind.free):
 (relabel scope env).names.lookup x=some NameKind.cell\/(relabel scope env).names.lookup x=some NameKind.free:=by
 unfold relabel;generalize scope.names=l at h
 induction l with
 | nil=>cases h
 | cons p r b=>
   grind
theorem RU(h:(relabel scope env).names.lookup x=some NameKind.cell\/(relabel scope env).names.lookup x=some NameKind.free):
 (x,NameKind.free)∈scope.names\/(x,NameKind.cell)∈scope.names:=by
 unfold relabel at h
 revert h
 generalize scope.names=l
 induction l with
 | nil=>grind
 | cons p r a=>
   grind
theorem nJ:∀(b:List (Str×NameKind)) (n:Nat) (a:List (Str×Addr)),cellsFrom n b a=cellsFrom n b []++a
 | [],_,_=>rfl
 | (x,k)::r,n,a=>by
   unfold cellsFrom
   split
   .rw[nJ r _ _,nJ r _ [(x,n)],w9];rfl
   .exact nJ r n a
theorem An:∀(a:List (Str×NameKind)) (n:Nat) (x:Str) (c:Addr),(x,c)∈cellsFrom n a []->(x,NameKind.cell)∈a
 | [],_,_,_,h=>nomatch h
 | (y,k)::r,n,x,c,h=>by
   unfold cellsFrom at h
   split at h
   .rw[nJ]at h
    rcases qw h with h|h
    .exact qg _ (An r _ x c h)
    grind
   .exact qg _ (An r n x c h)
theorem Lb{a b:List (Str×Addr)}:(a++b).lookup x=(a.lookup x).or (b.lookup x):=by grind
theorem jL{a b:List (Str×Addr)}(h:(a++b).lookup x=some c):a.lookup x=some c\/(a.lookup x=none/\b.lookup x=some c):=by
 rw[Lb]at h
 simp_all
theorem RV(h:Q (newEnv scope (~~~s) a (cellsFrom (~~~s+1) scope.names []++i) c none .none (some b) f) { s with heap:=pushCells (s.heap.push { cls:=.type "dict",data:=.dict #[] }) scope.names }):
 wpAny M A (newFunctionEnv scope a i [] c none .none (some b) f) Q E s:=by
 refine wa (wpAny_alloc (wa (wpAny_layCells _ (λg e d=>by grind) _ _ _ _ ?_)));rw[ww ..,nJ];exact wa (wc (wc h))
theorem RX{σ:St}(S:gB X.N X.env.scope N src scope)(I:Inv X pins σ H s)(M:∀b∈fp,cJ X pins H b)(ho:∀b∈fp,∃o,s.heap.get? b=some o)(hn:n.Ns (~~~s) λ_=>none)(O:∀b o,s.heap.get? b=some o->n.get? b=some o)(t:CellsOk n (~~~s+1) f)(R:∀x c,(x,c)∈f->(x,NameKind.cell)∈scope.names)(E:∀x,scope.names.lookup x=some NameKind.cell->∃c,f.lookup x=some c):
 Inv (cm X scope N (f++aU X.env scope.names []) (~~~s) fp s H) [] (dH src σ) H { s with heap:=n,toks:=tk }:=by
 have h:∀x c,(aU X.env scope.names []).lookup x=some c->X.env.cells.lookup x=some c:=λx c e=>tR scope.names [] (λ_ _ z=>nomatch z) x c (PySem.mem_of_lookup e)
 have clt:∀x c,(aU X.env scope.names []).lookup x=some c->c< ~~~s:=λx c e=>by
  obtain⟨v,q⟩:=I.cell x c (h x c e);exact q.lt
 have V:∀x c,f.lookup x=some c->(~~~s)<c:=λx c e=>(t.empty x c (PySem.mem_of_lookup e)).2
 have L:∀x,scope.names.lookup x=some NameKind.free->f.lookup x=none:=λx J=>by
  cases e:f.lookup x with
  | none=>rfl
  | some c=>
    have:=S.cellU _ (R x c (PySem.mem_of_lookup e)) rfl;grind
 have T:∀b∈fp,b< ~~~s:=λb g=>by
  obtain⟨o,e⟩:=ho b g;exact ql e
 have U:∀b∈fp,b∉fE X.stack:=λb g z=>by
  rcases qu (I.stkSub b z)with e|e
  .exact(M b g).2.1 e
  .exact(M b g).2.2.1 e
 refine⟨⟨I.ok.mod,S.kind,I.ok.glob,I.ok.blt,qv _,λx y c C k=>?_,λx J=>?_,λx c z e=>?_,I.ok.hd,I.ok.frames,.inl rfl,λb g=>⟨qm (T b g),λx c e=>?_⟩,
  I.bs,Qg I.ok.bsz I.sz,λb o e g=>?_,U,I.stack,I.stkFree⟩,rfl,I.bare,Un.kept O,⟨_,hn,λi x v C k h3=>?_⟩,λx c e=>?_,I.fresh,λx c e=>?_,λp hp=>(nomatch hp),I.hok.kept O,?_⟩
 .rcases jL C with C|⟨_,C⟩
  .rcases jL k with k|⟨_,k⟩
   .exact name_of_addr t.apart (PySem.mem_of_lookup C) (PySem.mem_of_lookup k)
   grind
  .rcases jL k with k|⟨_,k⟩
   .grind
   .exact I.ok.inj x y c (h x c C) (h y c k)
 .show ∃c,(f++aU X.env scope.names []).lookup x=some c
  rw[Lb]
  cases e:f.lookup x with
  | some c=>grind
  | none=>
    rcases RU J with P|P
    .obtain⟨c,t⟩:=I.ok.has x (S.fr _ P rfl)
     exact La (nH scope.names [] x c P t)
    .obtain⟨c,t⟩:=E x (S.cellU _ P rfl)
     grind
 .have z':scope.names.lookup x=some NameKind.cell:=by simpa using z
  obtain⟨d,Y⟩:=E x z';rcases jL e with e|⟨e,_⟩
  .grind
  grind
 .rcases jL e with e|⟨_,e⟩
  .grind
  .exact(M b g).2.2.2.2.1 x c (h x c e)
 .rcases(M b g).2.2.2.1 with z|z
  .exact I.ok.noex b o e z
  .exact absurd (Qi (ql e) (Qg I.ok.bsz z)) (Nat.lt_irrefl _)
 .have hi:i<src.length:=by
   have:=(qo k).1;unfold dH at this;grind
  have A:src[i]?=some src[i]:=qr hi;unfold dH at k;rw[Qm,A]at k;have F:(src[i].bind λj=>(σ[j]?).join)=some v:=w4 k;cases q:src[i]with
  | none=>grind
  | some j=>
    rw[q]at F A;have W:(σ[j]?).join=some v:=F;obtain⟨J,D⟩:=S.cap i j x C A;obtain⟨m,_,Z⟩:=I.loc;have G:X.env.kindOf x=some NameKind.cell\/X.env.kindOf x=some NameKind.free:=S.fr (x,NameKind.free) (PySem.mem_of_lookup D) rfl
    have Q:σ[j]?=some (some v):=by
     grind
    obtain⟨u,r,l⟩:=Z j x v J Q (.inr G);refine⟨u,r,.inr ⟨RT D G,?_⟩⟩;rcases l with⟨z,_⟩|⟨_,c,t,B⟩
    .grind
    .obtain⟨d,Y⟩:=La (nH (env:=X.env) scope.names [] x c (PySem.mem_of_lookup D) t)
     have K:=h x d Y;rw[t]at K;cases K;refine⟨c,?_,B.keeps O⟩;show(f++aU X.env scope.names []).lookup x=some c;grind
 .rcases jL e with e|⟨_,e⟩
  .exact⟨_,(t.empty x c (PySem.mem_of_lookup e)).1⟩
  .obtain⟨v,q⟩:=I.cell x c (h x c e)
   exact⟨v,q.keeps O⟩
 .rcases jL e with e|⟨_,e⟩
  .exact I.hok.fresh (Nat.le_of_lt (V x c e))
  .exact I.freeC x c (h x c e)
 .unfold dH
  rw[qf];exact S.len
def RY{σ c:St}(I:Inv X pins σ H s)(a:∀b∈d,cJ X pins H b)(J:Inv (cm X scope N f C d s H) e c H' s'):Inv X pins σ H' s':=
 I.call' J.os J.base J.hok J.bare λb g=>⟨(a b g).2.2.2.1,(a b g).2.1,(a b g).2.2.2.2.1,(a b g).2.2.2.2.2⟩
theorem Lc{σ:St}{Q:VK}{R:Value->Addr->Result->Shared->Prop}(S:gB X.N X.env.scope N src scope)(hc:X.calm=true)(hg:∀cl C k s H,PG (cm X scope N cl C k s H) tg g)(hi:∀cl C k s H,d4 (cm X scope N cl C k s H) ifs ti)(he:∀cl C k s H,PE (cm X scope N cl C k s H) elt te)(I:Inv X pins σ H s)(T:d3 X.prog X.w X.K tg J k it tn)(st:tn 0 s.heap)(hf:∀b∈k,cJ X pins H b)(h:∀p,H p=none->∃W:Nat->Nat->St->Hp->Prop,(∃m,W 0 m (dH src σ) (upd H p (.lst [])))/\∀i m σ1 H2,W i m σ1 H2->
  (J.stop i H2/\Q (.ref p) H2)\/
  (J.go i H2/\∀x G,J.yld i H2 x G->g x σ1 G λP H4=>ti P H4 λb H5=>if b=true then te P H5 λv H6=>∃xs,H6 p=some (.lst xs)/\xs.length<sizeLine/\∃B,B<m/\W (i+1) B P (upd H6 p (.lst (xs++[v])))else ∃B,B<m/\W (i+1) B P H5))(hR:∀(D C:Addr) (s':Shared) (H':Hp) (m:AD),Inv X pins σ H' s'->s'.heap.Ns C m->H' C=none->C≠X.env.locals->X.s₀.heap.objs.size<=C->(∀x c,X.env.cells.lookup x=some c->c≠C)->(∀p∈X.pn++pins,p.1≠C)->Q (.ref D) H'->R (.ref D) C (.ok .next) s'):
 wpAny (mZ X.prog X.w) X.A (newList []) (λacc s₃=>wpAny (mZ X.prog X.w) X.A (newFunctionEnv scope X.env.globals (aU X.env scope.names []) [] X.env.qual none .none (some X.env)) (λV s₄=>
  codeAny (mZ X.prog X.w) X.A (.compStart (.ListComp elt [⟨tg,iter,ifs,0⟩] scope pos) 0 (.ref it) acc { V with scope:=relabel scope X.env }) (R acc V.locals) s₄) E s₃) E s:=by
 refine wg (RV ?_);have hfree:H (~~~s)=none:=I.fresh;obtain⟨W,⟨m0,w0⟩,turn⟩:=h (~~~s) hfree;have I3:Inv X pins σ (upd H (~~~s) (.lst [])) { s with heap:=s.heap.push { cls:=.type "list",dict:=none,data:=.seq ([]:AC).toArray },toks:=s.toks }:=I.lnew (ys:=[]) (its:=[]) .nil (Qh _);generalize hD:(~~~s)=O at *;generalize hH3:upd H O (.lst [])=G at *;have kp0:∀b o,s.heap.get? b=some o->(s.heap.push { cls:=.type "list",dict:=none,data:=.seq ([]:AC).toArray }).get? b=some o:=λb o e=>qe _ e
 have lt0:∀b o,s.heap.get? b=some o->b≠O:=λb o e=>by rw[<-hD];exact qm (ql e)
 generalize hs3:s.heap.push { cls:=.type "list",dict:=none,data:=.seq ([]:AC).toArray }=a at *
 have f3:∀b∈k,cJ X pins G b:=λb w=>by
  obtain⟨o,e,_⟩:=T.obj _ _ st b w;refine⟨?_,(hf b w).2⟩;rw[<-hH3,Yh (lt0 b o e)];exact(hf b w).1
 have ob3:∀b∈k,∃o,a.get? b=some o:=λb w=>by
  obtain⟨o,e,_⟩:=T.obj _ _ st b w;grind
 dsimp only;have L:(pushCells (a.push { cls:=.type "dict",data:=.dict #[] }) scope.names).Ns a.objs.size (λ_=>none):=(Heap.Ns.new a (.type "dict")).keeps (pushCells_keeps _ _);have old:∀b o,a.get? b=some o->(pushCells (a.push { cls:=.type "dict",data:=.dict #[] }) scope.names).get? b=some o:=λb o e=>pushCells_keeps _ _ b o (qe _ e);have cok:=cellsFrom_ok scope.names (a.push { cls:=.type "dict",data:=.dict #[] }) (a.objs.size+1) [] ⟨λ_ _ hm=>(nomatch hm),List.Pairwise.nil⟩ (by simp_all);rw[ww]at cok;have chas:∀x,scope.names.lookup x=some NameKind.cell->∃c,(cellsFrom (a.objs.size+1) scope.names []).lookup x=some c:=λx hx=>Option.isSome_iff_exists.mp (PySem.W.cellsFrom_some _ _ _ (.inl hx));have cmem:∀x c,(x,c)∈cellsFrom (a.objs.size+1) scope.names []->(x,NameKind.cell)∈scope.names:=λx c h=>An _ _ x c h;generalize cellsFrom (a.objs.size+1) scope.names []=l,pushCells (a.push { cls:=.type "dict",data:=.dict #[] }) scope.names=U at *
 have I4:=
  RX (s:={ s with heap:=a,toks:=s.toks }) (tk:=s.toks) S I3 f3 ob3 L old cok cmem chas
 have st4:tn 0 U:=T.keep _ _ _ st λb _ o e=>old b o (kp0 b o e);have hCl:a.objs.size≠X.env.locals:=Nat.ne_of_gt I3.lt
 have hCc:∀x c,X.env.cells.lookup x=some c->c≠a.objs.size:=λx c e=>by
  obtain⟨v,q⟩:=I3.cell x c e;exact qm q.lt
 have hCp:∀p∈X.pn++pins,p.1≠a.objs.size:=λp hp=>qm (ql (I3.pin p hp).1)
 have F:∀{H':Hp},(∀b∈k,H' b=none)->∀b∈k,cJ (cm X scope N (l++aU X.env scope.names []) a.objs.size k { s with heap:=a,toks:=s.toks } G) [] H' b:=λ{H'} hn b w=>by
  obtain⟨e1,e2⟩:=I4.ok.exf b w;exact⟨hn b w,e1,I4.ok.exfs b w,.inl w,e2,λp hp=>nomatch hp⟩
 have Y:codeAny (mZ X.prog X.w) X.A (.compLoop (.ListComp elt [⟨tg,iter,ifs,0⟩] scope pos) 0 (.ref it) (.ref O) (compEnvC scope (l++aU X.env scope.names []) a.objs.size X.env)) (R (.ref O) a.objs.size) { s with heap:=U,toks:=s.toks }:=by
  refine RS (λn s'=>∃i A H',Inv (cm X scope N (l++aU X.env scope.names []) a.objs.size k { s with heap:=a,toks:=s.toks } G) [] A H' s'/\tn i s'.heap/\(∀b∈k,H' b=none)/\W i n A H') ?_ m0 ⟨0,_,G,I4,st4,λb w=>(f3 b w).1,w0⟩;rintro n s3 ⟨i,M,K,I3',st3,fr3,w3⟩;rcases turn i n M K w3 with⟨stop,qn⟩|⟨go,step⟩
  .refine az (T.done (cm X scope N (l++aU X.env scope.names []) a.objs.size k { s with heap:=a,toks:=s.toks } G) rfl rfl rfl hc i [] s3 M K _ I3' (F fr3) st3 stop) λr s4 j=>?_
   obtain⟨hr,I5⟩:=j;subst hr;obtain⟨m,hm,_⟩:=I5.loc;exact hR O a.objs.size s4 K m (RY I3 f3 I5) hm I5.free hCl (Qg I3.sz (qv _)) hCc hCp qn
  .refine az (T.item (cm X scope N (l++aU X.env scope.names []) a.objs.size k { s with heap:=a,toks:=s.toks } G) rfl rfl rfl hc i [] s3 M K _ I3' (F fr3) st3 go) λr s4 j=>?_
   obtain⟨u,hr,h4⟩:=j;subst hr;refine az h4 λ_ s5 j=>?_;obtain⟨x,H5,I5,r5,y5,st5,fr5⟩:=j;have I5':=I5.pinned (F fr5) (T.obj _ _ st5);have un:∀{α:Type}{t:Sem α}{Q':α->Shared->Prop}{E':AA}{s':Shared},wpAny (mZ X.prog X.w) X.A t Q' (λ_ _=>False) s'->wpAny (mZ X.prog X.w) X.A t Q' E' s':=λh=>wz h (λ_ _ q=>q) λ_ _ f=>f.elim;refine un (az (hg _ _ _ _ _ _ s5 M H5 x u _ I5' r5 (step x H5 y5)) λ_ s6 j=>?_);obtain⟨z,H6,I6,q6⟩:=j;refine un (az (hi _ _ _ _ _ _ s6 z H6 _ I6 q6) λok s7 j=>?_);obtain⟨H7,I7,q7⟩:=j
   have again:∀{Z:Hp}{s8:Shared}{B:Nat},B<n->Inv (cm X scope N (l++aU X.env scope.names []) a.objs.size k { s with heap:=a,toks:=s.toks } G) ([]++tw k s5.heap) z Z s8->W (i+1) B z Z->
    ∃m,m<n/\∃i A H',Inv (cm X scope N (l++aU X.env scope.names []) a.objs.size k { s with heap:=a,toks:=s.toks } G) [] A H' s8/\tn i s8.heap/\(∀b∈k,H' b=none)/\W i m A H':=λ{Z s8 B} hm I8 w8=>by
    refine⟨B,hm,i+1,z,Z,I8.unpinned,T.keep _ _ _ st5 λb w o e=>(I8.pin (b,o) (Qr _ (Qr _ (tB w e)))).1,λb w=>?_,w8⟩;obtain⟨o,e,d⟩:=T.obj _ _ st5 b w;exact(I8.pin (b,o) (Qr _ (Qr _ (tB w e)))).2.1
   cases ok with
   | false=>
     grind
   | true=>
     rw[if_pos rfl]at q7 ⊢;refine un (az (he _ _ _ _ _ _ s7 z H7 _ I7 q7) λy s8 j=>?_);obtain⟨v,Z,I8,r8,q8⟩:=j;obtain⟨xs,e8,z8,B,hm,w8⟩:=q8;refine un (az (Ag _ s8 z Z (.ref O) [v] (.ref O) [y] (λ_ H9=>H9=upd Z O (.lst (xs++[v]))) I8 rfl (.cons r8 .nil) ⟨O,xs,v,rfl,rfl,e8,z8,rfl⟩) λ_ s9 j=>?_);obtain⟨_,H9,I9,_,q9⟩:=j;grind
 exact codeAny_compStart_list Y (T.self _ _ _ _ _ st4 Y)
def Ao(S:gB X.N X.env.scope N src scope)(M:X.calm=true)(l:PI X tg iter wi)(P:∀c C a s H,PG (cm X scope N c C a s H) tg g)(t:∀c C a s H,d4 (cm X scope N c C a s H) ifs ti)(O:∀c C a s H,PE (cm X scope N c C a s H) elt te)(hs:∀x,foldedSetIterable iter X.env x=pure x:=by intro _;rfl):PE X (.ListComp elt [⟨tg,iter,ifs,0⟩] scope pos) (Am wi src g ti te):=by
 intro w s σ H Q I h;refine wpAny_comprehension_free rfl hs (K_ λy K F=>I.ok.has y.1 (S.fr y K F)) S.kind S.names (az (l _ s σ H _ I h) λv Y r=>az r λU W j=>?_);obtain⟨V,a,Z,J,H2,e,u,T,i,G,q⟩:=j;subst e
 exact Lc S M P t O u T i G q λD C s' R m B p E k d n f z=>⟨m,p,λh' L=>⟨.ref D,R,B.turned (λb o A e=>(L.2 b A).trans e) E k (.inr d) n f,rfl,z⟩⟩
theorem Ap{M c:Pos}(S:gB X.N X.env.scope N src scope)(hc:X.calm=true)(u:PI X tg iter wi)(Z:∀f C d s H,PG (cm X scope N f C d s H) tg g)(hi:∀f C d s H,d4 (cm X scope N f C d s H) ifs ti)(Q:∀f C d s H,PE (cm X scope N f C d s H) elt te)(O:X.N.Nodup)(F:X.N[i]?=some y)(V:c9 X.env.scope y)(p:swapsWith (.ListComp elt [⟨tg,iter,ifs,0⟩] scope pos) (some (.Name y M)) c.line X.env=pure true)(G:X.fn y=true\/X.env.scope.names.lookup y=some .local:=by trivial)(hs:∀x,foldedSetIterable iter X.env x=pure x:=by intro _;rfl):PS X (.Assign [.Name y M] (.ListComp elt [⟨tg,iter,ifs,0⟩] scope pos) c) (fS (Am wi src g ti te) (lB i)):=by
 intro w s A H D I h;rw[exec_Assign_Name_used _ _ _ _ p];refine wa (wpAny_standAt (wa (wa (wz (wpAny_comprehension_free rfl hs (K_ λy F G=>I.ok.has y.1 (S.fr y F G)) S.kind S.names (az (u _ s A H _ I h) λv s1 h1=>az h1 λitv s2 B=>?_)) (λ_ s' n=>wc (wc n)) λ_ _ e=>e))));obtain⟨it,d,tn,J,H2,e,I2,T,r,U,q⟩:=B;subst e;refine Lc (Q:=λx H1=>lB i x A H1 _) S hc Z hi Q I2 T r U q λDd C s' H' m Y hm P z j k E n=>wpAny_assign_Name (Kj Y O F V (v:=.ref Dd) rfl (λs'' t K=>?_) G);obtain⟨a,W,ha⟩:=K
 have L:C≠a:=by
  grind
 exact⟨m,hm.sameBut W L,λh' l=>⟨_,H',t.turned (λb o R e=>(l.2 b R).trans e) P z (.inr j) k E,n⟩⟩
end
end L2
namespace M
open PySem PySem.Spec PyProof.Rows L2
def cn(xs:Array Nat):Prop:=xs.toList.Pairwise (·<·)
theorem Aq(f:cn xs)(j:Nat):∀(a lo b:Nat),lo<=b->b<=xs.size->b-lo<=a->
 (∀(i:Nat) (h:i<xs.size),i<lo->xs[i]<j)->(∀(i:Nat) (h:i<xs.size),b<=i->j<=xs[i])->
 SetTable.below.go xs j a lo b<=xs.size/\(∀(i:Nat) (h:i<xs.size),i<SetTable.below.go xs j a lo b->xs[i]<j)/\(∀(i:Nat) (h:i<xs.size),SetTable.below.go xs j a lo b<=i->j<=xs[i])
 | 0,lo,b,p,l,t,g,n=>by
   rw[SetTable.below.go];grind
 | a+1,lo,b,p,l,t,g,n=>by
   have m:∀(i k:Nat) (b:i<xs.size) (s:k<xs.size),i<k->xs[i]<xs[k]:=λi k b s h=>by
    have:=List.pairwise_iff_getElem.mp f i k (by grind) (by grind) h;grind
   rw[SetTable.below.go];by_cases r:lo<b
   .rw[if_pos r]
    have u:(lo+b)/2<xs.size:=by lia
    have q:xs.getD ((lo+b)/2) j=xs[(lo+b)/2]:=by simp_all
    dsimp only;rw[q];by_cases c:xs[(lo+b)/2]<j
    .rw[if_pos c]
     refine Aq f j a _ _ (by lia) l (by lia) (λi d o=>?_) n;by_cases e:i=(lo+b)/2
     .grind
     grind
    .rw[if_neg c]
     refine Aq f j a _ _ (by lia) (by lia) (by lia) g (λi d o=>?_);by_cases e:i=(lo+b)/2
     .subst e;lia
     grind
   grind
theorem Ld(l:cn xs)(j:Nat):SetTable.below xs j<=xs.size/\(∀a∈xs.toList.take (SetTable.below xs j),a<j)/\(∀a∈xs.toList.drop (SetTable.below xs j),j<=a):=by
 obtain⟨k,f,g⟩:=Aq l j xs.size 0 _ (Qh _) (qv _) (by lia) (λi _ h=>absurd h (Nat.not_lt_zero _)) (λi h n=>absurd h (by lia));have e:SetTable.below xs j=SetTable.below.go xs j _ 0 _:=rfl;refine⟨k,λa b=>?_,λa b=>?_⟩
 .obtain⟨i,d,rfl⟩:=List.mem_iff_getElem.mp b
  rw[List.length_take]at d
  have c:i<xs.size:=by lia
  rw[List.getElem_take];exact f i c (by lia)
 .obtain⟨i,d,rfl⟩:=List.mem_iff_getElem.mp b
  rw[List.length_drop]at d
  have m:xs.toList.length=xs.size:=by simp
  rw[List.getElem_drop];exact g _ (by lia) (by lia)
def Lf(xs:Array a)(p:Nat)(x:a):(SetTable.insertAt xs p x).toList=xs.toList.take p++x::xs.toList.drop p:=by
 unfold SetTable.insertAt;simp[Array.toList_extract];exact List.take_of_length_le (by simp)
theorem RZ(d:cn xs)(j:Nat)(e:xs[SetTable.below xs j]?≠some j):cn (SetTable.insertAt xs (SetTable.below xs j) j):=by
 obtain⟨n,k,f⟩:=Ld d j;unfold cn at d ⊢;rw[Lf];generalize q:SetTable.below xs j=p at n k f e ⊢;rw[<-Array.getElem?_toList]at e;generalize xs.toList=l at d k f e ⊢;rw[<-List.take_append_drop p l,List.pairwise_append]at d;obtain⟨o,h,s⟩:=d
 have m:∀a∈l.drop p,j<a:=by
  cases i:l.drop p with
  | nil=>grind
  | cons b r=>
    rw[i]at h f
    have t:l[p]?=some b:=by
     have:(l.drop p)[0]?=some b:=by rw[i];rfl
     grind
    have c:=Nat.lt_of_le_of_ne (f b qh) (λz=>e (by rw[t,z]));intro a g;rcases qu g with rfl|g
    .exact c
    .exact Nat.lt_trans c ((List.pairwise_cons.mp h).1 a g)
 rw[List.pairwise_append]
 simp_all
theorem R0{t:SetTable}(h:∀i,t.slot j≠.live i):t.place[SetTable.below t.place j]?≠some j:=λz=>by
 refine h (SetTable.below t.place j) ?_;unfold SetTable.slot;grind
theorem Ar:∀(a:Nat) (p:SetTable.Probe) {j:Nat}{d:AL},(∀x,p.dummy=some x->∀i,t.slot x≠.live i)->
 SetTable.probe.go t g h a p=some (.empty j d)->∀i,t.slot (d.getD j)≠.live i
 | 0,p,j,d,_,e=>by cases e
 | a+1,p,j,d,f,e=>by
   rw[SetTable.probe.go]at e
   split at e
   .cases k:p.dummy with
    | none=>grind
    | some x=>grind
   .refine Ar a _ (λx b i=>?_) e
    have c:x=p.j:=by
     unfold SetTable.advance at b;grind
    grind
   .split at e
    .cases e
    .refine Ar a _ (λx b i=>f x ?_ i) e
     unfold SetTable.advance at b;grind
def Tab(a:Bool)(t:SetTable):Prop:=(a=false->t.led=true)/\(t.plain=true->cn t.place)
def Tab.standIn(h:Tab a t)(n:Nat):Tab a (t.standIn n):=⟨h.1,λz=>nomatch z⟩
def Tab.off(h:Tab a t):Tab a { t with plain:=false }:=⟨h.1,λz=>nomatch z⟩
def Tab.fresh:Tab a (.fresh 0 0 (!a)):=⟨λh=>by subst h;rfl,λ_=>.nil⟩
def Tab.layNew(h:Tab g t)(i:Array (Int×Value))(e:Int)(x:Value):Tab g (PySem.layNew t i e x).2.1:=by
 unfold PySem.layNew
 split
 .rename_i b l c
  dsimp only;unfold SetTable.orStandIn
  split
  .refine⟨h.1,λz=>RZ (h.2 z) b (R0 ?_)⟩
   unfold SetTable.freeSlot at c
   split at c
   .rename_i j d k
    cases c;exact Ar _ _ (λx f=>by simp[SetTable.probeStart]at f) k
   .cases c
  .exact⟨h.1,λz=>nomatch z⟩
 .exact h.standIn _
theorem As{led plain:Bool}(h:SetTable.laid mask finger moves led plain hs=some (t,o)):cn t.place/\t.led=led/\t.plain=plain:=by
 obtain⟨f,_,h⟩:=qa h;cases h;refine⟨?_,rfl,rfl⟩;rw[List.map_filterMap];refine .filterMap _ (λa b c x e y d=>?_) List.pairwise_lt_range
 simp_all
def Tab.relayAll(h:Tab c t)(f:Array (Int×Value))(n:Nat):Tab c (PySem.relayAll t f n).2.1:=by
 unfold PySem.relayAll
 split
 .rename_i j b e
  obtain⟨g,d,i⟩:=As e;dsimp only
  split
  .exact⟨λz=>by rw[d];exact h.1 z,λ_=>g⟩
  .exact h.standIn _
 .exact h.standIn _
section
variable {prog:P7}{w:World}{A:Around}{E:AA}{s:Shared}
def cL(e:Int×Value):Int:=match e.2 with
 | .int n _=>n
 | _=>0
abbrev ek(w:World):Bool:=w.params.followText "set-order"
def SetI(prog:P7)(w:World)(h:Heap)(a:Addr)(ns:AF):Prop:=
 ∃o b c t,h.get? a=some o/\o.ExactSet/\o.data=.set b c t/\ElemsOf (intKind prog w) b.toList/\b.toList.map cL=ns/\ns.Nodup/\b.size<scanBound/\t.fits b.size=true/\Tab (ek w) t
def Au(h:(intKind prog w).is k e.2=true):cL e=k:=by
 obtain⟨t,a⟩:=Value.isInt_shape h;unfold cL;rw[a]
def lI(h:ElemsOf (intKind prog w) d)(b:e∈d):∃t,e=(hashInt (cL e),.int (cL e) t):=by
 obtain⟨⟨k,a,c⟩,_⟩:=h e b;obtain⟨t,f⟩:=Value.isInt_shape a;refine⟨t,?_⟩;rw[Au a];exact Prod.ext c f
def SetI.at(x:SetI prog w h a ns)(e:∀o,h.get? a=some o->f.get? a=some o):SetI prog w f a ns:=
 let ⟨o,c,d,t,b,r⟩:=x
 ⟨o,c,d,t,e o b,r⟩
theorem SetI.len(x:SetI prog w h a ns):ns.length<scanBound:=by
 obtain⟨o,g,i,t,f,b,j,d,e,c,k,_⟩:=x;grind
def jM{h:Heap}(d:h.get? a=some o)(c:o.data=.set f e t)(b:Array (Int×Value))(t':SetTable):
 (h.update a (Obj.putSet b t')).get? a=some { o with data:=.set b (e+1) t' }:=by
 have:=wx (.putSet b t') d (by rw[putSet_of b t' c];rfl)
 rwa [putSet_of b t' c]at this
theorem Lg{g:Bool->Sem Unit}(N:∀(b:Bool) (i:Shared) (F:Unit->Shared->Prop),F () i->wpAny (mZ prog w) A (g b) F E i)(G:s.heap.get? a=some o)(n:o.ExactSet)(H:o.data=.set P O t)(f:ElemsOf (intKind prog w) c.toList)(k:(c.toList.map cL).Perm J)(u:J.Nodup)(p:c.size<scanBound)(D:d.fits c.size=true)(v:Tab (ek w) d)(h:∀Q x,Heap.SameBut a s.heap Q->SetI prog w Q a x->x.Perm J->R (some true) { s with heap:=Q }):
  wpAny (mZ prog w) A (do
   storeSet a c d
   if (!m&&d.tooFull)=true then do
       g (relayAll d c (SetTable.grown c.size)).2.2
       storeSet a (relayAll d c (SetTable.grown c.size)).1 (relayAll d c (SetTable.grown c.size)).2.1
       pure (some true)
    else pure (some true)) R E s:=by
  refine wa (wpAny_storeSet_of G H ?_ (fits_of_scanBound p));have l:=jM G H c d;have j:=wv s.heap a (.putSet c d)
  split
  .have B:=relayAll_perm d c (SetTable.grown c.size)
   have q:=relayAll_fits d c (SetTable.grown c.size);have z:=v.relayAll c (SetTable.grown c.size);generalize M:relayAll d c _=L at B q z ⊢;obtain⟨e,I,C⟩:=L
   have K:e.size=c.size:=by rw[<-qj,B.length_eq,qj]
   have r:e.size<scanBound:=by grind
   have y:=(B.map cL).trans k;exact wa (N _ _ _ (wa (wpAny_storeSet_of l rfl (wc (h _ _ (j.trans (.update _ a _)) ⟨_,e,_,I,jM l rfl e I,n,rfl,f.perm B,rfl,y.nodup_iff.mpr u,r,q,z⟩ y)) (fits_of_scanBound r))))
  .exact wc (h _ _ j ⟨_,c,_,d,l,n,rfl,f,rfl,k.nodup_iff.mpr u,p,D,v⟩ k)
theorem Lh(hS:SetI prog w s.heap a ns)(R:ns.length+1<scanBound)(h:∀h' f,Heap.SameBut a s.heap h'->SetI prog w h' a f->f.Perm (if k∈ns then ns else ns++[k])->Q (!decide (k∈ns)) { s with heap:=h' }):
 wpAny (mZ prog w) A (setAddHashed a (.int k u) (hashInt k)) Q E s:=by
 have U:=hS;obtain⟨o,D,ep,t,M,H,K,l,y,hnd,hb,hf,ht⟩:=hS;have p:(intKind prog w).is k (.int k u)=true:=intKind_is _ _ _ _;have C:(Value.int k u).scannable=true:=rfl
 have hsz:D.size=ns.length:=by grind
 unfold setAddHashed setAddHashedIn;refine wd (wa (wh M K hf ?_));dsimp only;rw[byScan_of C hb l];simp only[↓reduceIte];unfold setAddByScan;refine wa ?_;refine wa (wpAny_rule ?_);refine wa (wpAny_setScan_of (knd:=intKind prog w) (k:=k) p M K hf l ?_)
 cases hr:List.findIdx? (λe=>(intKind prog w).is k e.2) D.toList with
 | some j=>
   dsimp only;obtain⟨hj,O,_⟩:=List.findIdx?_eq_some_iff_getElem.mp hr
   have J:k∈ns:=by
    rw[<-y,<-Au O];grind
   refine wc (wc ?_);have:=h s.heap ns (Heap.SameBut.refl a s.heap) U (by grind)
   simp_all
 | none=>
   dsimp only
   have J:k∉ns:=λJ=>by
    rw[<-y]at J;obtain⟨e,Z,T⟩:=qy J;have h1:=List.findIdx?_eq_none_iff.mp hr e Z;obtain⟨t',V⟩:=lI l Z;rw[V,T]at h1;have h2:(intKind prog w).is k (.int k t')=true:=intKind_is _ _ _ _;grind
   have S:∀(b:Bool) {i:Shared}{G:Unit->Shared->Prop},G () i->wpAny (mZ prog w) A (match b with|true=>rule "set.scan.the-table-gave-way" | false=>pure ()) G E i:=
    λb i G m=>by cases b<;>first|exact wc m|exact wpAny_rule m
   have c:=layNew_perm t D (hashInt k) (.int k u);have d:=layNew_fits t D (hashInt k) (.int k u);have g:=ht.layNew D (hashInt k) (.int k u);generalize hL:layNew t D (hashInt k) (.int k u)=L at c d g ⊢;obtain⟨z,t1,F,Y⟩:=L;dsimp only at c d g ⊢;rw[Array.toList_push]at c;have n:ElemsOf (intKind prog w) z.toList:=(l.push (knd:=intKind prog w) (k:=k) p C).perm c
   have r:z.size<scanBound:=by rw[<-qj,c.length_eq,qz,qj];simp;lia
   have I:(z.toList.map cL).Perm (ns++[k]):=by
    have:=c.map cL;rw[wt,y]at this;exact this
   have q:(ns++[k]).Nodup:=by
    grind
   have v:∀h' f,Heap.SameBut a s.heap h'->SetI prog w h' a f->f.Perm (ns++[k])->Q true { s with heap:=h' }:=by
    grind
   refine wa (S _ ?_)
   split
   .refine wa ?_
    rw[hashByValue_scannable 8 C];refine wc ?_;refine Lg ?_ M H K n I q r ?_ ?_ ?_
    .intro b i G m;cases b<;>first|exact wc m|exact wpAny_rule m
    .split
     .exact d
     .exact SetTable.fits_plain_off d
    .split
     .exact g
     .exact g.off
    .intro h' f B x N;dsimp only;exact wc (v h' f B x N)
   .refine wa (wc ?_)
    simp only[↓reduceIte];refine Lg ?_ M H K n I q r d g ?_
    .intro b i G m;cases b<;>first|exact wc m|exact wpAny_rule m
    .intro h' f B x N;dsimp only;exact wc (v h' f B x N)
end
def aR:AF->AF->AF
 | a,[]=>a
 | a,k::r=>aR (if k∈a then a else a++[k]) r
theorem Li:∀(r a b:AF),a.Perm b->(aR a r).Perm (aR b r)
 | [],_,_,h=>h
 | k::r,a,b,h=>by
   refine Li r _ _ ?_;grind
section
variable {prog:P7}{w:World}{A:Around}{R:Result->Shared->Prop}{I:Addr}{fp wr:List Addr}{G:Array GenState->Array GenState->Prop}{n:Nat}{P:Nat->Value->Prop}{St:Nat->Shared->Prop}
theorem Lj(W:WalksS prog w A.in1 I fp wr G n P St)(S:Addr)(y:S∉fp)(g:AF)(Y:g.length=n)(B:∀i v,P i v->∃t,v=.int (g.getD i 0) t)(Z:n+1<scanBound):
 ∀(k i:Nat) (s:Shared) (ns:AF),n-i=k->i<=n->St i s->ns.length<=i->SetI prog w s.heap S ns->
  (∀s' a,Moved (S::wr) G s s'->SetI prog w s'.heap S a->a.Perm (aR ns (g.drop i))->R (.ok (.ret .none)) s')->
  codeAny (mZ prog w) A (.builtin "set.update.loop" ⟨[.ref S,.ref I],[]⟩) R s:=by
 have u:S∉wr:=λh=>y (W.sub _ h);have c:∀b∈wr,b∈S::wr:=λb Z=>qg _ Z;intro k
 induction k with
 | zero=>
   intro i s ns X V f T D K
   have L:i=n:=by lia
   subst L;refine wy F.entry_set_update_loop ?_;refine wa (W.done s _ _ f λs' j=>?_);show wpAny _ A.in1 (ret Value.none) _ _ s';refine wc (K s' ns (j.mono c) (D.at λo e=>j.heap S _ u e) ?_);rw[List.drop_of_length_le (by lia),aR]
 | succ k U=>
   intro i s ns X V f T D K
   have z:i<n:=by lia
   refine wy F.entry_set_update_loop ?_;refine wa (W.item i s _ _ z f λv s' O p j=>?_);obtain⟨t,rfl⟩:=B i v O;have E:SetI prog w s'.heap S ns:=D.at λo e=>j.heap S _ u e;generalize Q:g.getD i 0=x
   have d:g.drop i=x::g.drop (i+1):=by
    rw[List.drop_eq_getElem_cons (by lia),<-Q,List.getD_eq_getElem?_getD,qr (by lia)];rfl
   refine wa (wd ?_);unfold setAdd;refine wd ?_;refine wa ((intKind prog w).pyHash (k:=x) (intKind_is _ _ _ _) ?_);refine Lh (s:={ s' with toks:=s'.toks+1 }) E (by lia) λh' a C M N=>?_
   have J:a.length<=i+1:=by
    rw[N.length_eq];grind
   refine wc ⟨jb F.plain_set_update_loop _,U (i+1) _ a (by lia) z (W.frame _ s' _ _ p (Nat.le_succ _) λb Z o e=>?_) J M λH m q r l=>?_⟩
   .rw[C.2 b (λh:b=S=>y (by grind))];exact e
   .refine K H m (Moved.trans W.gtrans ((j.mono c).then_heap (Nat.le_succ _) λb o Z e=>?_) q) r ?_
    .rw[C.2 b (λh:b=S=>Z (by grind))];exact e
    .rw[d,aR]
     exact l.trans (Li _ _ _ N)
end
section
variable {prog:P7}{w:World}{A:Around}{E:AA}{s:Shared}
def R1:isSubtype (.type "tuple") (.type "set")=pure false:=by kernel_rfl
def R3:isSubtype (.type "tuple") (.type "frozenset")=pure false:=by kernel_rfl
theorem Lk(k:TypeCalled T l h)(G:checkTypeCall T ⟨g,[]⟩=pure ())(j:entryFor table h=some H)(o:codeAny (mZ prog w) A.in1 (.call (.builtin l) ⟨.type T::g,[]⟩) (wants Q₁ E) s)(m:∀d b,Q₁ d b->b.TypeIs d T/\(∀(K:Around) (L:AA) (z:Unit->Shared->Prop),z () b->wpAny (mZ prog w) K (checkBuiltinCall h ⟨d::g,[]⟩) z L b)/\
  wpAny (mZ prog w) A.in1.in1 (H ⟨d::g,[]⟩)
   (λv s'=>match v with|.done f=>wants (λr a=>r=.none/\Q d a) E (.ok f) s'|.again C=>C.quiet=true/\codeAny (mZ prog w) A.in1 C (wants (λr a=>r=.none/\Q d a) E) s')
   (λe s'=>wants (λr a=>r=.none/\Q d a) E (.error e) s') b):
 wpAny (mZ prog w) A (call (.type T) g) Q E s:=by
 obtain⟨c,P,B⟩:=k.mro;have t:=k.made;have D:=k.sub;refine wpAny_call (codeAny_of_tree ?_);refine wc ⟨Code.quiet_builtin _ (by decide +kernel),wy F.entry_type_call ?_⟩;have R:=k.notType;have O:=k.canCreate
 repeat (any_goals (first|assumption|wp_step))
 refine codeAny_mono o λr b u=>?_
 cases r with
 | error e=>exact u
 | ok q=>
   cases q with
   | ret d=>
     obtain⟨N,y,x⟩:=m _ _ u;have I:=k.init.lookup;have J:=k.init.bind d
     repeat (any_goals (first|assumption|wp_step))
     refine codeAny_mono (codeAny_call_builtin k.init.plain j (y _ _ _ x)) λp a i=>?_
     cases p with
     | error e=>exact i
     | ok n=>
       cases n with
       | ret r=>
         obtain⟨rfl,M⟩:=i
         repeat (any_goals (first|assumption|wp_step))
       | _=>grind
   | _=>exact u.elim
abbrev cM(w:World):Obj:={ cls:=.type "set",dict:=none,data:=.set #[] 0 (.fresh 0 0 (!ek w)) }
def Ll(a:Value)(h:Q₁ (.ref (~~~s)) { s with heap:=s.heap.push (cM w) }):
 codeAny (mZ prog w) A (.call (.builtin "set.__new__") ⟨[.type "set",a],[]⟩) (wants Q₁ E) s:=by
 refine codeAny_of_tree (wa (wpAny_of_eq (F.newCall_set_1 a) (wc ⟨jb F.plain_set_new _,wy F.entry_set_new ?_⟩)));have b:=sub_set_self
 wp_walk
 refine wpAny_askSetting (wc ?_);refine wa (wpAny_alloc (wc ?_));exact wc h
theorem R4{l:Addr}{a:Array Value}{u:AF}{Q:AA}(Y:A.handled=none)(X:s.heap.IsList l a)(O:IntsAre a.toList u)(hb:a.size+1<scanBound)(h:∀(h':Heap) (tk:Nat) ns,SetI prog w h' (~~~s) ns->ns.Perm (aR [] u)->
  (∀b o,b< ~~~s->s.heap.get? b=some o->h'.get? b=some o)->Q (.ref (~~~s)) { s with heap:=h',toks:=tk }):
 wpAny (mZ prog w) A (call (.type "set") [.ref l]) Q E s:=by
 refine Lk (Q₁:=λg d=>g=.ref (~~~s)/\d={ s with heap:=s.heap.push (cM w) }) F.called_set (F.typeCall_set_1 _) F.entry_set_init (Ll _ ⟨rfl,rfl⟩) ?_;rintro g d ⟨rfl,rfl⟩;have M:(s.heap.push (cM w)).get? (~~~s)=some (cM w):=qp _ rfl
 have R:Shared.TypeIs { s with heap:=s.heap.push (cM w) } (.ref (~~~s)) "set":=⟨_,M,rfl⟩
 refine⟨R,λA' E' Q' Z=>check_set_init_1 R Z,?_⟩;obtain⟨U,m,k,T,r⟩:=X;obtain⟨P,f,C,c⟩:=U;simp only at k r;subst k;subst r;have q:(s.heap.push (cM w)).get? l=some { cls:=.type "list",dict:=f,data:=.seq a T,slots:=c }:=qe _ m;have N:=F.sub_list_set;have S:=F.sub_list_frozenset
 have hne:(Value.type "list"==Value.type "dict")=false:=by decide
 have y:(s.heap.push (cM w)).IsList l a:=⟨_,q,rfl,T,rfl⟩
 unfold Builtin.«set.__init__» noKeywords Builtin.Frozenset.updateFrom;generalize G:pyIter=PI
 wp_walk
 subst G;refine wpAny_pyIter_list y ?_;refine wa (wpAny_runValue ?_);have W:l< ~~~s:=ql m
 have D:A.in1.in1.in1.handled=none:=by simp[Y]
 have p:l≠(s.heap.push (cM w)).objs.size:=by
  rw[ww];grind
 have J:(~~~s)∉[(s.heap.push (cM w)).objs.size,l]:=by
  rw[ww];grind
 have x:u.length=a.size:=by have:=IntsAre.length O;grind
 have n:∀(i:Nat) (v:Value),a[i]?=some v->∃t,v=.int (u.getD i 0) t:=λi v hv=>
  IntsAre.int_at O i v (by grind)
 refine Lj ((Walks.list D _ l p a).toS) (~~~s) J u x n hb (a.size-0) 0 _ [] (by lia) (Qh _)
  ⟨⟨_,qp _ rfl,rfl,rfl⟩,(y.push _)⟩ (qv _) ?hS0 ?hR
 case hS0=>
  have j:((s.heap.push (cM w)).push { cls:=.type "list_iterator",data:=.fields #[.ref l,.int 0 0] }).get? (~~~s)=some (cM w):=qe _ M;exact⟨cM w,#[],0,_,j,⟨rfl,rfl,rfl⟩,rfl,λe he=>by simp at he,rfl,.nil,by decide,rfl,.fresh⟩
 case hR=>
  intro s' L z B H;obtain⟨h',g',d',K,I⟩:=s';have eg:g'=s.gens:=z.gens;have ed:d'=s.drawn:=z.drawn;have V:I=s.os:=z.os;subst eg;subst ed;subst V;show wpAny _ _ _ _ _ _;refine wc ?_;show wpAny _ _ (ret Value.none) _ _ _;refine wc ⟨rfl,h h' K L B H λb o hb e=>?_⟩;have hb1:b≠(~~~s):=qm hb
  have hb2:b≠(s.heap.push (cM w)).objs.size:=by
   rw[ww];grind
  exact z.heap b o (by grind) (qe _ (qe _ e))
theorem R5{l:Addr}{a:Array Value}{p:AF}{Q:AA}(Y:A.handled=none)(X:s.heap.IsTuple l a)(O:IntsAre a.toList p)(hb:a.size+1<scanBound)(h:∀(h':Heap) (tk:Nat) ns,SetI prog w h' (~~~s) ns->ns.Perm (aR [] p)->
  (∀b o,b< ~~~s->s.heap.get? b=some o->h'.get? b=some o)->Q (.ref (~~~s)) { s with heap:=h',toks:=tk }):
 wpAny (mZ prog w) A (call (.type "set") [.ref l]) Q E s:=by
 refine Lk (Q₁:=λj f=>j=.ref (~~~s)/\f={ s with heap:=s.heap.push (cM w) }) F.called_set (F.typeCall_set_1 _) F.entry_set_init (Ll _ ⟨rfl,rfl⟩) ?_;rintro j f ⟨rfl,rfl⟩;have N:(s.heap.push (cM w)).get? (~~~s)=some (cM w):=qp _ rfl
 have R:Shared.TypeIs { s with heap:=s.heap.push (cM w) } (.ref (~~~s)) "set":=⟨_,N,rfl⟩
 refine⟨R,λA' E' Q' Z=>check_set_init_1 R Z,?_⟩;obtain⟨U,m,k,G,x⟩:=X;obtain⟨P,g,K,c⟩:=U;simp only at k x;subst k;subst x;have d:(s.heap.push (cM w)).get? l=some { cls:=.type "tuple",dict:=g,data:=.seq a G,slots:=c }:=qe _ m;have S:=R1;have T:=R3
 have hne:(Value.type "tuple"==Value.type "dict")=false:=by decide
 have J:(s.heap.push (cM w)).IsTuple l a:=⟨_,d,rfl,G,rfl⟩
 unfold Builtin.«set.__init__» noKeywords Builtin.Frozenset.updateFrom;generalize C:pyIter=PI
 wp_walk
 subst C;refine wpAny_pyIter_tuple J ?_;refine wa (wpAny_runValue ?_);have W:l< ~~~s:=ql m
 have D:A.in1.in1.in1.handled=none:=by simp[Y]
 have r:l≠(s.heap.push (cM w)).objs.size:=by
  rw[ww];grind
 have L:(~~~s)∉[(s.heap.push (cM w)).objs.size,l]:=by
  rw[ww];grind
 have u:p.length=a.size:=by have:=IntsAre.length O;grind
 have n:∀(i:Nat) (v:Value),a[i]?=some v->∃t,v=.int (p.getD i 0) t:=λi v hv=>
  IntsAre.int_at O i v (by grind)
 refine Lj ((Walks.tuple D _ l r a).toS) (~~~s) L p u n hb (a.size-0) 0 _ [] (by lia) (Qh _)
  ⟨⟨_,qp _ rfl,rfl,rfl⟩,(⟨_,qe _ d,rfl,G,rfl⟩)⟩ (qv _) ?hS0 ?hR
 case hS0=>
  have q:((s.heap.push (cM w)).push { cls:=.type "tuple_iterator",data:=.fields #[.ref l,.int 0 0] }).get? (~~~s)=some (cM w):=qe _ N;exact⟨cM w,#[],0,_,q,⟨rfl,rfl,rfl⟩,rfl,λe he=>by simp at he,rfl,.nil,by decide,rfl,.fresh⟩
 case hR=>
  intro s' M y z H;obtain⟨h',g',d',I,B⟩:=s';have eg:g'=s.gens:=y.gens;have ed:d'=s.drawn:=y.drawn;have V:B=s.os:=y.os;subst eg;subst ed;subst V;show wpAny _ _ _ _ _ _;refine wc ?_;show wpAny _ _ (ret Value.none) _ _ _;refine wc ⟨rfl,h h' I M z H λb o hb e=>?_⟩;have hb1:b≠(~~~s):=qm hb
  have hb2:b≠(s.heap.push (cM w)).objs.size:=by
   rw[ww];grind
  exact y.heap b o (by grind) (qe _ (qe _ e))
end
theorem Av{a:Type}{l:List a}(h:i<l.length):(l[i]::l.eraseIdx i).Perm l:=by
 rw[List.eraseIdx_eq_take_drop_succ]
 have e:l=l.take i++l[i]::l.drop (i+1):=by
  simp_all
 conv=>rhs;rw[e]
 exact List.perm_middle.symm
theorem Lm(c:Nat->Nat):∀(b k:Nat) (a:List e) (f:Array e),a.length=b->(pickOrder.go c b k a f).toList.Perm (f.toList++a)
 | 0,k,a,f,h=>by
   rw[pickOrder.go]
   simp_all
 | b+1,k,a,f,h=>by
   rw[pickOrder.go];have d:c k%a.length<_:=Nat.mod_lt _ (by lia);rw[qr d];refine(Lm c b _ _ _ (by grind)).trans ?_;rw[Array.toList_push,w9];exact(Av d).append_left _
def Ln(a:Nat->Nat)(xs:Array b):(pickOrder a xs).toList.Perm xs.toList:=by
 have:=Lm a xs.size 0 xs.toList #[] (by simp);simpa [pickOrder]using this
section
variable {prog:P7}{w:World}{A:Around}{E:AA}
theorem R6(a:0<n)(h:∀i e,i<n->Q i { s with drawn:=e }):wpAny (mZ prog w) A (choose d n) Q E s:=by
 intro c p b;exact⟨by lia,h _ _ (Nat.mod_lt _ a)⟩
theorem Aw:∀(n:Nat) (xs:List c) (s:Shared) (Q:List c->Shared->Prop),xs.length=n->(∀ys f,ys.Perm xs->Q ys { s with drawn:=f })->wpAny (mZ prog w) A (drawOrder n xs) Q E s
 | 0,xs,s,Q,h,a=>by
   rw[List.length_eq_zero_iff.mp h]at a ⊢;exact wc (a [] _ .nil)
 | n+1,[],s,Q,h,a=>by simp at h
 | n+1,x::xs,s,Q,h,a=>by
   refine wa (R6 (by simp) λi f b=>?_);rw[qr b];exact wa (Aw n _ _ _ (by grind) λys d e=>wc (a _ d ((e.cons _).trans (Av b))))
end
def nK:Manifest.owners.lookup (String.ofList ['r','o','t','a','r','e','t','i','_','t','e','s'].reverse)=some Manifest.sig_set_iterator:=by kernel_rfl
theorem slot_si_next:Slot "set_iterator" "__next__" "set_iterator.__next__":=
 .of (owner:="set_iterator") (n:="__next__") (by kernel_rfl) (by decide +kernel) (by decide +kernel) (by decide +kernel)
  (by first|exact .inl (by decide +kernel)|exact .inr (by decide +kernel)) (by kernel_rfl)
def tU:entryFor table "set_iterator.__next__"=some Builtin.«set_iterator.__next__»:=entryFor_of_tree (by kernel_rfl)
def tV(a:Value):argsOk "set_iterator.__next__" ⟨[a],[]⟩:=by
 kernel_rfl
theorem Lo:Slot "set_iterator" "__iter__" "set_iterator.__iter__":=
 .of (owner:="set_iterator") (n:="__iter__") (by kernel_rfl) (by decide +kernel) (by decide +kernel) (by decide +kernel)
  (by first|exact .inl (by decide +kernel)|exact .inr (by decide +kernel)) (by kernel_rfl)
def R7(a:Value):argsOk "set_iterator.__iter__" ⟨[a],[]⟩:=by
 kernel_rfl
theorem R8:entryFor table "set_iterator.__iter__"=some Builtin.«dict_keyiterator.__iter__»:=
 entryFor_alias (id':="dict_keyiterator.__iter__") (by kernel_rfl) (by first|rfl|decide +kernel|(unfold String.splitOn)) (by decide +kernel) (by kernel_rfl)
theorem R9:entryFor table "set.__iter__"=some Builtin.«frozenset.__iter__»:=
 entryFor_alias (id':="frozenset.__iter__") (by kernel_rfl) (by first|rfl|decide +kernel|(unfold String.splitOn)) (by decide +kernel) (by kernel_rfl)
def SIt(h:Heap)(I:Addr)(first:Value)(i:Nat)(a:Addr)(n b:Nat):Prop:=∃o,h.get? I=some o/\o.cls=.type "set_iterator"/\o.data=.fields #[first,.int i 0,.ref a,.int n 0,.int b 0]
def SAt(h:Heap)(a:Addr)(b:Array (Int×Value))(c:Nat)(t:SetTable):Prop:=∃o,h.get? a=some o/\o.ExactSet/\o.data=.set b c t/\t.fits b.size=true
def SIt.at(x:SIt h I f i a n c)(e:∀o,h.get? I=some o->d.get? I=some o):SIt d I f i a n c:=let ⟨o,b,r⟩:=x;⟨o,e o b,r⟩
def SAt.at(x:SAt h a c d t)(e:∀o,h.get? a=some o->f.get? a=some o):SAt f a c d t:=let ⟨o,b,r⟩:=x;⟨o,e o b,r⟩
def SIt.typeIs{s:Shared}(x:SIt s.heap I f i a n d):s.TypeIs (.ref I) "set_iterator":=let ⟨o,b,c,_⟩:=x;⟨o,b,c⟩
section
variable {prog:P7}{w:World}{A:Around}{E:AA}{s:Shared}
def Lp(b:SIt s.heap I f i a n c)(h:Q (.ref I) s):wpAny (mZ prog w) A (pyIter (.ref I)) Q E s:=wpAny_pyIter_slot b.typeIs Lo (we Lo b.typeIs R8 (wc ⟨_,rfl,"set_iterator",_,b.typeIs,slot_si_next.lookup,h⟩) (R7 _))
theorem Ax{m i f nx:Nat}(c:SIt s.heap I (.int m 0) i a n.size f)(q:SAt s.heap a n f t)(y:∀(u:Around) (l:Option (Value×Nat)->Shared->Prop) (z:AA),l (some (x,nx)) s->wpAny (mZ prog w) u (setNext a m i f) l z s)(r:∀C,SIt C I (.int nx 0) (i+1) a n.size f->Heap.SameBut I s.heap C->Q (some x) { s with heap:=C }):wpAny (mZ prog w) A (pyNext (.ref I)) Q E s:=by
 obtain⟨o,k,v,e⟩:=id c;obtain⟨B,g,p,h,j⟩:=q;refine wa (jf (wpAny_callSpecial?_slot c.typeIs slot_si_next (we slot_si_next c.typeIs tU ?_ (tV _))));show wpAny _ _ (fieldsOf _>>=_) _ _ s;refine wa (wpAny_fieldsOf k e (wa (wpAny_setEntries_of g h j ?_)));rw[if_neg (by simp)];refine wa (y _ _ _ (wa (wpAny_setField k e (by simp) ?_)));have d:=wx (.mapFields (·.setIfInBounds 0 (rawInt nx))) k (Obj.isFreed_of_fields (je e _));have b:=je e (·.setIfInBounds 0 (rawInt nx))
 exact wa (wpAny_setField d b (by simp) (wc ⟨x,rfl,wc (r _ (⟨_,wx _ d (Obj.isFreed_of_fields (je b _)),(Obj.cls_mapFields ..).trans ((Obj.cls_mapFields ..).trans v),by
  rw[je b];simp[rawInt]⟩) ((wv ..).trans (.update ..)))⟩))
theorem Ay{j i d:Nat}(l:A.handled=none)(b:SIt s.heap I (.int j 0) i a r.size d)(v:SAt s.heap a r d t)(n:∀(q:Around) (g:Option (Value×Nat)->Shared->Prop) (u:AA),g none s->wpAny (mZ prog w) q (setNext a j i d) g u s)(p:∀z,Heap.ExtBut I s.heap z->Q none { s with heap:=z }):wpAny (mZ prog w) A (pyNext (.ref I)) Q E s:=by
 obtain⟨o,m,x,k⟩:=id b;obtain⟨y,c,h,e,f⟩:=v;refine wa (jf (wpAny_callSpecial?_slot b.typeIs slot_si_next (we slot_si_next b.typeIs tU ?_ (tV _))));show wpAny _ _ (fieldsOf _>>=_) _ _ s;refine wa (wpAny_fieldsOf m k (wa (wpAny_setEntries_of c e f ?_)));rw[if_neg (by simp)];refine wa (n _ _ _ (wa (wpAny_setField m k (by simp) (wa (wa (m:=firstArgMember _ _) (wpAny_of_eq (a:=.none) (by first|rfl|(rfl)) (wg (wa (wpAny_handled ?_)) (by size_fits))))))))
 first|rw[l]|rw[l]
 refine wa (wc (wpAny_throw ?_));exact wa (wpAny_isInstance ⟨_,qp _ rfl,rfl⟩ isSubtype_stop (wc (p _ (((wv ..).extBut.push _).push _))))
theorem R_{i j l:Nat}(b:SIt s.heap I (.ref T) i a k.size l)(v:SAt s.heap a k l t)(y:s.heap.IsTuple T F)(x:F[i]?=some (.int j tk))(u:k[j]?=some e)(r:∀D,SIt D I (.ref T) (i+1) a k.size l->Heap.SameBut I s.heap D->Q (some e.2) { s with heap:=D }):wpAny (mZ prog w) A (pyNext (.ref I)) Q E s:=by
 obtain⟨o,n,q,g⟩:=id b;obtain⟨B,c,p,f,d⟩:=v;obtain⟨z,h,_,C,m⟩:=y;refine wa (jf (wpAny_callSpecial?_slot b.typeIs slot_si_next (we slot_si_next b.typeIs tU ?_ (tV _))));show wpAny _ _ (fieldsOf _>>=_) _ _ s;refine wa (wpAny_fieldsOf n g (wa (wpAny_setEntries_of c f d ?_)));rw[if_neg (by simp)];refine wa (wpAny_seqItems h m ?_);simp [x];refine wa (wa (wh c f d ?_));dsimp only;rw[if_neg (by simp),u]
 exact wc (wa (wpAny_setField n g (by simp) (wc ⟨e.2,rfl,wc (r _ (⟨_,wx _ n (Obj.isFreed_of_fields (je g _)),(Obj.cls_mapFields ..).trans q,by
  rw[je g];simp[rawInt]⟩) (.update ..))⟩)))
theorem Sa(n:A.handled=none)(b:SIt s.heap I (.ref T) i a q.size u)(v:SAt s.heap a q u t)(p:s.heap.IsTuple T F)(x:F[i]?=none)(r:∀D,Heap.ExtBut I s.heap D->Q none { s with heap:=D }):wpAny (mZ prog w) A (pyNext (.ref I)) Q E s:=by
 obtain⟨o,l,C,c⟩:=id b;obtain⟨B,g,m,k,h⟩:=v;obtain⟨y,d,_,z,j⟩:=p;refine wa (jf (wpAny_callSpecial?_slot b.typeIs slot_si_next (we slot_si_next b.typeIs tU ?_ (tV _))));show wpAny _ _ (fieldsOf _>>=_) _ _ s;refine wa (wpAny_fieldsOf l c ?_);refine wa (wpAny_setEntries_of g k h ?_);rw[if_neg (by simp)];refine wa (wpAny_seqItems d j ?_);simp [x];refine wa (wpAny_setField l c (by simp) ?_);have f:=wx (.mapFields (·.setIfInBounds 0 (rawInt 0))) l (Obj.isFreed_of_fields (je c _));have e:=je c (·.setIfInBounds 0 (rawInt 0));refine wa (wpAny_setField f e (by simp) ?_);refine wa ?_;simp [newExc];refine wa (m:=firstArgMember _ _) (wpAny_of_eq (a:=.none) (by first|rfl|(rfl)) ?_);refine wg ?_ (by size_fits);refine wa (wpAny_handled ?_)
 first|rw[n]|rw[n]
 refine wa (wc (wpAny_throw ?_));refine wa (wpAny_isInstance ⟨_,qp _ rfl,rfl⟩ isSubtype_stop ?_);exact wc (r _ ((((wv ..).trans (.update ..)).extBut.push _).push _))
end
section
variable {prog:P7}{w:World}{A:Around}{E:AA}{s:Shared}
def jN(h:Q (ek w) s):wpAny (mZ prog w) A setsByText Q E s:=wa (wpAny_askSetting (wc h))
def Lq(n:ek w=true)(j:SAt s.heap a k g t)(h:Q (((pickOrder (w.params.setOrder a g) k)[i]?).map λe=>(e.2,l)) s):wpAny (mZ prog w) A (setNext a l i g) Q E s:=by
 obtain⟨m,c,f,d,b⟩:=j;refine wa (wh c d b (wa (jN ?_)));rw[if_pos n,if_neg (by simp)];refine wa (wa (wh c d b (wa (jN ?_))));rw[if_pos n];exact wa (wpAny_askSetting (wc (wc h)))
theorem Lr(r:ek w=false)(q:(!t.plain&&decide (b.size > 1))=false)(n:t.led=true)(o:SAt s.heap a b m t)(k:SetTable.below t.place l=i)(h:Q (match b[i]?,t.place[i]? with|some (_,x),some j=>some (x,j+1)|_,_=>none) s):wpAny (mZ prog w) A (setNext a l g m) Q E s:=by
 obtain⟨p,d,f,c,e⟩:=o;refine wa (wh d c e (wa (jN ?_)));rw[if_neg (by grind)];show wpAny _ _ (if (_&&_)=true then _ else _) _ _ _;rw[if_neg (by grind)];show wpAny _ _ ((if _ then _ else _)>>=_) _ _ _;rw[if_neg (by rw[n];simp),k];exact wc h
def g7(a:Array Nat):Nat->Nat
 | 0=>0
 | i+1=>a.getD i 0+1
theorem Ls(g:cn q)(m:i<=q.size):SetTable.below q (g7 q i)=i:=by
 obtain⟨n,l,f⟩:=Ld g _;generalize o:SetTable.below q (g7 q i)=p at n l f
 have b:∀(i k:Nat) _ (a:k<q.size),i<k->q[i]<q[k]:=λi k m a h=>by
  have:=List.pairwise_iff_getElem.mp g i k (by grind) (by grind) h;grind
 have r:∀k _,k<p->q[k]<g7 q i:=λk a d=>l _ (by
  rw[List.mem_iff_getElem]
  grind)
 have s:∀k _,p<=k->g7 q i<=q[k]:=λk a d=>f _ (by
  rw[List.mem_iff_getElem]
  exact⟨k-p,by simp;lia,by
   simp_all⟩)
 rcases Nat.lt_trichotomy p i with h|h|h
 .have a:p<q.size:=by lia
  have:=s p a (qv _)
  cases i with
  | zero=>lia
  | succ j=>
    have c:j<q.size:=by lia
    simp only[g7,Array.getD,c,dite_true]at this;by_cases e:p=j
    .subst e;exact absurd this (by simp)
    .have:=b p j a c (by lia)
     simp at *;lia
 .exact h
 .have a:i<q.size:=by lia
  have:=r i a h
  cases i with
  | zero=>simp[g7]at this
  | succ j=>
    have c:j<q.size:=by lia
    have t:=b j (j+1) c a (by lia);simp only[g7,Array.getD,dite_true]at this;simp at *;lia
def jO(a:AF)(i:Nat)(v:Value):Prop:=∃k t,a[i]?=some k/\v=.int k t
theorem Az{b:Array (Int×Value)}(a:ElemsOf (intKind prog w) b.toList)(c:e∈b.toList):∃t,e.2=.int (cL e) t:=by
 obtain⟨t,d⟩:=lI a c;grind
theorem Sb(hS:SetI prog w s.heap a ns)(hQ:∀(h':Heap) (d':Drawn) (I:Addr) (fp:List Addr) (f:AF) (St:Nat->Heap->Prop),(∀b o,s.heap.get? b=some o->h'.get? b=some o)->(~~~s)<=I->I∈fp->
  (∀b∈fp,b<h'.objs.size/\(b=a\/(~~~s)<=b))->f.Perm ns->(∀y:Around,y.handled=none->Walks prog w y I fp [I] ns.length (jO f) St)->St 0 h'->
  (∀(i:Nat) (s':Shared),St i s'.heap->s'.TypeIs (.ref I) "set_iterator")->Q (.ref I) { s with heap:=h',drawn:=d' }):
 wpAny (mZ prog w) A (pyIter (.ref a)) Q E s:=by
 obtain⟨o,d,q,t,N,T,X,V,hns,hnd,hb,J,ht⟩:=hS
 have hT:s.TypeIs (.ref a) "set":=⟨o,N,T.1⟩
 have L:ns.length=d.size:=by grind
 have hlt:a< ~~~s:=ql N
 have hsa:SAt s.heap a d q t:=⟨o,N,T,X,J⟩
 have hps:t.place.size=d.size:=by
  simp only[SetTable.fits,Qe,beq_iff_eq]at J;exact J.1
 refine wpAny_pyIter_slot hT F.slot_set_iter (we F.slot_set_iter hT R9 ?_ (F.args_set_iter_1 _));unfold Builtin.«frozenset.__iter__»;show wpAny _ _ (Builtin.Frozenset.sizeOf a>>=_) _ _ s;unfold Builtin.Frozenset.sizeOf;refine wa (wa (wpAny_setEntries_of N X J (wc ?_)));refine wa ?_;unfold setDrawn;refine wa (wh N X J ?_);dsimp only;refine wa (jN (wc ?_))
 have plain:∀(f:AF) (st:Nat->Nat) (xv:Nat->Value),f.Perm ns->st 0=0->(∀i,i<d.size->jO f i (xv i))->
  (∀(s':Shared) (y:Around) (i:Nat) (n:AA),SAt s'.heap a d q t->i<d.size->∀l:Option (Value×Nat)->Shared->Prop,l (some (xv i,st (i+1))) s'->wpAny (mZ prog w) y (setNext a (st i) i q) l n s')->
  (∀(s':Shared) (y:Around) (n:AA),SAt s'.heap a d q t->∀l:Option (Value×Nat)->Shared->Prop,l none s'->wpAny (mZ prog w) y (setNext a (st d.size) d.size q) l n s')->
  wpAny (mZ prog w) A.in1 (do
   let x <-newFields "set_iterator" [rawInt 0,rawInt 0,.ref a,rawInt d.size,rawInt (<-setEpoch a)]
   ret x) (λO s'=>∃v,O=.done (.ret v)/\∃T' r,s'.TypeIs v T'/\typeLookup (.type T') "__next__"=pure (some r)/\Q v s') E s:=by
  intro f st xv hp h0 hx p hn;refine wa (wpAny_setEpoch_of N X J ?_);refine wa (wg ?_);refine wc ⟨_,rfl,"set_iterator",_,⟨_,qp _ rfl,rfl⟩,slot_si_next.lookup,?_⟩
  have key:=hQ (s.heap.push { cls:=.type "set_iterator",data:=.fields #[rawInt 0,rawInt 0,.ref a,rawInt d.size,rawInt q] }) s.drawn (~~~s) [~~~s,a] f
   (λi h=>SIt h (~~~s) (.int (st i) 0) i a d.size q/\SAt h a d q t) (λb o e=>qe _ e) (qv _) (by simp) (λb hb=>by
    rw[ww]
    grind) hp (λy U=>{
    sub:=λb hb=>by grind
    frame:=λi h h' c Y=>⟨c.1.at λo e=>Y _ (by simp) o e,c.2.at λo e=>Y a (by simp) o e⟩
    item:=λi s' l n hlt' c g=>by
     refine Ax c.1 c.2 (x:=xv i) (nx:=st (i+1)) (λA2 Q2 E2 G=>p s' A2 i E2 c.2 (by lia) Q2 G) λh' D m=>?_;exact g _ h' s'.toks (hx i (by lia)) ⟨D,c.2.at λo e=>m.extBut a o (λz=>by grind) e⟩ λb o hb e=>m.extBut b o (λz=>hb (by simp[z])) e
    done:=λs' l n c g=>by
     rw[L]at c;exact Ay U c.1 c.2 (λA2 Q2 E2 G=>hn s' A2 E2 c.2 Q2 G) λh' R=>g h' s'.toks λb o hb e=>R b o (λz=>hb (by simp[z])) e
    self:=λi s' l n c g=>Lp c.1 g }) ⟨⟨_,qp _ rfl,rfl,by rw[h0];rfl⟩,hsa.at λo e=>qe _ e⟩ (λi s' c=>c.1.typeIs)
  exact key
 have hdr:∀b:Bool,(!t.plain&&decide (d.size > 1))=b->wpAny (mZ prog w) A.in1 (if (!ek w&&b)=true then do
  let first <-newTuple ((<-drawOrder d.size (List.range d.size)).map fun(i:Nat)=>rawInt i)
  let x <-newFields "set_iterator" [first,rawInt 0,.ref a,rawInt d.size,rawInt (<-setEpoch a)]
  ret x
  else do
   let x <-newFields "set_iterator" [rawInt 0,rawInt 0,.ref a,rawInt d.size,rawInt (<-setEpoch a)]
   ret x) (λO s'=>∃v,O=.done (.ret v)/\∃T' r,s'.TypeIs v T'/\typeLookup (.type T') "__next__"=pure (some r)/\Q v s') E s:=by
  intro b P
  cases C:ek w with
  | true=>
    rw[if_neg (by simp)];generalize hor:pickOrder (w.params.setOrder a q) d=k
    have hpm:k.toList.Perm d.toList:=by rw[<-hor];exact Ln _ _
    have hos:k.size=d.size:=by
     have:=hpm.length_eq;grind
    refine plain (k.toList.map cL) (λ_=>0) (λi=>(k.getD i (0,.none)).2) (by grind) rfl (λi p=>?_) (λs' y i n M p l G=>?_) (λs' y n M l G=>?_)
    .have Z:i<k.size:=by lia
     obtain⟨u,hu⟩:=Az V (hpm.mem_iff.mp (show k[i]∈k.toList by simp));refine⟨cL k[i],u,by simp[Z],?_⟩
     simp_all
    .have Z:i<k.size:=by lia
     refine Lq C M ?_
     simp_all
    .refine Lq C M ?_
     grind
  | false=>
    have K:=ht.1 C
    cases b with
    | false=>
      rw[if_neg (by simp)]
      have B:cn t.place:=by
       cases hpl:t.plain with
       | true=>exact ht.2 hpl
       | false=>
         rw[hpl]at P
         have h1:t.place.toList.length<=1:=by
          grind
         unfold cn
         match t.place.toList,h1 with
         | [],_=>exact .nil
         | [x],_=>simp
      refine plain ns (g7 t.place) (λi=>(d.getD i (0,.none)).2) .rfl rfl (λi p=>?_) (λs' y i n M p l G=>?_) (λs' y n M l G=>?_)
      .obtain⟨u,hu⟩:=Az V (show d[i]∈d.toList by simp)
       refine⟨cL d[i],u,by grind,?_⟩
       simp_all
      .refine Lr C P K M (Ls B (by lia)) ?_
       have hi2:i<t.place.size:=by lia
       rw[Array.getElem?_eq_getElem p,Array.getElem?_eq_getElem hi2];simp only[Array.getD,p,hi2,dite_true,g7]at G;exact G
      .refine Lr C P K M (Ls B (by lia)) ?_
       grind
    | true=>
      rw[if_pos (by simp)];refine wa (Aw d.size (List.range d.size) s _ (by simp) λys d' hp=>?_);simp only[newTuple]
      have hyl:ys.length=d.size:=by rw[hp.length_eq];simp
      refine wa (wg ?_ (by show(ys.map fun(i:Nat)=>rawInt i).toArray.size<=sizeLine;rw[qk,qf,hyl];exact fits_of_scanBound hb));have S:((s.heap.push { cls:=.type "tuple",data:=.seq (ys.map fun(i:Nat)=>rawInt i).toArray })).get? a=some o:=qe _ N;refine wa (wpAny_setEpoch_of (s:={ s with heap:=s.heap.push { cls:=.type "tuple",data:=.seq (ys.map fun(i:Nat)=>rawInt i).toArray },drawn:=d' }) S X J ?_);refine wa (wg ?_);refine wc ⟨_,rfl,"set_iterator",_,⟨_,qp _ rfl,rfl⟩,slot_si_next.lookup,?_⟩
      have hmem:∀j∈ys,j<d.size:=λj hj=>by grind
      have hvp:(ys.map λj=>cL (d.getD j (0,.none))).Perm ns:=by
       rw[<-hns];refine(hp.map _).trans ?_
       have:(List.range d.size).map (λj=>cL (d.getD j (0,.none)))=d.toList.map cL:=by
        refine List.ext_getElem (by simp) λi h1 h2=>?_
        have p:i<d.size:=by grind
        simp[Array.getD,p]
       rw[this]
      generalize hH:s.heap.push { cls:=.type "tuple",data:=.seq (ys.map fun(i:Nat)=>rawInt i).toArray }=H at S ⊢
      have hHs:H.objs.size= ~~~s+1:=by rw[<-hH,ww]
      have hT0:H.IsTuple (~~~s) (ys.map fun(i:Nat)=>rawInt i).toArray:=⟨_,by rw[<-hH];exact qp _ rfl,rfl,_,rfl⟩
      have W:∀b o,s.heap.get? b=some o->H.get? b=some o:=λb o e=>by rw[<-hH];exact qe _ e
      have haI:a≠H.objs.size:=λz=>by grind
      have hTI:(~~~s)≠H.objs.size:=by grind
      exact hQ (H.push { cls:=.type "set_iterator",data:=.fields #[.ref (~~~s),rawInt 0,.ref a,rawInt d.size,rawInt q] }) d' H.objs.size [H.objs.size,a,~~~s] (ys.map λj=>cL (d.getD j (0,.none)))
       (λi h=>SIt h H.objs.size (.ref (~~~s)) i a d.size q/\SAt h a d q t/\h.IsTuple (~~~s) (ys.map fun(i:Nat)=>rawInt i).toArray) (λb o e=>qe _ (W b o e)) (by lia) (by simp) (λb hb=>by
        rw[ww]
        grind) hvp (λy U=>{
        sub:=λb hb=>by grind
        frame:=λi h h' c Y=>⟨c.1.at λo e=>Y _ (by simp) o e,c.2.1.at λo e=>Y a (by simp) o e,c.2.2.at λo e=>Y _ (by simp) o e⟩
        item:=λi s' l n hlt' c g=>by
         have p:i<ys.length:=by lia
         have hj:=hmem ys[i] (List.getElem_mem p);refine R_ c.1 c.2.1 c.2.2 (j:=ys[i]) (tk:=0) (e:=d[ys[i]]) (by simp[p,rawInt]) (Array.getElem?_eq_getElem hj) λh' D m=>?_;refine g _ h' s'.toks ?_ ⟨D,c.2.1.at λo e=>m.extBut a o haI e,c.2.2.at λo e=>m.extBut _ o hTI e⟩ λb o hb e=>m.extBut b o (λz=>hb (by simp[z])) e;obtain⟨u,hu⟩:=Az V (show d[ys[i]]∈d.toList by simp);exact⟨cL d[ys[i]],u,by simp[p,Array.getD,hj],hu⟩
        done:=λs' l n c g=>by
         rw[L]at c;exact Sa U c.1 c.2.1 c.2.2 (by simp[hyl]) λh' R=>g h' s'.toks λb o hb e=>R b o (λz=>hb (by simp[z])) e
        self:=λi s' l n c g=>Lp c.1 g }) ⟨⟨_,qp _ rfl,rfl,rfl⟩,⟨o,qe _ S,T,X,J⟩,hT0.push _⟩ (λi s' c=>c.1.typeIs)
 exact hdr _ rfl
end
section
inductive D where
 | non|bl (b:Bool)|int (i:Int)|str (x:Str)|tup (l:List D)|lst (l:List D)
 | scr (ns:AF)
 | dct (t:Bool) (ks vs:List D)
 | obj (c:Str) (ks:AJ) (vs:List D)
 | adr (a:Addr)
abbrev AN:=List D
mutual
def aE:D->PyData
 | .non=>.none
 | .bl b=>.bool b
 | .int i=>.int i
 | .str x=>.str x
 | .tup l=>.tuple (c_ l)
 | .lst l=>.list (c_ l)
 | .scr ns=>.list (ns.map PyData.int)
 | .dct _ _ _=>.none
 | .obj _ _ _=>.none
 | .adr _=>.none
def c_:AN->List PyData
 | []=>[]
 | d::l=>aE d::c_ l
end
def bP(d e:D):Bool:=PyData.eqv (aE d) (aE e)
def g8(l m:AN):Bool:=PyData.eqvAll (c_ l) (c_ m)
def g9:V->Option Int
 | .int i=>some i
 | .bl b=>some (if b then 1 else 0)
 | _=>none
def dR:AM->Option AF
 | []=>some []
 | x::r=>(g9 x).bind λi=>(dR r).map (i::·)
def nL(ks:AF):Int:=reduceHash (Builtin.Tuple.tupleHashOf (ks.map hashInt))
def AI(a:Addr)(b:List (List Int×Addr))(vxs:AM)(d:Nat)(h:Heap):Prop:=
 (a==sysModules)=false/\∃e o c,Vals vxs e/\h.get? a=some o/\o.ExactDict/\o.data=.dict c d/\c.toList=(b.zip e).map λp=>⟨nL p.1.1,.ref p.1.2,p.2⟩
def d5(a:Addr)(b:List (List Int×Addr))(vxs:AM)(c:Nat):HO:=.ext (AI a b vxs c)
def Dc(t:Bool)(G H:Hp)(a:Addr)(d vxs:AM):Prop:=
 (t=false/\∃c:List _,H a=some (.dK c)/\(c.map (·.1)).Nodup/\d=c.map (λp=>kV p.1)/\vxs=c.map (·.2))\/
 (t=true/\∃(b:List _) (e:Nat),H a=some (d5 a b vxs e)/\b.length=vxs.length/\(b.map (·.1)).Nodup/\d=b.map (λp=>.ref p.2)/\∀p∈b,∃f,G p.2=some (.tup f)/\dR f=some p.1)
mutual
def Rp(K:W7)(G:Hp):D->V->Prop
 | .non,v=>v=V.non
 | .bl b,v=>v=V.bl b
 | .int i,v=>v=V.int i
 | .str x,v=>v=V.str x/\PyData.strOk x=true
 | .tup l,v=>∃a xs,v=V.ref a/\G a=some (HO.tup xs)/\RpL K G l xs
 | .lst l,v=>∃a xs,v=V.ref a/\Rd G a (HO.lst xs)/\RpL K G l xs
 | .scr ns,v=>∃a,v=V.ref a/\SqL K G a (ns.map V.int)
 | .dct t ks vs,v=>∃a f vxs,v=V.ref a/\Dc t G G a f vxs/\RpL K G ks f/\RpL K G vs vxs
 | .obj c ks vs,v=>∃a C g xs,v=V.ref a/\W.nsIn K mainGlobals c=some (some (.ref C))/\G a=some (HO.ins C g (ks.zip xs))/\xs.length=ks.length/\RpL K G vs xs
 | .adr a,v=>v=V.ref a
def RpL(K:W7)(G:Hp):AN->AM->Prop
 | [],xs=>xs=[]
 | d::l,xs=>∃x r,xs=x::r/\Rp K G d x/\RpL K G l r
end
variable {K:W7}
def dI(h:Same G b)(r:Rd G a u):Rd b a u:=by
 rcases r with r|⟨o,r⟩
 .exact .inl (h _ _ r)
 .exact .inr ⟨o,h _ _ r⟩
def Dc.mono(g:Same G u)(h:∀o,H a=some o->H' a=some o)(d:Dc t G H a c vxs):Dc t u H' a c vxs:=by
 rcases d with⟨e,j,i,b⟩|⟨e,f,r,i,b,n,l,s⟩
 .exact .inl ⟨e,j,h _ i,b⟩
 .refine .inr ⟨e,f,r,h _ i,b,n,l,λp k=>?_⟩
  obtain⟨v,m,q⟩:=s p k;exact⟨v,g _ _ m,q⟩
theorem Dc.someT(d:Dc t G H a e vxs):∃o,H a=some o/\∀xs,o≠.tup xs:=by
 rcases d with⟨_,c,b,_⟩|⟨_,f,g,b,_⟩
 .grind
 .exact⟨_,b,λxs z=>by cases z⟩
theorem Dc.some(d:Dc t G H a e vxs):∃o,H a=some o/\∀xs,o≠.lst xs:=by
 rcases d with⟨_,c,b,_⟩|⟨_,f,g,b,_⟩
 .grind
 .exact⟨_,b,λxs z=>by cases z⟩
mutual
theorem Rp.mono{G G':Hp}(h:Same G G'):∀{d:D}{v:V},Rp K G d v->Rp K G' d v
 | .non,_,r=>r
 | .bl _,_,r=>r
 | .int _,_,r=>r
 | .str _,_,r=>r
 | .tup l,_,r=>by
   obtain⟨a,xs,e,g,q⟩:=r;exact⟨a,xs,e,h _ _ g,RpL.mono h q⟩
 | .lst l,_,r=>by
   obtain⟨a,xs,e,g,q⟩:=r;exact⟨a,xs,e,dI h g,RpL.mono h q⟩
 | .scr ns,_,r=>by
   obtain⟨a,e,g⟩:=r;exact⟨a,e,h.seq g⟩
 | .dct t ks vs,_,r=>by
   obtain⟨a,b,vxs,e,g,j,f⟩:=r;exact⟨a,b,vxs,e,g.mono h λo=>h _ o,RpL.mono h j,RpL.mono h f⟩
 | .obj c ks vs,_,r=>by
   obtain⟨a,C,i,xs,e,n,g,l,q⟩:=r;exact⟨a,C,i,xs,e,n,h _ _ g,l,RpL.mono h q⟩
 | .adr _,_,r=>r
theorem RpL.mono{G G':Hp}(h:Same G G'):∀{l:AN}{xs:AM},RpL K G l xs->RpL K G' l xs
 | [],_,r=>r
 | d::l,_,r=>by
   obtain⟨x,xs,e,g,q⟩:=r;exact⟨x,xs,e,Rp.mono h g,RpL.mono h q⟩
end
section
variable {G:Hp}
theorem RpL.length:∀{l:AN}{xs:AM},RpL K G l xs->xs.length=l.length
 | [],_,r=>by subst r;rfl
 | d::l,_,r=>by
   obtain⟨x,xs,rfl,_,q⟩:=r;simp[RpL.length q]
theorem RpL.get:∀{l:AN}{xs:AM}{i:Nat}{d:D},RpL K G l xs->l[i]?=some d->∃x,xs[i]?=some x/\Rp K G d x
 | [],_,_,_,_,e=>by simp at e
 | d::l,_,0,_,r,e=>by
   rw[RpL]at r;grind
 | d::l,_,i+1,_,r,e=>by
   obtain⟨x,xs,rfl,g,q⟩:=r;obtain⟨y,a,b⟩:=RpL.get q (by simpa using e);grind
def RpL.nil:RpL K G [] []:=by rw[RpL]
theorem RpL.cons(h:Rp K G d x)(q:RpL K G l xs):RpL K G (d::l) (x::xs):=by rw[RpL];grind
theorem RpL.append:∀{l m:AN}{xs ys:AM},RpL K G l xs->RpL K G m ys->RpL K G (l++m) (xs++ys)
 | [],_,_,_,r,q=>by rw[RpL]at r;grind
 | d::l,m,_,ys,r,q=>by
   obtain⟨x,xs,rfl,g,r⟩:=r;exact .cons g (.append r q)
def RpL.one(h:Rp K G d x):RpL K G [d] [x]:=.cons h .nil
theorem RpL.take:∀{l:AN}{xs:AM} (n:Nat),RpL K G l xs->RpL K G (l.take n) (xs.take n)
 | _,_,0,_=>.nil
 | [],_,_+1,r=>by subst r;exact .nil
 | d::l,_,n+1,r=>by
   obtain⟨x,xs,rfl,g,r⟩:=r;exact .cons g (.take n r)
theorem RpL.drop:∀{l:AN}{xs:AM} (n:Nat),RpL K G l xs->RpL K G (l.drop n) (xs.drop n)
 | _,_,0,r=>r
 | [],_,_+1,r=>by subst r;exact .nil
 | d::l,_,n+1,r=>by
   obtain⟨x,xs,rfl,g,r⟩:=r;exact .drop n r
theorem RpL.reverse:∀{l:AN}{xs:AM},RpL K G l xs->RpL K G l.reverse xs.reverse
 | [],_,r=>by subst r;exact .nil
 | d::l,_,r=>by
   obtain⟨x,xs,rfl,g,r⟩:=r;rw[List.reverse_cons,List.reverse_cons];exact r.reverse.append (.one g)
theorem RpL.ints:∀(ns:AF),RpL K G (ns.map D.int) (ns.map V.int)
 | []=>.nil
 | n::ns=>.cons (by rw[Rp]) (.ints ns)
end
structure Gr(H G H' G':Hp):Prop where
 h:Same H H'
 g:Same G G'
 s:Same G' H'
 n:∀a,G a=none->G' a≠none->H a=none
def Gr.refl(s:Same G H):Gr H G H G:=⟨.refl _,.refl _,s,λ_ h a=>absurd h a⟩
def Gr.trans(a:Gr H G f c)(b:Gr f c d G2):Gr H G d G2:=
 ⟨a.h.trans b.h,a.g.trans b.g,b.s,λx h i=>by
  by_cases e:c x=none
  .exact a.h.free (b.n x e i)
  .exact a.n x h e⟩
theorem Gr.new(s:Same G H)(a:H p=none)(o:HO):Gr H G (upd H p o) (upd G p o):=by
 refine⟨λb u e=>?_,λb u e=>?_,λb u e=>?_,λb h c=>?_⟩
 .rwa [Yh (Yk e a)]
 .rwa [Yh (Yk e (s.free a))]
 .by_cases q:b=p
  .subst q;rwa [Yg]at e ⊢
  .rw[Yh q]at e ⊢;exact s _ _ e
 .by_cases q:b=p
  .grind
  .rw[Yh q]at c;grind
def Gr.hid(s:Same G H)(a:H p=none)(o:HO):Gr H G (upd H p o) G:=by
 refine⟨λb u e=>?_,.refl _,λb u e=>?_,λb h c=>absurd h c⟩
 .rwa [Yh (Yk e a)]
 .rw[Yh (Yk e (s.free a))];exact s _ _ e
theorem Gr.show(g:Gr H G H' d)(c:H p=none)(a:d p=none)(e:H' p=some o):Gr H G H' (upd d p o):=by
 refine⟨g.h,λb u q=>?_,λb u q=>?_,λb h f=>?_⟩
 .have:=g.g b u q
  rwa [Yh (Yk this a)]
 .by_cases z:b=p
  .subst z;rw[Yg]at q;grind
  .rw[Yh z]at q;exact g.s b u q
 .by_cases z:b=p
  .grind
  .rw[Yh z]at f;exact g.n b h f
def Ct(K:W7)(G H:Hp):D->V->Prop
 | .non,v=>v=.non
 | .bl b,v=>v=.bl b
 | .int i,v=>v=.int i
 | .str x,v=>v=.str x/\PyData.strOk x=true
 | .tup l,v=>∃a f,v=.ref a/\(H a=some (.tup f)/\G a=some (.tup f))/\RpL K G l f
 | .lst l,v=>∃a f,v=.ref a/\Rd H a (.lst f)/\RpL K G l f
 | .scr k,v=>∃a,v=.ref a/\SqL K H a (k.map .int)
 | .dct t h j,v=>∃a d g,v=.ref a/\Dc t G H a d g/\RpL K G h d/\RpL K G j g
 | .obj c h j,v=>∃a C e f,v=.ref a/\W.nsIn K mainGlobals c=some (some (.ref C))/\G a=some (.ins C e (h.zip f))/\f.length=h.length/\RpL K G j f
 | .adr a,v=>v=.ref a
def Ct.of(s:Same G H)(r:Rp K G d v):Ct K G H d v:=by
 cases d<;>rw[Rp]at r<;>rw[Ct]
 .exact r
 .exact r
 .exact r
 .exact r
 .obtain⟨a,i,e,g,q⟩:=r
  exact⟨a,i,e,⟨s _ _ g,g⟩,q⟩
 .obtain⟨a,i,e,g,q⟩:=r
  exact⟨a,i,e,dI s g,q⟩
 .obtain⟨a,e,g⟩:=r
  exact⟨a,e,s.seq g⟩
 .obtain⟨a,b,h,e,g,f,c⟩:=r
  exact⟨a,b,h,e,g.mono (.refl _) λo=>s _ o,f,c⟩
 .exact r
 .exact r
def Ct.rp(s:Same G H)(r:Ct K G H d v):Rp K H d v:=by
 cases d<;>rw[Ct]at r<;>rw[Rp]
 .exact r
 .exact r
 .exact r
 .exact r
 .obtain⟨a,i,e,g,q⟩:=r
  exact⟨a,i,e,g.1,q.mono s⟩
 .obtain⟨a,i,e,g,q⟩:=r
  exact⟨a,i,e,g,q.mono s⟩
 .exact r
 .obtain⟨a,b,j,e,g,h,c⟩:=r
  exact⟨a,b,j,e,g.mono s λ_ z=>z,h.mono s,c.mono s⟩
 .obtain⟨a,C,f,i,e,n,g,l,q⟩:=r
  exact⟨a,C,f,i,e,n,s _ _ g,l,q.mono s⟩
 .exact r
def Ct.grow(g:Gr H G H' m)(r:Ct K G H d v):Ct K m H' d v:=by
 cases d<;>rw[Ct]at r<;>rw[Ct]
 .exact r
 .exact r
 .exact r
 .exact r
 .obtain⟨a,j,e,h,q⟩:=r
  exact⟨a,j,e,⟨g.h _ _ h.1,g.g _ _ h.2⟩,q.mono g.g⟩
 .obtain⟨a,j,e,h,q⟩:=r
  exact⟨a,j,e,dI g.h h,q.mono g.g⟩
 .obtain⟨a,e,h⟩:=r
  exact⟨a,e,g.h.seq h⟩
 .obtain⟨a,b,k,e,h,i,c⟩:=r
  exact⟨a,b,k,e,h.mono g.g λo=>g.h _ o,i.mono g.g,c.mono g.g⟩
 .obtain⟨a,C,f,j,e,n,h,l,q⟩:=r
  exact⟨a,C,f,j,e,n,g.g _ _ h,l,q.mono g.g⟩
 .exact r
def jP(K:W7)(G H:Hp):AN->AM->Prop
 | [],xs=>xs=[]
 | d::l,xs=>∃x r,xs=x::r/\Ct K G H d x/\jP K G H l r
inductive B where
 | sh (d:D)|ow (l:AN)|od (t:Bool) (ks vs:AN)
abbrev AQ:=Option B
abbrev Ro:=List AQ
abbrev AV:=Ro->Option AN
abbrev AU:=Ro->Option D
abbrev AT:=Ro->Option Bool
abbrev AS:=D->Ro->Option Ro
structure SR(K:W7)(H0 G0:Hp)(σ:L2.St)(H G:Hp)(ρ:Ro):Prop where
 gr:Gr H0 G0 H G
 len:σ.length=ρ.length
 sh:∀(i:Nat) d,ρ[i]?=some (some (B.sh d))->∃v,σ[i]?=some (some v)/\Rp K G d v
 ow:∀(i:Nat) l,ρ[i]?=some (some (B.ow l))->∃a xs,σ[i]?=some (some (V.ref a))/\G a=none/\H0 a=none/\H a=some (.lst xs)/\RpL K G l xs
 ap:∀(i j:Nat) l l' a b,ρ[i]?=some (some (B.ow l))->ρ[j]?=some (some (B.ow l'))->i≠j->σ[i]?=some (some (V.ref a))->σ[j]?=some (some (V.ref b))->a≠b
 od:∀(i:Nat) t ks vs,ρ[i]?=some (some (B.od t ks vs))->∃a kxs vxs,σ[i]?=some (some (V.ref a))/\G a=none/\H0 a=none/\Dc t G H a kxs vxs/\RpL K G ks kxs/\RpL K G vs vxs
 apd:∀(i j:Nat) t ks vs t' ks' vs' a b,ρ[i]?=some (some (B.od t ks vs))->ρ[j]?=some (some (B.od t' ks' vs'))->i≠j->σ[i]?=some (some (V.ref a))->σ[j]?=some (some (V.ref b))->a≠b
section
variable {H0 G0 H G H' G':Hp}{σ:L2.St}{ρ:Ro}
def SR.mkSh(g:Gr H0 G0 H G)(e:σ.length=ρ.length)(n:∀(i:Nat) d,ρ[i]?=some (some (B.sh d))->∃v,σ[i]?=some (some v)/\Rp K G d v)(f:∀(i:Nat) l,ρ[i]?≠some (some (B.ow l)))(c:∀(i:Nat) t ks vs,ρ[i]?≠some (some (B.od t ks vs))):SR K H0 G0 σ H G ρ:=
 ⟨g,e,n,λi l h=>absurd h (f i l),λi j l o a b h=>absurd h (f i l),λi t ks vs h=>absurd h (c i t ks vs),λi j t ks vs p k m a b h=>absurd h (c i t ks vs)⟩
theorem tW(g:Gr H G H' G')(h:H a=some o)(n:G a=none):G' a=none:=by
 cases q:G' a with
 | none=>rfl
 | some o=>
   have:=g.n a n (by grind);grind
def SR.grow(s:SR K H0 G0 σ H G ρ)(g:Gr H G H' G'):SR K H0 G0 σ H' G' ρ:=by
 refine⟨s.gr.trans g,s.len,λi d e=>?_,λi l e=>?_,s.ap,λi t r q e=>?_,s.apd⟩
 .obtain⟨v,f,b⟩:=s.sh i d e
  exact⟨v,f,b.mono g.g⟩
 .obtain⟨a,u,f,b,k,c,j⟩:=s.ow i l e
  exact⟨a,u,f,tW g c b,k,g.h _ _ c,j.mono g.g⟩
 .obtain⟨a,h,p,f,b,k,c,j,m⟩:=s.od i t r q e
  obtain⟨o,n,_⟩:=c.some;exact⟨a,h,p,f,tW g n b,k,c.mono g.g λo=>g.h _ o,j.mono g.g,m.mono g.g⟩
def SR.seen(s:SR K H0 G0 σ H G ρ):Same G H:=s.gr.s
theorem Ye{a:Type}{l:List a}{x y:a}(h:(l.set i x)[j]?=some y):(j=i/\y=x/\i<l.length)\/(j≠i/\l[j]?=some y):=by grind
theorem SR.set_sh(s:SR K H0 G0 σ H G ρ)(i:Nat)(r:Rp K G d v):SR K H0 G0 (σ.set i (some v)) H G (ρ.set i (↑d)):=by
 refine⟨s.gr,by simp[s.len],λj e h=>?_,λj l h=>?_,λj k l A a b c f p n m=>?_,λj t D E h=>?_,λj k t D E I o q a b c f p n m=>?_⟩
 .rcases Ye h with⟨rfl,C,x⟩|⟨g,h⟩
  .cases C
   exact⟨v,by rw[List.getElem?_set_self (by rw[s.len];exact x)],r⟩
  .obtain⟨w,y,z⟩:=s.sh j e h
   grind
 .rcases Ye h with⟨rfl,C,x⟩|⟨g,h⟩
  .cases C
  .obtain⟨a,J,y,z⟩:=s.ow j l h
   grind
 .rcases Ye c with⟨rfl,C,_⟩|⟨g,c⟩
  .cases C
  .rcases Ye f with⟨rfl,C,_⟩|⟨u,f⟩
   .cases C
   .rw[Qp (.symm g)]at n
    rw[Qp (.symm u)]at m;exact s.ap j k l A a b c f p n m
 .rcases Ye h with⟨rfl,C,x⟩|⟨g,h⟩
  .cases C
  .obtain⟨a,B,F,y,z⟩:=s.od j t D E h
   grind
 .rcases Ye c with⟨rfl,C,_⟩|⟨g,c⟩
  .cases C
  .rcases Ye f with⟨rfl,C,_⟩|⟨u,f⟩
   .cases C
   .rw[Qp (.symm g)]at n
    rw[Qp (.symm u)]at m;exact s.apd j k t D E I o q a b c f p n m
theorem SR.set_ow(s:SR K H0 G0 σ H G ρ)(i:Nat)(g:Gr H G H' G')(E:H p=none)(I:G' p=none)(e:H' p=some (.lst xs))(r:RpL K G' l xs):SR K H0 G0 (σ.set i (some (.ref p))) H' G' (ρ.set i (some (.ow l))):=by
 have M:=s.grow g
 have L:∀(j:Nat) l a,_->σ[j]?=some (some (V.ref a))->a≠p:=λj l a d c z=>by
  obtain⟨b,T,y,_,_,J,_⟩:=s.ow j l d;grind
 refine⟨M.gr,by simp[s.len],λj e h=>?_,λj l h=>?_,λj k l F a b d c q m n=>?_,λj t N O h=>?_,λj k t N O R x v a b d c q m n=>?_⟩
 .rcases Ye h with⟨rfl,B,o⟩|⟨f,h⟩
  .cases B
  .obtain⟨w,y,C⟩:=M.sh j e h
   grind
 .rcases Ye h with⟨rfl,B,o⟩|⟨f,h⟩
  .cases B
   exact⟨p,xs,by rw[List.getElem?_set_self (by rw[s.len];exact o)],I,s.gr.h.free E,e,r⟩
  .obtain⟨a,xs,y,C⟩:=M.ow j l h
   grind
 .rcases Ye d with⟨rfl,B,o⟩|⟨f,u⟩
  .grind
  .rcases Ye c with⟨rfl,S,o⟩|⟨A,c⟩
   .grind
   .rw[Qp (Ne.symm f)]at m
    rw[Qp (Ne.symm A)]at n;exact s.ap j k l F a b u c q m n
 .rcases Ye h with⟨rfl,B,o⟩|⟨f,h⟩
  .cases B
  .obtain⟨a,D,Q,y,C⟩:=M.od j t N O h
   grind
 .rcases Ye d with⟨rfl,B,_⟩|⟨f,d⟩
  .cases B
  .rcases Ye c with⟨rfl,B,_⟩|⟨A,c⟩
   .cases B
   .rw[Qp (Ne.symm f)]at m
    rw[Qp (Ne.symm A)]at n;exact s.apd j k t N O R x v a b d c q m n
theorem SR.set_od(s:SR K H0 G0 σ H G ρ)(i:Nat)(g:Gr H G H' G')(E:H p=none)(J:G' p=none)(e:Dc t G' H' p kxs vxs)(N:RpL K G' ks kxs)(L:RpL K G' vs vxs):SR K H0 G0 (σ.set i (some (.ref p))) H' G' (ρ.set i (some (.od t ks vs))):=by
 have v:=s.grow g
 have S:∀(j:Nat) t ks vs a,_->σ[j]?=some (some (.ref a))->a≠p:=λj t ks vs a f d z=>by
  obtain⟨b,kxs,vxs,u,_,_,M,_⟩:=s.od j t ks vs f;rw[d]at u;obtain⟨o,O,_⟩:=M.some;grind
 refine⟨v.gr,by simp[s.len],λj e h=>?_,λj l h=>?_,λj k l F a b f d A r q=>?_,λj t ks vs h=>?_,λj k t ks vs I B x a b f d A r q=>?_⟩
 .rcases Ye h with⟨rfl,c,n⟩|⟨m,h⟩
  .cases c
  .obtain⟨w,u,D⟩:=v.sh j e h
   grind
 .rcases Ye h with⟨rfl,c,n⟩|⟨m,h⟩
  .cases c
  .obtain⟨a,Q,u,D⟩:=v.ow j l h
   grind
 .rcases Ye f with⟨rfl,c,_⟩|⟨m,f⟩
  .cases c
  .rcases Ye d with⟨rfl,c,_⟩|⟨y,d⟩
   .cases c
   .rw[Qp (.symm m)]at r
    rw[Qp (.symm y)]at q;exact s.ap j k l F a b f d A r q
 .rcases Ye h with⟨rfl,c,n⟩|⟨m,h⟩
  .cases c
   exact⟨p,kxs,vxs,by rw[List.getElem?_set_self (by rw[s.len];exact n)],J,s.gr.h.free E,e,N,L⟩
  .obtain⟨a,kxs,vxs,u,D⟩:=v.od j t ks vs h
   grind
 .rcases Ye f with⟨rfl,c,n⟩|⟨m,C⟩
  .grind
  .rcases Ye d with⟨rfl,R,n⟩|⟨y,d⟩
   .grind
   .rw[Qp (.symm m)]at r
    rw[Qp (.symm y)]at q;exact s.apd j k t ks vs I B x a b C d A r q
theorem SR.mut(s:SR K H0 G0 σ H G ρ)(O:ρ[i]?=some (some (B.ow l)))(E:σ[i]?=some (some (V.ref a)))(r:RpL K G P ys):SR K H0 G0 σ (upd H a (.lst ys)) G (ρ.set i (some (.ow P))):=by
 obtain⟨T,xs,N,M,L,Y,Z⟩:=s.ow i l O;rw[E]at N;cases N;refine⟨⟨λb o e=>?_,s.gr.g,λb o e=>?_,s.gr.n⟩,by simp[s.len],λj e h=>?_,λj m h=>?_,λj k m F b c d f v y J=>?_,λj t ks vs h=>?_,λj k t ks vs t' C D b c d f v y J=>?_⟩
 .rw[Yh (Yk e L)];exact s.gr.h b o e
 .rw[Yh (Yk e M)];exact s.gr.s b o e
 .rcases Ye h with⟨rfl,e1,_⟩|⟨n,h⟩
  .cases e1
  .exact s.sh j e h
 .rcases Ye h with⟨rfl,e1,_⟩|⟨n,h⟩
  .cases e1
   exact⟨a,ys,E,M,L,Yg,r⟩
  .obtain⟨b,R,p,I,x,u,w⟩:=s.ow j m h
   exact⟨b,R,p,I,x,by rw[Yh (s.ap j i m l b a h O n p E)];exact u,w⟩
 .have g:∀(j:Nat) m,(ρ.set i (some (.ow P)))[j]?=some (some (.ow m))->∃F,ρ[j]?=some (some (.ow F)):=λj m h=>by
   grind
  obtain⟨S,e1⟩:=g j m d;obtain⟨Q,e2⟩:=g k F f;exact s.ap j k S Q b c e1 e2 v y J
 .rcases Ye h with⟨rfl,e1,_⟩|⟨n,h⟩
  .cases e1
  .obtain⟨b,A,vxs,p,I,x,u,w⟩:=s.od j t ks vs h
   refine⟨b,A,vxs,p,I,x,u.mono (.refl _) λo q=>?_,w⟩;obtain⟨W,q',X⟩:=u.some;rw[Yh (λz=>by grind)];exact q
 .rcases Ye d with⟨rfl,e1,_⟩|⟨n,d⟩
  .cases e1
  .rcases Ye f with⟨rfl,e1,_⟩|⟨U,f⟩
   .cases e1
   .exact s.apd j k t ks vs t' C D b c d f v y J
theorem SR.mutd(s:SR K H0 G0 σ H G ρ)(O:ρ[i]?=some (some (B.od t ks vs)))(T:σ[i]?=some (some (V.ref a)))(d:Dc t' G (upd H a o) a kxs vxs)(r1:RpL K G n kxs)(r2:RpL K G l vxs):SR K H0 G0 σ (upd H a o) G (ρ.set i (some (.od t' n l))):=by
 obtain⟨a',N,L,M,q2,q3,q4,q5,q6⟩:=s.od i t ks vs O;rw[T]at M;cases M;obtain⟨o0,q7,nl⟩:=q4.some;refine⟨⟨λb o e=>?_,s.gr.g,λb o e=>?_,s.gr.n⟩,by simp[s.len],λj e h=>?_,λj m h=>?_,λj k m m' b c p r E D A=>?_,λj R S Q h=>?_,λj k R S Q tb kb vb b c p r E D A=>?_⟩
 .rw[Yh (Yk e q3)];exact s.gr.h b o e
 .rw[Yh (Yk e q2)];exact s.gr.s b o e
 .rcases Ye h with⟨rfl,f,_⟩|⟨x,h⟩
  .cases f
  .exact s.sh j e h
 .rcases Ye h with⟨rfl,f,_⟩|⟨x,h⟩
  .cases f
  .obtain⟨b,zs,v,C,I,F,J⟩:=s.ow j m h
   exact⟨b,zs,v,C,I,by rw[Yh (λz=>by grind)];exact F,J⟩
 .rcases Ye p with⟨rfl,f,_⟩|⟨x,p⟩
  .cases f
  .rcases Ye r with⟨rfl,f,_⟩|⟨hk,r⟩
   .cases f
   .exact s.ap j k m m' b c p r E D A
 .rcases Ye h with⟨rfl,f,_⟩|⟨x,h⟩
  .grind
  .obtain⟨b,U,vx,v,C,I,F,J⟩:=s.od j R S Q h
   exact⟨b,U,vx,v,C,I,F.mono (.refl _) λo q=>by rw[Yh (s.apd j i _ _ _ _ _ _ b a h O x v T)];exact q,J⟩
 .have g:∀(j:Nat) u w y,(ρ.set i (some (.od t' n l)))[j]?=some (some (.od u w y))->∃t3 k3 Z,ρ[j]?=some (some (.od t3 k3 Z)):=λj u w y h=>by
   grind
  obtain⟨t1,k1,Y,f⟩:=g j _ _ _ p;obtain⟨u,w,y,e2⟩:=g k _ _ _ r;exact s.apd j k t1 k1 Y u w y b c f e2 E D A
theorem SR.freezeT(s:SR K H0 G0 σ H G ρ)(I:ρ[i]?=some (some (B.ow l))):∃G',SR K H0 G0 σ H G' (ρ.set i (↑(.lst l)))/\∀b ys,G' b=some (.tup ys)->G b=some (.tup ys):=by
 obtain⟨a,xs,F,O,R,U,V⟩:=s.ow i l I
 have g:Same G (upd G a (.lst xs)):=λb o e=>by rwa [Yh (Yk e O)]
 refine⟨upd G a _,⟨⟨s.gr.h,s.gr.g.trans g,λb o e=>?_,λb h h'=>?_⟩,by simp[s.len],λj e h=>?_,λj m h=>?_,λj k m L b c d f y D E=>?_,λj t Z vs h=>?_,λj k t Z vs t' A x b c d f y D E=>?_⟩,λb ys e=>by
  by_cases z:b=a
  .subst z;rw[Yg]at e;cases e
  .rwa [Yh z]at e⟩
 .by_cases z:b=a
  .subst z;rw[Yg]at e;grind
  .rw[Yh z]at e;exact s.gr.s b o e
 .by_cases z:b=a
  .grind
  .rw[Yh z]at h';exact s.gr.n b h h'
 .rcases Ye h with⟨rfl,Y,_⟩|⟨p,h⟩
  .cases Y
   exact⟨_,F,⟨a,xs,rfl,.inl Yg,V.mono g⟩⟩
  .obtain⟨v,n,q⟩:=s.sh j e h
   exact⟨v,n,q.mono g⟩
 .rcases Ye h with⟨rfl,Y,_⟩|⟨p,h⟩
  .cases Y
  .obtain⟨b,J,n,q,C,r,w⟩:=s.ow j m h
   exact⟨b,J,n,by rwa [Yh (s.ap j i m l b a h I p n F)],C,r,w.mono g⟩
 .rcases Ye d with⟨rfl,Y,_⟩|⟨p,d⟩
  .cases Y
  .rcases Ye f with⟨rfl,Y,_⟩|⟨N,f⟩
   .cases Y
   .exact s.ap j k m L b c d f y D E
 .rcases Ye h with⟨rfl,Y,_⟩|⟨p,h⟩
  .cases Y
  .obtain⟨b,u,vxs,n,q,C,r,w,M⟩:=s.od j t Z vs h
   obtain⟨S,Q,T⟩:=r.some;exact⟨b,u,vxs,n,by rwa [Yh (λz=>by grind)],C,r.mono g λ_ z=>z,w.mono g,M.mono g⟩
 .rcases Ye d with⟨rfl,Y,_⟩|⟨p,d⟩
  .cases Y
  .rcases Ye f with⟨rfl,Y,_⟩|⟨N,f⟩
   .cases Y
   .exact s.apd j k t Z vs t' A x b c d f y D E
theorem SR.freeze(s:SR K H0 G0 σ H G ρ)(a:ρ[i]?=some (some (B.ow l))):∃G',SR K H0 G0 σ H G' (ρ.set i (↑(.lst l))):=by
 obtain⟨G',h,_⟩:=s.freezeT a;grind
theorem SR.freezedT(s:SR K H0 G0 σ H G ρ)(F:ρ[i]?=some (some (B.od t ks vs))):∃G',SR K H0 G0 σ H G' (ρ.set i (↑(.dct t ks vs)))/\∀b ys,G' b=some (.tup ys)->G b=some (.tup ys):=by
 obtain⟨a,A,vxs,J,M,X,C,O,S⟩:=s.od i t ks vs F;obtain⟨o,T,Y⟩:=C.some
 have d:Same G (upd G a o):=λb o e=>by rwa [Yh (Yk e M)]
 obtain⟨Z,V,W⟩:=C.someT
 refine⟨upd G a o,⟨⟨s.gr.h,s.gr.g.trans d,λb I e=>?_,λb h h'=>?_⟩,by simp[s.len],λj e h=>?_,λj m h=>?_,λj k m P b c f g q u E=>?_,λj t ks vs h=>?_,λj k t ks vs t' D w b c f g q u E=>?_⟩,λb ys e=>by
  by_cases z:b=a
  .subst z;rw[Yg]at e;grind
  .rwa [Yh z]at e⟩
 .by_cases z:b=a
  .subst z;rw[Yg]at e;grind
  .rw[Yh z]at e;exact s.gr.s b I e
 .by_cases z:b=a
  .grind
  .rw[Yh z]at h';exact s.gr.n b h h'
 .rcases Ye h with⟨rfl,e1,_⟩|⟨n,h⟩
  .cases e1
   refine⟨_,J,⟨a,A,vxs,rfl,C.mono d λI z=>?_,O.mono d,S.mono d⟩⟩;rw[T]at z
   rwa [Yg]
  .obtain⟨v,l,p⟩:=s.sh j e h
   exact⟨v,l,p.mono d⟩
 .rcases Ye h with⟨rfl,e1,_⟩|⟨n,h⟩
  .cases e1
  .obtain⟨b,U,l,p,x,y,r⟩:=s.ow j m h
   exact⟨b,U,l,by rwa [Yh (λz=>by grind)],x,y,r.mono d⟩
 .rcases Ye f with⟨rfl,e1,_⟩|⟨n,f⟩
  .cases e1
  .rcases Ye g with⟨rfl,e1,_⟩|⟨N,g⟩
   .cases e1
   .exact s.ap j k m P b c f g q u E
 .rcases Ye h with⟨rfl,e1,_⟩|⟨n,h⟩
  .cases e1
  .obtain⟨b,L,Q,l,p,x,y,r,R⟩:=s.od j t ks vs h
   exact⟨b,L,Q,l,by rwa [Yh (s.apd j i _ _ _ _ _ _ b a h F n l J)],x,y.mono d λ_ z=>z,r.mono d,R.mono d⟩
 .rcases Ye f with⟨rfl,e1,_⟩|⟨n,f⟩
  .cases e1
  .rcases Ye g with⟨rfl,e1,_⟩|⟨N,g⟩
   .cases e1
   .exact s.apd j k t ks vs t' D w b c f g q u E
theorem SR.freezed(s:SR K H0 G0 σ H G ρ)(a:ρ[i]?=some (some (B.od t ks vs))):∃G',SR K H0 G0 σ H G' (ρ.set i (↑(.dct t ks vs))):=by
 obtain⟨G',h,_⟩:=s.freezedT a;grind
def Le(ρ ρ':Ro):Prop:=ρ.length=ρ'.length/\∀(i:Nat) b,ρ[i]?=some (some b)->ρ'[i]?=some (some b)
def SR.le(s:SR K H0 G0 σ H G ρ')(h:Le ρ ρ'):SR K H0 G0 σ H G ρ:=
 ⟨s.gr,s.len.trans h.1.symm,λi d e=>s.sh i d (h.2 i _ e),λi l e=>s.ow i l (h.2 i _ e),λi j l g a b m n=>s.ap i j l g a b (h.2 i _ m) (h.2 j _ n),
  λi t o k e=>s.od i t o k (h.2 i _ e),λi j t o k p f c a b m n=>s.apd i j t o k p f c a b (h.2 i _ m) (h.2 j _ n)⟩
theorem SR.rebase(s:SR K H0 G0 σ H G ρ):∃p,SR K p G σ H G ρ/\∀σ' H' G' ρ',SR K p G σ' H' G' ρ'->SR K H0 G0 σ' H' G' ρ':=by
 classical
 let c:=λa=>∃(i:Nat),((∃l:AN,ρ[i]?=some (some (.ow l)))\/(∃t v u,ρ[i]?=some (some (.od t v u))))/\σ[i]?=some (some (.ref a))
 have B:∀a,c a->H0 a=none:=λa n=>by
  obtain⟨i,x,C⟩:=n;rcases x with⟨l,x⟩|⟨t,v,u,x⟩
  .obtain⟨b,A,d,_,j,_⟩:=s.ow i l x
   grind
  .obtain⟨b,f,w,d,_,j,_⟩:=s.od i t v u x
   grind
 have k:∀a,(if c a then none else H a)=none->_:=λa h=>by
  by_cases o:c a
  .exact B a o
  .rw[if_neg o]at h;exact s.gr.h.free h
 refine⟨λa=>if c a then none else H a,⟨⟨λb o e=>?_,.refl _,s.gr.s,λ_ h y=>absurd h y⟩,s.len,s.sh,λi l e=>?_,s.ap,λi t v u e=>?_,s.apd⟩,λσ' H' G' ρ' t=>⟨⟨λb o e=>?_,s.gr.g.trans t.gr.g,t.gr.s,λb h y=>?_⟩,t.len,t.sh,λi l e=>?_,t.ap,λi r v u e=>?_,t.apd⟩⟩
 .simp_all
 .obtain⟨a,A,d,g,j,m,q⟩:=s.ow i l e
  exact⟨a,A,d,g,if_pos ⟨i,.inl ⟨l,e⟩,d⟩,m,q⟩
 .obtain⟨a,f,w,d,g,j,m⟩:=s.od i t v u e
  exact⟨a,f,w,d,g,if_pos ⟨i,.inr ⟨t,v,u,e⟩,d⟩,m⟩
 .refine t.gr.h b o ?_
  have z:¬c b:=λz=>by grind
  rw[if_neg z];exact s.gr.h b o e
 .by_cases z:G b=none
  .exact k b (t.gr.n b z y)
  .exact s.gr.n b h z
 .obtain⟨a,A,d,g,j,m,q⟩:=t.ow i l e
  grind
 .obtain⟨a,f,w,d,g,j,m⟩:=t.od i r v u e
  grind
end
def tOf(K:W7)(f:AU):TE:=λh H Q=>∃c d b a G,f c=some d/\SR K b a h H G c/\∀v e g,Gr H G e g->Rp K g d v->Q v e
def tCof(K:W7)(f:AU):TE:=λh H Q=>∃e d b a G,f e=some d/\SR K b a h H G e/\∀v c g,Gr H G c g->Ct K g c d v->Q v c
def tCAof(K:W7)(f:AV):TA:=λh H Q=>∃e l b a G,f e=some l/\SR K b a h H G e/\∀g c d,Gr H G c d->jP K d c l g->Q g c
def g_(K:W7)(f:AV):TE:=λh H Q=>∃e l b a G,f e=some l/\SR K b a h H G e/\∀p g d c,Gr H G d c->H p=none->c p=none->d p=some (.lst g)->RpL K c l g->Q (.ref p) d
def tTof(K:W7)(f:AT):TT:=λg H Q=>∃d b c a G,f d=some b/\SR K c a g H G d/\∀e h,Gr H G e h->Q b e
def tAof(K:W7)(f:AV):TA:=λh H Q=>∃e l b a G,f e=some l/\SR K b a h H G e/\∀g d c,Gr H G d c->RpL K c l g->Q g d
def Wk(K:W7)(J:It)(g:Hp)(f:AN):Prop:=f.length<=sizeLine/\∀(i:Nat) a b,Same g b->Same b a->
 (∀d,f[i]?=some d->J.go i a/\∀y e,J.yld i a y e->∃c,Gr a b e c/\Rp K c d y)/\(f.length<=i->J.stop i a)
def nM(K:W7)(f:AV):TI:=λh H R=>∃c e b a G,f c=some e/\SR K b a h H G c/\∀J d g,Gr H G d g->Wk K J g e->R J d
inductive eY where
 | nx (ρ:Ro)|rt (d:D)|bk (ρ:Ro)|ct (ρ:Ro)
abbrev AR:=Ro->Option eY
def AO(K:W7)(b a:Hp)(F:dD):eY->Prop
 | .nx f=>∀c e g,SR K b a c e g f->F.nx c e
 | .rt d=>∀v e g,Gr b a e g->Rp K g d v->F.rt v e
 | .bk f=>∀c e g,SR K b a c e g f->F.bk c e
 | .ct f=>∀c e g,SR K b a c e g f->F.ct c e
def tX(K:W7)(f:AR):TS:=λF e H=>∃d c b a G,f d=some c/\SR K b a e H G d/\AO K b a F c
def Lu(K:W7)(gt:AS):TG:=λv g H Q=>∃d f e b a G,gt d f=some e/\SR K b a g H G f/\Rp K G d v/\∀c,SR K b a c H G e->Q c H
abbrev ME(X:Cx)(e:Expr)(f:AU):Prop:=PE X e (tOf X.K f)
abbrev MC(X:Cx)(e:Expr)(f:AU):Prop:=PE X e (tCof X.K f)
abbrev tZ(X:Cx)(a:AK)(f:AV):Prop:=PA X a (tCAof X.K f)
abbrev MF(X:Cx)(e:Expr)(f:AV):Prop:=PE X e (g_ X.K f)
abbrev MT(X:Cx)(e:Expr)(f:AT):Prop:=PT X e (tTof X.K f)
abbrev MA(X:Cx)(a:AK)(f:AV):Prop:=PA X a (tAof X.K f)
abbrev MI(X:Cx)(b a:Expr)(f:AV):Prop:=PI X b a (nM X.K f)
abbrev MS(X:Cx)(st:Stmt)(f:AR):Prop:=PS X st (tX X.K f)
abbrev MB(X:Cx)(a:List Stmt)(f:AR):Prop:=PSs X a (tX X.K f)
abbrev MG(X:Cx)(a:Expr)(gt:AS):Prop:=PG X a (Lu X.K gt)
section
variable {X:Cx}
def PE.imp(h:PE X e t)(i:∀σ H Q,t' σ H Q->t σ H Q):PE X e t':=λb s σ H Q I a=>h _ s σ H Q I (i σ H Q a)
def PT.imp(h:PT X e t)(i:∀σ H Q,t' σ H Q->t σ H Q):PT X e t':=λb s σ H Q I a=>h _ s σ H Q I (i σ H Q a)
def PA.imp(h:PA X c t)(i:∀σ H Q,t' σ H Q->t σ H Q):PA X c t':=λa d s σ H Q I b=>h a _ s σ H Q I (i σ H Q b)
def PS.imp{st:Stmt}(h:PS X st t)(i:∀F σ H,t' F σ H->t F σ H):PS X st t':=λb s σ H F I a=>h _ s σ H F I (i F σ H a)
def PSs.imp{st:List Stmt}(h:PSs X st t)(i:∀F σ H,t' F σ H->t F σ H):PSs X st t':=λb s σ H F I a=>h _ s σ H F I (i F σ H a)
def PI.imp(h:PI X a e t)(i:∀σ H R,t' σ H R->t σ H R):PI X a e t':=λc s σ H R I b=>h _ s σ H R I (i σ H R b)
def PG.imp(h:PG X e t)(i:∀v σ H Q,t' v σ H Q->t v σ H Q):PG X e t':=λb s σ H v u Q I r a=>h _ s σ H v u Q I r (i v σ H Q a)
variable {H0 G0 H G:Hp}{σ:L2.St}{ρ:Ro}
def tOf.at(e:f ρ=some d)(s:SR K H0 G0 σ H G ρ)(h:∀v H' a,Gr H G H' a->Rp K a d v->SR K H0 G0 σ H' a ρ->Q v H'):tOf K f σ H Q:=
 ⟨ρ,d,H0,G0,G,e,s,λv H' a g r=>h v H' a g r (s.grow g)⟩
def tCof.at(e:f ρ=some d)(s:SR K H0 G0 σ H G ρ)(h:∀v H' a,Gr H G H' a->Ct K a H' d v->SR K H0 G0 σ H' a ρ->Q v H'):tCof K f σ H Q:=
 ⟨ρ,d,H0,G0,G,e,s,λv H' a g r=>h v H' a g r (s.grow g)⟩
def tCAof.at(e:f ρ=some l)(s:SR K H0 G0 σ H G ρ)(h:∀vs H' a,Gr H G H' a->jP K a H' l vs->SR K H0 G0 σ H' a ρ->Q vs H'):tCAof K f σ H Q:=
 ⟨ρ,l,H0,G0,G,e,s,λv H' a g r=>h v H' a g r (s.grow g)⟩
def ME.mc(h:ME X e f):MC X e f:=PE.imp h λk H Q ⟨c,d,b,a,G,e,s,h⟩=>⟨c,d,b,a,G,e,s,λv i j g r=>h v i j g (.of g.s r)⟩
def tTof.at(e:f ρ=some b)(s:SR K H0 G0 σ H G ρ)(h:∀H' a,Gr H G H' a->SR K H0 G0 σ H' a ρ->Q b H'):tTof K f σ H Q:=
 ⟨ρ,b,H0,G0,G,e,s,λH' a g=>h H' a g (s.grow g)⟩
def tAof.at(e:f ρ=some l)(s:SR K H0 G0 σ H G ρ)(h:∀vs H' a,Gr H G H' a->RpL K a l vs->SR K H0 G0 σ H' a ρ->Q vs H'):tAof K f σ H Q:=
 ⟨ρ,l,H0,G0,G,e,s,λv H' a g r=>h v H' a g r (s.grow g)⟩
end
end
section
variable {K:W7}
noncomputable def b2{a:Type}(b fb:AU)(g:D->D->Option a):Ro->Option a:=λc=>(b c).bind λx=>(fb c).bind λy=>g x y
def b1{a:Type}(b:AU)(g:D->Option a):Ro->Option a:=λc=>(b c).bind g
theorem nN(h:b2 a fb g ρ=some r):∃x y,a ρ=some x/\fb ρ=some y/\g x y=some r:=by
 obtain⟨x,c,h⟩:=qa h;obtain⟨y,b,h⟩:=qa h;grind
theorem dS(h:b1 a g ρ=some r):∃x,a ρ=some x/\g x=some r:=by
 obtain⟨x,b,h⟩:=qa h;grind
def d6(K:W7)(r:R2)(g:D->D->Option D):Prop:=∀(x y:V) (b a d:D) (H G:Hp) (Q:VK),g b a=some d->Same G H->Ct K G H b x->Ct K G H a y->(∀v e c,Gr H G e c->Rp K c d v->Q v e)->r x y H Q
def el(K:W7)(r:R2)(g:D->D->Option Bool):Prop:=∀(x y:V) (c a:D) (b:Bool) (H G:Hp) (Q:VK),g c a=some b->Same G H->Ct K G H c x->Ct K G H a y->Q (.bl b) H->r x y H Q
def dJ(K:W7)(r:AM->Hp->VK->Prop)(g:AN->Option D):Prop:=∀(a:AM) (c:AN) (d:D) (H G:Hp) (Q:VK),g c=some d->Same G H->jP K G H c a->(∀v b e,Gr H G b e->Rp K e d v->Q v b)->r a H Q
def er(K:W7)(r:AM->Hp->VK->Prop)(g:AN->Option AN):Prop:=∀(c:AM) (d l:AN) (H G:Hp) (Q:VK),g d=some l->Same G H->jP K G H d c->
 (∀p e b a,Gr H G b a->H p=none->a p=none->b p=some (.lst e)->RpL K a l e->Q (.ref p) b)->r c H Q
section
variable {X:Cx}{a b c e:Expr}{es:AK}{fa fb fc f:AU}{ga:AV}{pos:Pos}
noncomputable def ab(i:Nat):AU:=λa=>match a[i]? with
 | some (some (.sh d))=>some d
 | _=>none
def da(i:Nat):AV:=λa=>match a[i]? with
 | some (some (.ow l))=>some l
 | _=>none
theorem Lv(h:ab i ρ=some d):ρ[i]?=some (some (B.sh d)):=by
 unfold ab at h;grind
theorem AY(h:da i ρ=some l):ρ[i]?=some (some (B.ow l)):=by
 unfold da at h;grind
noncomputable def aa(i:Nat):AU:=λc=>match c[i]? with
 | some (some (.sh d))=>some d
 | some (some (.ow l))=>some (.lst l)
 | some (some (.od t b a))=>some (.dct t b a)
 | _=>none
noncomputable def kD(d:D):AU:=λ_=>some d
def nO(h:PE X e t)(j:∀σ H Q,Q v H->t σ H Q)(i:∀G,Rp X.K G d v):ME X e (kD d):=
 PE.imp h λσ H Q g=>by
  obtain⟨a,b,l,k,G,e,s,h⟩:=g;cases e;exact j σ H Q (h v H G (.refl s.seen) (i G))
def nP{j}:ME X (.Constant (.int i) j pos) (kD (.int i)):=nO yn (λ_ _ _ q=>q) λ_=>by rw[Rp]
def AZ{j}:ME X (.Constant (.bool k) j pos) (kD (.bl k)):=nO yo (λ_ _ _ q=>q) λ_=>by rw[Rp]
def A0{j}:ME X (.Constant .none j pos) (kD .non):=nO yp (λ_ _ _ q=>q) λ_=>by rw[Rp]
def nQ(m:d6 K r g)(h:tOf K (b2 fa fb g) σ H Q):jD r (tCof K fa) (tCof K fb) σ H Q:=by
 obtain⟨c,d,I,J,G,e,s,h⟩:=h;obtain⟨n,C,y,k,z⟩:=nN e;exact tCof.at y s λv E F p t l=>tCof.at k l λu j B i q x=>m v u n C d j B Q z x.seen (t.grow i) q λw a b o A=>h w a b ((p.trans i).trans o) A
def A3(m:el K r g)(h:tTof K (b2 fa fb g) σ H Q):m_ (jD r (tCof K fa) (tCof K fb)) σ H Q:=by
 obtain⟨a,d,B,E,G,e,s,h⟩:=h;obtain⟨n,y,t,w,l⟩:=nN e;exact tCof.at t s λv C A o q z=>tCof.at w z λu j k i p x=>m v u n y d j k _ l x.seen (q.grow i) p ⟨d,rfl,h j k (o.trans i)⟩
def mB(f:AT):AU:=λa=>(f a).map .bl
theorem t_{f:AT}(h:mB f ρ=some d):∃b,f ρ=some b/\d=.bl b:=by
 obtain⟨b,g,i⟩:=qc h;grind
def Sd(m:el K r g)(h:tOf K (mB (b2 fa fb g)) σ H Q):jD r (tCof K fa) (tCof K fb) σ H Q:=by
 obtain⟨a,d,C,F,G,e,s,h⟩:=h;obtain⟨b,o,rfl⟩:=t_ e;obtain⟨n,z,w,x,l⟩:=nN o;exact tCof.at w s λv E B p t A=>tCof.at x A λu j k i q y=>m v u n z b j k _ l y.seen (t.grow i) q (h _ j k (p.trans i) (by rw[Rp]))
def lJ(j:bp X (binaryOp op) r)(i:d6 X.K r g)(d:MC X a fa)(c:MC X b fb):ME X (.BinOp a op b pos) (b2 fa fb g):=PE.imp (tD j d c) λ_ _ _ h=>nQ i h
def jQ(k:bp X (compareOp op) r)(i:el X.K r g)(d:MC X a fa)(e:MC X b fb)(j:behindInMarks op b=false):ME X (.Compare a [op] [b] pos) (mB (b2 fa fb g)):=PE.imp (Kx k d e j) λ_ _ _ h=>Sd i h
def eP(k:bp X (compareOp op) r)(i:el X.K r g)(d:MC X a fa)(e:MC X b fb)(j:behindInMarks op b=false):MT X (.Compare a [op] [b] pos) (b2 fa fb g):=PT.imp (zm k d e j) λ_ _ _ h=>A3 i h
def jR(j:IxR X r)(i:d6 X.K r g)(d:MC X a fa)(c:MC X b fb)(hs:jI b):ME X (.Subscript a b pos) (b2 fa fb g):=PE.imp (Aa j d c hs) λ_ _ _ h=>nQ i h
def i2(C:Int->Int->Bool)(g:Int->Int->Int):D->D->Option D
 | .int i,.int j=>if C i j=true then some (.int (g i j))else none
 | _,_=>none
def lK(g:Int->Int->Bool):D->D->Option Bool
 | .int i,.int j=>some (g i j)
 | _,_=>none
def uA(k:∀i j,n i j=true->C i j):d6 K (rI C λi j=>.int (g i j)) (i2 n g):=by
 intro x y p r d H G Q h s m o q;unfold i2 at h
 split at h
 .split at h
  .rename_i i j l
   cases h;subst m o;exact⟨i,j,rfl,rfl,k i j l,q _ H G (.refl s) (by rw[Rp])⟩
  .cases h
 .cases h
def Lx:d6 K (fT λi j=>.int (g i j)) (i2 (λ_ _=>true) g):=by
 intro x y m n d H G Q h s l k q;unfold i2 at h
 split at h
 .split at h
  .rename_i i j o
   cases h;subst l k;exact⟨i,j,rfl,rfl,q _ H G (.refl s) (by rw[Rp])⟩
  .cases h
 .cases h
def nR:el K (fT λi j=>.bl (g i j)) (lK g):=by
 intro x y m n d H G Q h s l k q;unfold lK at h
 split at h
 .rename_i i j
  cases h;subst l k;exact⟨i,j,rfl,rfl,q⟩
 .cases h
def cN:D->D->Option D:=i2 (λ_ _=>true) λi j=>i+j
def eZ:D->D->Option D:=i2 (λ_ _=>true) λi j=>i-j
def fY:D->D->Option D:=i2 (λi j=>decide (-(2^64)<i)&&decide (i<2^64)||(decide (-(2^64)<j)&&decide (j<2^64))) λi j=>i*j
def de:D->D->Option D:=i2 (λ_ j=>decide (0<j)&&decide (j<1073741824)) λi j=>i/j
def a7:D->D->Option D:=i2 (λ_ j=>decide (0<j)) λi j=>i%j
def hB:=lK λi j=>decide (i<j)
def Ly:=lK λi j=>decide (i<=j)
def A4:=lK λi j=>decide (j<i)
def A5:=lK λi j=>decide (j<=i)
mutual
def bj:D->Nat
 | .tup l=>bQ l+1
 | .lst l=>bQ l+1
 | .scr _=>1
 | .dct _ _ _=>1000
 | .obj _ _ _=>1000
 | .adr _=>1000
 | _=>0
def bQ:AN->Nat
 | []=>0
 | d::l=>max (bj d) (bQ l)
end
mutual
theorem nT:∀d:D,(aE d).depth<=bj d
 | .non=>by simp[aE,PyData.depth]
 | .bl b=>by simp[aE,PyData.depth]
 | .int b=>by simp[aE,PyData.depth]
 | .str b=>by simp[aE,PyData.depth]
 | .tup l=>by have:=A6 l;simp[aE,PyData.depth,bj];lia
 | .lst l=>by have:=A6 l;simp[aE,PyData.depth,bj];lia
 | .scr ns=>by rw[aE,PyData.depth,bj,W.ke_depthAll];grind
 | .dct _ _ _=>by simp[aE,PyData.depth]
 | .obj _ _ _=>by simp[aE,PyData.depth]
 | .adr _=>by simp[aE,PyData.depth]
theorem A6:∀l,PyData.depthAll (c_ l)<=bQ l
 | []=>by simp[c_,PyData.depthAll]
 | d::l=>by have g:=nT d;have h:=A6 l;simp[c_,PyData.depthAll,bQ];lia
end
section
variable {pins:AB}{σ:L2.St}{H:Hp}{s:Shared}
mutual
theorem hE(I:Inv X pins σ H s):∀{d:D}{v:V}{u:Value},bj d<=100->Rp X.K H d v->RelV v u->∃j,Reads s.heap u (aE d) j/\(aE d).canLay0=true
 | .non,v,u,_,r,q=>by
   subst r;cases q;exact⟨_,by exact .none,by simp[aE,PyData.canLay0]⟩
 | .bl b,v,u,_,r,q=>by
   subst r;cases q;exact⟨_,by exact .bool b,by simp[aE,PyData.canLay0]⟩
 | .int i,v,u,_,r,q=>by
   subst r;obtain⟨t,rfl⟩:=q;exact⟨_,by exact .int i t,by simp[aE,PyData.canLay0]⟩
 | .str x,v,u,_,r,q=>by
   obtain⟨rfl,G⟩:=r;obtain⟨t,rfl⟩:=q;exact⟨_,by exact .str x t,by simp[aE,PyData.canLay0,G]⟩
 | .tup l,v,u,h,r,q=>by
   obtain⟨a,xs,rfl,g,y⟩:=r;cases q
   obtain⟨_,its,p,C⟩:=(I.hok a _ g)
   obtain⟨o,w,k,n,m⟩:=C;obtain⟨j,q,z⟩:=A7 I (by simp [bj]at h;lia) y p;exact⟨_,.tuple w k m (by simpa using q),by simpa [aE,PyData.canLay0]using z⟩
 | .lst l,v,u,h,r,q=>by
   obtain⟨a,xs,rfl,g,y⟩:=r;cases q;obtain⟨its,p,pl,_⟩:=I.list (.inl g);obtain⟨o,w,k,n,m⟩:=pl.isList;obtain⟨j,q,z⟩:=A7 I (by simp [bj]at h;lia) y p;exact⟨_,.list w k m (by simpa using q),by simpa [aE,PyData.canLay0]using z⟩
 | .dct _ _ _,v,u,h,r,q=>by simp[bj]at h
 | .obj _ _ _,v,u,h,r,q=>by simp[bj]at h
 | .adr _,v,u,h,r,q=>by simp[bj]at h
 | .scr ns,v,u,_,r,q=>by
   obtain⟨a,rfl,g⟩:=r;cases q;obtain⟨its,p,pl,_⟩:=I.list g;exact⟨_,W.reads_of_ints pl.isList (tL p),by rw[aE];simp[PyData.canLay0,W.ke_canLayAll0]⟩
theorem A7(I:Inv X pins σ H s):∀{l:AN}{xs:AM}{us:AC},bQ l<=100->RpL X.K H l xs->Vals xs us->∃j,ReadsAll s.heap us (c_ l) j/\PyData.canLayAll0 (c_ l)=true
 | [],xs,us,_,r,q=>by
   subst r;cases q;exact⟨_,by exact .nil,by simp[c_,PyData.canLayAll0]⟩
 | d::l,xs,us,h,r,q=>by
   obtain⟨x,xs,rfl,J,E⟩:=r;rw[bQ]at h
   cases q with
   | cons B A=>
     obtain⟨j,w,k⟩:=hE I (by lia) J B;obtain⟨L,m,F⟩:=A7 I (by lia) E A;exact⟨_,by exact .cons w m,by simp[c_,PyData.canLayAll0,k,F]⟩
end
end
theorem lL(l:AN)(d:D):((c_ l).any λy=>PyData.eqv y (aE d))=l.any λy=>bP y d:=by
 induction l with
 | nil=>simp[c_]
 | cons e l g=>
   rw[c_,List.any_cons,g];rfl
def aI(g:Bool):D->D->Option Bool:=λd e=>if bj d<=60/\bj e<=60 then some (if g then !bP d e else bP d e)else none
def jS(K:W7)(g:Bool):R2:=λx y H Q=>∃d e,Rp K H d x/\Rp K H e y/\(bj d<=60/\bj e<=60)/\Q (.bl (if g then !bP d e else bP d e)) H
theorem nU(z:X.A.units+64<cLine):bp X (compareOp .Eq) (jS X.K false):=by
 intro b s c H x y v u Q I o i h;obtain⟨d,e,m,j,w,q⟩:=h;obtain⟨r,p,k⟩:=hE I (by lia) m o;obtain⟨n,t,l⟩:=hE I (by lia) j i;exact SeqAt.eqOverData _ X.w X.A _ s v u _ _ r n _ p t k l (by have:=nT d;grind) ⟨.bl _,H,I,rfl,q⟩
theorem nV(z:X.A.units+64<cLine):bp X (compareOp .NotEq) (jS X.K true):=by
 intro b s c H x y v u Q I o i h;obtain⟨d,e,m,j,w,q⟩:=h;obtain⟨r,p,k⟩:=hE I (by lia) m o;obtain⟨n,t,l⟩:=hE I (by lia) j i;exact SeqAt.neOverData _ X.w X.A _ s v u _ _ r n _ p t k l (by have:=nT d;grind) ⟨.bl _,H,I,rfl,q⟩
theorem uB:el K (jS K d) (aI d):=by
 intro x y i j b H G Q h s k g q;unfold aI at h
 split at h
 .cases h
  exact⟨i,j,k.rp s,g.rp s,by assumption,q⟩
 .cases h
def Yc:D->Option AN
 | .tup l=>some l
 | .lst l=>some l
 | .scr a=>some (a.map .int)
 | _=>none
def hJ(d:D)(l:AN):Bool:=l.any λy=>bP y d
def dU(g:Bool):D->D->Option Bool:=λd c=>(Yc c).bind λl=>if bQ l<=60/\bj d<=60 then some (if g then !hJ d l else hJ d l)else none
def jT(K:W7)(g:Bool):R2:=λx y H Q=>∃d c l,Rp K H d x/\Rp K H c y/\Yc c=some l/\(bQ l<=60/\bj d<=60)/\Q (.bl (if g then !hJ d l else hJ d l)) H
theorem y8{c:D}(h:Yc c=some l):c=.tup l\/c=.lst l\/∃ns,c=.scr ns/\l=ns.map D.int:=by
 cases c with
 | tup m=>cases h;grind
 | lst m=>cases h;grind
 | scr ns=>cases h;grind
 | non=>cases h
 | bl _=>cases h
 | int _=>cases h
 | str _=>cases h
 | dct _ _ _=>cases h
 | obj _ _ _=>cases h
 | adr _=>cases h
theorem A8:∀ns:AF,c_ (ns.map D.int)=ns.map PyData.int
 | []=>by simp[c_]
 | n::ns=>by simp[c_,aE,A8 ns]
theorem nW(B:X.A.units+64<cLine):bp X (compareOp .In) (jT X.K false):=by
 intro b s f H x y v u Q I t o h;obtain⟨d,c,l,p,w,n,C,q⟩:=h;obtain⟨E,m,k⟩:=hE I (by lia) p t
 have r:bj c<=61:=by
  rcases y8 n with rfl|rfl|⟨e,rfl,rfl⟩
  .rw[bj];lia
  .rw[bj];lia
  .rw[bj];lia
 obtain⟨A,j,i⟩:=hE I (by lia) w o;have z:=nT d;rcases y8 n with rfl|rfl|⟨e,rfl,rfl⟩
 .rw[aE]at j i
  exact SeqAt.in_tuple_reads j m (by simpa [PyData.canLay0]using i) k (by lia) ⟨.bl _,H,I,rfl,by rwa [lL]⟩
 .rw[aE]at j i
  exact SeqAt.in_list_reads j m (by simpa [PyData.canLay0]using i) k (by lia) ⟨.bl _,H,I,rfl,by rwa [lL]⟩
 .rw[aE,<-A8]at j i
  exact SeqAt.in_list_reads j m (by simpa [PyData.canLay0]using i) k (by lia) ⟨.bl _,H,I,rfl,by rwa [lL]⟩
theorem Se(B:X.A.units+64<cLine):bp X (compareOp .NotIn) (jT X.K true):=by
 intro b s f H x y v u Q I t o h;obtain⟨d,c,l,p,w,n,C,q⟩:=h;obtain⟨E,m,k⟩:=hE I (by lia) p t
 have r:bj c<=61:=by
  rcases y8 n with rfl|rfl|⟨e,rfl,rfl⟩
  .rw[bj];lia
  .rw[bj];lia
  .rw[bj];lia
 obtain⟨A,j,i⟩:=hE I (by lia) w o;have z:=nT d;rcases y8 n with rfl|rfl|⟨e,rfl,rfl⟩
 .rw[aE]at j i
  exact SeqAt.notIn_tuple_reads j m (by simpa [PyData.canLay0]using i) k (by lia) ⟨.bl _,H,I,rfl,by rwa [lL]⟩
 .rw[aE]at j i
  exact SeqAt.notIn_list_reads j m (by simpa [PyData.canLay0]using i) k (by lia) ⟨.bl _,H,I,rfl,by rwa [lL]⟩
 .rw[aE,<-A8]at j i
  exact SeqAt.notIn_list_reads j m (by simpa [PyData.canLay0]using i) k (by lia) ⟨.bl _,H,I,rfl,by rwa [lL]⟩
theorem A9:el K (jT K d) (dU d):=by
 intro x y i k b H G Q h s m g q;obtain⟨l,j,h⟩:=qa h
 split at h
 .cases h
  exact⟨i,k,l,m.rp s,g.rp s,j,by assumption,q⟩
 .cases h
end
end
section
variable {K:W7}
section
variable {X:Cx}{a b c e:Expr}{es:AK}{fa fb f:AU}{fc fd:AT}{ga:AV}{pos:Pos}{rest:AK}
def aQ:D->Option Bool
 | .non=>some false
 | .bl b=>some b
 | .int i=>some (i != 0)
 | .tup l=>some (!l.isEmpty)
 | .lst l=>some (!l.isEmpty)
 | .scr a=>some (!a.isEmpty)
 | .str _=>none
 | .dct _ _ _=>none
 | .obj _ _ _=>none
 | .adr _=>none
theorem A_(h:aQ d=some k)(r:Ct X.K G H d v):jG X.K v H k:=by
 cases d with
 | non=>subst r;cases h;rfl
 | bl b=>subst r;cases h;rfl
 | int i=>subst r;cases h;rfl
 | str x=>cases h
 | dct _ _ _=>cases h
 | obj _ _ _=>cases h
 | adr _=>cases h
 | tup l=>
   obtain⟨a,c,rfl,g,j⟩:=r;cases h;refine .inr (.inl ⟨c,.inl (.inl g.1),?_⟩);have:=j.length;grind
 | lst l=>
   obtain⟨a,c,rfl,g,j⟩:=r;cases h;refine .inl ⟨c,.inl g,?_⟩;have:=j.length;grind
 | scr e=>
   obtain⟨a,rfl,g⟩:=r;cases h;refine .inl ⟨_,g,?_⟩;cases e<;>simp
def b9(fc fd:AT):AT:=λa=>(fc a).bind λk=>if k=true then fd a else some false
def fZ(fc fd:AT):AT:=λa=>(fc a).bind λk=>if k=true then some true else fd a
def d7(fc:AT):AT:=λa=>(fc a).map (!·)
abbrev MW(X:Cx)(e:Expr)(f:AT):Prop:=PW X e (tTof X.K f)
def PW.imp(h:PW X e t)(i:∀σ H Q,t' σ H Q->t σ H Q):PW X e t':=λd a s σ H Q I g=>h d _ s σ H Q I (i σ H Q g)
theorem Ba(h:tTof K (b9 fc fd) σ H Q):mO (tTof K fc) (tTof K fd) σ H Q:=by
 obtain⟨a,k,p,r,G,e,s,h⟩:=h;unfold b9 at e;obtain⟨g,j,e⟩:=qa e;refine tTof.at j s λq o d l=>?_
 cases g with
 | true=>
   rw[if_pos rfl]at e ⊢;exact tTof.at e l λi m n _=>h i m (d.trans n)
 | false=>
   grind
theorem Bb(h:tTof K (fZ fc fd) σ H Q):Kl (tTof K fc) (tTof K fd) σ H Q:=by
 obtain⟨a,k,p,r,G,e,s,h⟩:=h;unfold fZ at e;obtain⟨g,j,e⟩:=qa e;refine tTof.at j s λq o d l=>?_
 cases g with
 | false=>
   rw[if_neg qi]at e ⊢;exact tTof.at e l λi m n _=>h i m (d.trans n)
 | true=>
   grind
def jU:D->Option Bool
 | .bl b=>some b
 | _=>none
def Lz(h:jU d=some k):d=.bl k:=by cases d<;>simp[jU]at h;subst h;rfl
def eu(fa fb:AU):AU:=λa=>(b1 fa jU a).bind λk=>if k=true then fb a else some (.bl false)
def hP(fa:AU):AU:=λa=>(b1 fa jU a).map λk=>.bl (!k)
def iU(fc:AT)(fa fb:AU):AU:=λa=>(fc a).bind λk=>if k=true then fa a else fb a
def jV:D->Bool
 | .non=>true
 | _=>false
def LA(r:Ct K G H d v):decide (v=V.non)=jV d:=by
 cases d with
 | non=>subst r;rfl
 | bl _=>subst r;rfl
 | int _=>subst r;rfl
 | str _=>obtain⟨rfl,_⟩:=r;rfl
 | tup _=>obtain⟨_,_,rfl,_⟩:=r;rfl
 | lst _=>obtain⟨_,_,rfl,_⟩:=r;rfl
 | scr _=>obtain⟨_,rfl,_⟩:=r;rfl
 | dct _ _ _=>obtain⟨_,_,_,rfl,_⟩:=r;rfl
 | obj _ _ _=>obtain⟨_,_,_,_,rfl,_⟩:=r;rfl
 | adr _=>subst r;rfl
def bU(g:Bool):D->D->Option Bool:=λd e=>if jV e then some (if g then !jV d else jV d)else none
def Bc:el K (λx y H Q=>y=.non/\Q (.bl (decide (x=.non))) H) (bU false):=by
 intro x y k i b H G Q h s g j q;unfold bU at h
 split at h
 .rename_i d
  cases h;cases i<;>simp[jV]at d;exact⟨j,by rwa [LA g]⟩
 .cases h
def LB:el K (λx y H Q=>y=.non/\Q (.bl (!decide (x=.non))) H) (bU true):=by
 intro x y k i b H G Q h s g j q;unfold bU at h
 split at h
 .rename_i d
  cases h;cases i<;>simp[jV]at d;exact⟨j,by rwa [LA g]⟩
 .cases h
def ao:D->D->Option D
 | c,.int i=>(Yc c).bind λl=>bE l i
 | _,_=>none
theorem Bd(r:RpL K G l xs)(h:bE l i=some d):∃x,bE xs i=some x/\Rp K G d x:=by
 unfold bE at h ⊢;rw[r.length];obtain⟨j,k,g⟩:=qa h;obtain⟨x,m,n⟩:=r.get g;grind
def Be:d6 X.K (K7 X.K) ao:=by
 intro x y u w d H G Q h s n r q;unfold ao at h
 split at h
 .rename_i c i
  obtain⟨l,t,m⟩:=qa h;subst r;rcases y8 t with rfl|rfl|⟨b,rfl,rfl⟩
  .obtain⟨p,a,rfl,g,o⟩:=n
   obtain⟨v,k,j⟩:=Bd o m;exact .inr (.inl ⟨p,a,i,v,rfl,rfl,.inl (.inl g.1),k,q v H G (.refl s) j⟩)
  .obtain⟨p,a,rfl,g,o⟩:=n
   obtain⟨v,k,j⟩:=Bd o m;exact .inl ⟨p,a,i,v,rfl,rfl,.inl g,k,q v H G (.refl s) j⟩
  .obtain⟨p,rfl,g⟩:=n
   obtain⟨v,k,j⟩:=Bd (.ints b) m;exact .inl ⟨p,_,i,v,rfl,rfl,g,k,q v H G (.refl s) j⟩
 .cases h
def LC(c:MC X a fa)(d:MC X b fb)(hs:jI b:=by intro _ _;rfl):ME X (.Subscript a b pos) (b2 fa fb ao):=jR Ac Be c d hs
def hU:D->Option Int
 | .int i=>some i
 | _=>none
def cV(f:Option AU):Ro->Option (Option Int):=λa=>match f with
 | none=>some none
 | some f=>(b1 f hU a).map some
def bN(l:AN)(lo g:Option Int):AN:=(l.drop (HT.sIx l.length 0 lo)).take (HT.sIx l.length l.length g-HT.sIx l.length 0 lo)
def e_:D->Option AN
 | .lst l=>some l
 | .scr a=>some (a.map .int)
 | _=>none
def LD(h:e_ d=some l)(r:Ct K G H d v):∃p xs,v=.ref p/\SqL K H p xs/\RpL K G l xs:=by
 cases d with
 | lst m=>
   cases h;obtain⟨p,xs,e,g,q⟩:=r;exact⟨p,xs,e,.inl g,q⟩
 | scr a=>
   cases h;obtain⟨p,e,g⟩:=r;exact⟨p,_,e,g,.ints a⟩
 | non=>cases h
 | bl _=>cases h
 | int _=>cases h
 | str _=>cases h
 | tup _=>cases h
 | dct _ _ _=>cases h
 | obj _ _ _=>cases h
 | adr _=>cases h
def uC(fa:AU)(lo d:Option AU):AV:=λa=>(b1 fa e_ a).bind λl=>(cV lo a).bind λi=>(cV d a).bind λj=>some (bN l i j)
abbrev tO(K:W7)(f:Option AU):TO:=match f with
 | none=>K4
 | some f=>ny (tCof K f)
def uD{f:Option AU}(e:cV f ρ=some i)(s:SR K q r σ H G ρ)(h:∀H' a,Gr H G H' a->SR K q r σ H' a ρ->Q i H'):tO K f σ H Q:=by
 cases f with
 | none=>
   cases e;exact h H G (.refl s.seen) s
 | some f=>
   obtain⟨k,p,rfl⟩:=qc e;obtain⟨d,n,g⟩:=dS p
   refine tCof.at n s λv l t o j m=>⟨k,?_,h l t o m⟩
   cases d<;>simp[hU]at g;subst g;exact j
def Bf:PO X none (tO X.K none):=zX
def lF(f:AV):AU:=λa=>(f a).map .lst
def MF.me(h:MF X e g):ME X e (lF g):=PE.imp h λw H Q i=>by
 obtain⟨a,d,m,u,G,e,s,h⟩:=i;obtain⟨l,t,rfl⟩:=qc e
 exact⟨a,l,m,u,G,t,s,λp f c v g k j n r=>h _ c _ (g.show k j n) (by
  refine⟨p,f,rfl,.inl Yg,r.mono λb o q=>?_⟩
  rwa [Yh (Yk q j)])⟩
def ae:AV:=λ_=>some []
def Yb(f:AU)(g:AV):AV:=λa=>(f a).bind λd=>(g a).map (d::·)
def Bg:MA X [] ae:=PA.imp fV λb H Q d=>by
 obtain⟨a,l,i,g,G,e,s,h⟩:=d;cases e;exact h [] H G (.refl s.seen) .nil
def Bh(p:ME X e f)(k:MA X es ga)(hs:starEach (e::es) X.env=(false,eval e X.env)::starEach es X.env:=by rfl):MA X (e::es) (Yb f ga):=PA.imp (fW p k hs) λc H Q g=>by
 obtain⟨a,l,w,A,G,e,s,h⟩:=g;obtain⟨d,t,e⟩:=qa e;obtain⟨y,m,rfl⟩:=qc e;exact tOf.at t s λv z x r q o=>tAof.at m o λb j u i n _=>h _ j u (r.trans i) (.cons (q.mono i.g) n)
def iV:tZ X [] ae:=PA.imp fV λb H Q d=>by
 obtain⟨a,l,i,g,G,e,s,h⟩:=d;cases e;exact h [] H G (.refl s.seen) rfl
def iW(p:MC X e f)(k:tZ X es ga)(hs:starEach (e::es) X.env=(false,eval e X.env)::starEach es X.env:=by rfl):tZ X (e::es) (Yb f ga):=PA.imp (fW p k hs) λc H Q g=>by
 obtain⟨b,l,w,A,G,e,s,h⟩:=g;obtain⟨d,t,e⟩:=qa e;obtain⟨y,m,rfl⟩:=qc e;exact tCof.at t s λv z x r q o=>tCAof.at m o λa j u i n _=>h _ j u (r.trans i) ⟨v,a,rfl,q.grow i,n⟩
def ax:Nat:=1000000
def f6(h:n<=ax):n<=sizeLine:=Qg h (by decide)
def ar(ga:AV):AU:=λa=>(ga a).bind λl=>if l.length<=ax then some (.tup l)else none
def bF(ga:AV):AV:=λa=>(ga a).bind λl=>if l.length<=ax then some l else none
theorem nX(h:MA X es ga):MF X (.List es pos) (bF ga):=PE.imp (nk h) λn H Q b=>by
 obtain⟨r,d,m,o,G,e,s,h⟩:=b;obtain⟨l,k,e⟩:=qa e
 split at e
 .cases e
  exact tAof.at k s λi q j c f g=>⟨by rw[f.length];exact f6 (by assumption),λp a=>h p i _ j (c.trans (.hid g.seen a _)) (c.h.free a) (g.seen.free a) Yg f⟩
 .cases e
def cC(ga:AV)(g:AN->Option D):AU:=λa=>(ga a).bind g
def cF(ga:AV)(g:AN->Option AN):AV:=λa=>(ga a).bind g
def nY(m:dJ K r g)(h:tOf K (cC ga g) σ H Q):tG r (tCAof K ga) σ H Q:=by
 obtain⟨f,d,w,x,G,e,s,h⟩:=h;obtain⟨l,t,n⟩:=qa e;exact tCAof.at t s λa k i u p j=>m a l d k i Q n j.seen p λv b c q o=>h v b c (u.trans q) o
def LF(m:er K r g)(h:g_ K (cF ga g) σ H Q):tG r (tCAof K ga) σ H Q:=by
 obtain⟨B,d,z,A,G,e,s,h⟩:=h;obtain⟨l,v,n⟩:=qa e;exact tCAof.at v s λa k j i t w=>m a l d k j Q n w.seen t λp b f c u x q y o=>h p b f c (i.trans u) (i.h.free x) q y o
section
variable {x:Str}{p:Pos}{id T:String}{r:AM->Hp->VK->Prop}{g:AN->Option D}{gf:AN->Option AN}
end
def cx(K:W7)(n:Nat)(g:AN->Option D):Sp:=λa H Q _=>a.length=n/\∃c d G,Same G H/\RpL K G c a/\g c=some d/\∀v b e,Gr H G b e->Rp K e d v->Q v b
theorem Bi{p:Pos}(F:FnOk X.prog X.w X.K X.mg X.base cK k g m ps (cx X.K n A))(E:Room k X.A)(z:Gl X x)(a:X.mg x=some (.ref g))(u:W.keepIn X.K (.ref g)=true)(D:Binds X.K m ps [])(L:MA X (e::es) ga)(o:cv x:=by decide)(w:starEach (e::es) X.env=(false,eval e X.env)::starEach es X.env:=by rfl)(j:(backTo pos (starEach es X.env)).any (·.1)=false:=by rfl)(R:∀ρ l,ga ρ=some l->l.length=n):ME X (.Call (.Name x p) (e::es) [] pos) (cC ga A):=
 PE.imp (zG F E z a u D .nil tQ L o w j) λM H Q i=>by
  obtain⟨ρ,d,N,O,G,e,s,h⟩:=i;obtain⟨l,t,C⟩:=qa e;refine tAof.at t s λK P B J q r=>?_;rw[w6];exact⟨by rw[q.length];grind,l,d,B,r.seen,q,C,λv b c I y=>h v b c (J.trans I) y⟩
def Sf(h:ae ρ=some l):l.length=0:=by cases h;rfl
theorem uE(i:∀ρ l,g ρ=some l->l.length=n):∀ρ l,Yb f g ρ=some l->l.length=n+1:=λρ l h=>by
 obtain⟨d,k,e⟩:=qa h;obtain⟨m,j,rfl⟩:=qc e;grind
def aV:AN->Option D
 | [c]=>(Yc c).map λl=>.int l.length
 | _=>none
def nZ{c:D}(h:Yc c=some l)(r:Ct K G H c v):∃p xs,v=.ref p/\(SqL K H p xs\/SqT K H p xs)/\RpL K G l xs:=by
 rcases y8 h with rfl|rfl|⟨a,rfl,rfl⟩
 .obtain⟨p,xs,rfl,g,d⟩:=r
  exact⟨p,xs,rfl,.inr (.inl (.inl g.1)),d⟩
 .obtain⟨p,xs,rfl,g,d⟩:=r
  exact⟨p,xs,rfl,.inl (.inl g),d⟩
 .obtain⟨p,rfl,g⟩:=r
  exact⟨p,_,rfl,.inl g,.ints a⟩
theorem lM(h:RpL K G [d] vs):∃v,vs=[v]/\Rp K G d v:=by
 obtain⟨x,r,rfl,i,g⟩:=h;rw[RpL]at g;grind
theorem eQ(h:jP K G H [d] vs):∃v,vs=[v]/\Ct K G H d v:=by
 obtain⟨x,r,rfl,i,g⟩:=h;cases (g);grind
def uF:dJ X.K (λxs H Q=>∃p ys,xs=[.ref p]/\(SqL X.K H p ys\/SqT X.K H p ys)/\Q (.int ys.length) H) aV:=by
 intro b a d H G Q h s r q
 match a,h,r with
 | [c],h,r=>
   obtain⟨l,k,rfl⟩:=qc h;obtain⟨v,rfl,g⟩:=eQ r;obtain⟨p,xs,rfl,j,i⟩:=nZ k g;exact⟨p,xs,rfl,j,q _ H G (.refl s) (by rw[Rp,i.length])⟩
def n0:AN->Option AN
 | [c]=>Yc c
 | _=>none
def Bj:er X.K (λxs H Q=>∃p ys,xs=[.ref p]/\(SqL X.K H p ys\/SqT X.K H p ys)/\∀l,H l=none->Q (.ref l) (upd H l (.lst ys))) n0:=by
 intro b a l H G Q h s r q
 match a,h,r with
 | [c],h,r=>
   obtain⟨v,rfl,j⟩:=eQ r;obtain⟨p,xs,rfl,i,g⟩:=nZ h j;exact⟨p,xs,rfl,i,λm d=>q m xs _ G (.hid s d _) d (s.free d) Yg g⟩
def a8:AN->Option D
 | [c]=>(Yc c).map .tup
 | _=>none
theorem n3:dJ X.K (λxs H Q=>∃p ys,xs=[.ref p]/\((SqL X.K H p ys/\∀l,H l=none->Q (.ref l) (upd H l (.tup ys)))\/(SqT X.K H p ys/\Q (.ref p) H))) a8:=by
 intro e b d H G Q h s r q
 match b,h,r with
 | [c],h,r=>
   obtain⟨l,n,rfl⟩:=qc h;obtain⟨v,rfl,j⟩:=eQ r;rcases y8 n with rfl|rfl|⟨a,rfl,rfl⟩
   .obtain⟨p,xs,rfl,g,k⟩:=j
    exact⟨p,xs,rfl,.inr ⟨.inl (.inl g.1),q _ H G (.refl s) (by rw[Rp];grind)⟩⟩
   .obtain⟨p,xs,rfl,g,k⟩:=j
    exact⟨p,xs,rfl,.inl ⟨.inl g,λm i=>q _ _ _ (.new s i _) (⟨m,xs,rfl,Yg,k.mono (Gr.new s i _).g⟩)⟩⟩
   .obtain⟨p,rfl,g⟩:=j
    exact⟨p,_,rfl,.inl ⟨g,λm i=>q _ _ _ (.new s i _) (⟨m,_,rfl,Yg,.ints a⟩)⟩⟩
end
end
section
variable {K:W7}
section
variable {X:Cx}{e:Expr}{f:AU}{gl:AV}{pos pos':Pos}{st:Stmt}{sts:List Stmt}{fs gs:AR}
def aw:AR:=λa=>some (.nx a)
noncomputable def ag(f g:AR):AR:=λb=>(f b).bind fun
 | .nx a=>g a
 | o=>some o
def Bm:MB X [] aw:=PSs.imp Km λF d H a=>by
 obtain⟨g,f,c,b,G,e,s,h⟩:=a;cases e;exact h d H G s
def frz1(i:Nat)(ρ:Ro):Ro:=match ρ[i]? with
 | some (some (.ow l))=>ρ.set i (↑(.lst l))
 | some (some (.od t b a))=>ρ.set i (↑(.dct t b a))
 | _=>ρ
theorem SR.frz1(s:SR K c b σ H G ρ)(i:Nat):∃d,SR K c b σ H d (M.frz1 i ρ):=by
 unfold M.frz1
 split
 .rename_i l a
  exact s.freeze a
 .rename_i t f e a
  exact s.freezed a
 grind
def frz(a:AE)(ρ:Ro):Ro:=a.foldl (λr i=>frz1 i r) ρ
theorem SR.frz:∀(a:AE) {G:Hp}{ρ:Ro},SR K c b σ H G ρ->∃d,SR K c b σ H d (M.frz a ρ)
 | [],G,_,s=>⟨G,s⟩
 | i::a,_,ρ,s=>by
   obtain⟨d,e⟩:=s.frz1 i;exact SR.frz a e
theorem SR.frz1T(s:SR K d c σ H G ρ)(i:Nat):∃e,SR K d c σ H e (M.frz1 i ρ)/\∀b ys,e b=some (.tup ys)->G b=some (.tup ys):=by
 unfold M.frz1
 split
 .rename_i l a
  exact s.freezeT a
 .rename_i t g f a
  exact s.freezedT a
 grind
theorem SR.frzT:∀(a:AE) {G:Hp}{ρ:Ro},SR K j c σ H G ρ->∃f,SR K j c σ H f (M.frz a ρ)/\∀b ys,f b=some (.tup ys)->G b=some (.tup ys)
 | [],G,_,s=>⟨G,s,λ_ _ h=>h⟩
 | i::a,_,ρ,s=>by
   obtain⟨f,m,g⟩:=s.frz1T i;obtain⟨k,l,d⟩:=SR.frzT a m;exact⟨k,l,λb ys e=>g b ys (d b ys e)⟩
def wF(a:AE)(f:AR):AR:=λb=>f (frz a b)
def aq(i:Nat)(f:AU):AR:=λa=>(f a).map λd=>.nx (a.set i (↑d))
def bb(i:Nat)(f:AV):AR:=λa=>(f a).map λl=>.nx (a.set i (some (.ow l)))
def Bn(h:tX K (aq i f) F σ H):fS (tOf K f) (lB i) F σ H:=by
 obtain⟨o,n,m,l,G,e,s,h⟩:=h;obtain⟨d,c,rfl⟩:=qc e;exact tOf.at c s λv b j k a g=>h _ b j (g.set_sh i a)
def Bo(h:tX K (bb i gl) F σ H):fS (g_ K gl) (lB i) F σ H:=by
 obtain⟨o,m,d,k,G,e,s,h⟩:=h;obtain⟨l,c,rfl⟩:=qc e;exact⟨o,l,d,k,G,c,s,λp q n f g a j b r=>h _ n f (s.set_ow i g a j b r)⟩
theorem n4(i:Nat)(a:X.N.Nodup)(g:ME X e f)(c:X.N[i]?=some x:=by rfl)(b:c9 X.env.scope x:=by trivial)(hs:swapsWith e (some (.Name x pos')) pos.line X.env=pure false:=by rfl)(d:X.fn x=true\/X.env.scope.names.lookup x=some .local:=by trivial):MS X (.Assign [.Name x pos'] e pos) (aq i f):=PS.imp (jC a c b g hs d) λ_ _ _ h=>Bn h
noncomputable def ah(f:AU):AR:=λa=>(f a).map .rt
def aT(c:AT)(f g:AR):AR:=λa=>(c a).bind λk=>if k=true then f a else g a
def jW(i:Nat)(f:AU):AR:=λc=>(ab i c).bind λx=>(f c).bind λy=>(i2 (λ_ _=>true) (λa b=>a+b) x y).map λz=>.nx (c.set i (↑z))
def cW(i:Nat)(f:AU)(g:AN->D->Option AN):AR:=λb=>(da i b).bind λl=>(f b).bind λd=>(g l d).map λa=>.nx (b.set i (some (.ow a)))
theorem n5(s:SR K k b σ H G ρ)(h:da i ρ=some l):∃a xs,σ[i]?=some (some (V.ref a))/\H a=some (.lst xs)/\RpL K G l xs/\G a=none:=by
 obtain⟨a,xs,j,g,c,d,m⟩:=s.ow i l (AY h);grind
def b_(l:AN)(d:D):Option AN:=if l.length<ax then some (l++[d])else none
def n6(l:ds.length<=sizeLine)(h:∀(i:Nat) a b,Same G' b->Same b a->(∀d,ds[i]?=some d->J.go i a/\∀y g,J.yld i a y g->g=a/\Rp K b d y)/\(ds.length<=i->J.stop i a)):Wk K J G' ds:=
 ⟨l,λi a b j c=>⟨λd k=>⟨((h i a b j c).1 d k).1,λy g q=>by
  obtain⟨rfl,r⟩:=((h i a b j c).1 d k).2 y g q
  exact⟨b,.refl c,r⟩⟩,(h i a b j c).2⟩⟩
variable {tg:Expr}
def Bp(K:W7)(c:TE):TI:=λe H R=>c e H λx b=>∃a d,x=.ref a/\((SqL K b a d/\(d.length<=sizeLine->R (Kt K a) b))\/(SqT K b a d/\(d.length<=sizeLine->R (Ku K a) b)))
theorem Bq(t:PE X l u):PI X tg l (Bp X.K u):=by
 intro w s z H R I h;refine az (t _ s z H _ I h) λv d k=>?_;obtain⟨x,m,c,n,j⟩:=k;obtain⟨a,A,e,j⟩:=j;subst e;cases n;rcases j with⟨i,q⟩|⟨i,q⟩
 .obtain⟨f,r,p,g⟩:=c.list i
  refine wpAny_pyIter_list p.isList (⟨d.heap.objs.size,[d.heap.objs.size],_,_,m,rfl,c.kept λb o e=>qe _ e,Q6 a _,⟨_,qp _ rfl,rfl,rfl⟩,λb y=>?_,q g⟩)
  have e:b=d.heap.objs.size:=by grind
  subst e;exact c.fpOk (qv _) (c.hok.fresh (qv _))
 .obtain⟨f,r,p,g⟩:=c.tuple i
  refine wpAny_pyIter_tuple (p) (⟨d.heap.objs.size,[d.heap.objs.size],_,_,m,rfl,c.kept λb o e=>qe _ e,Q7 a _,⟨_,qp _ rfl,rfl,rfl⟩,λb y=>?_,q g⟩)
  have e:b=d.heap.objs.size:=by grind
  subst e;exact c.fpOk (qv _) (c.hok.fresh (qv _))
def cX(a n:Int):AN:=(List.range (n-a).toNat).map λi=>.int (a+(i:Nat))
def LG(a n:Int):(cX a n).length=(n-a).toNat:=by simp[cX]
theorem n7(k:(n-a).toNat<=sizeLine):Wk K (mV a (n-a).toNat) G' (cX a n):=
 n6 (by rwa [LG]) λi m o _ _=>⟨λd b=>by
  unfold cX at b;rw[Qm]at b;obtain⟨j,h,rfl⟩:=qc b
  have g:i<(n-a).toNat:=by
   grind
  rw[List.getElem?_range g]at h;cases h
  exact⟨g,λy l q=>⟨q.1,q.2⟩⟩,λc=>by rwa [LG]at c⟩
def dg:AN->Option AN
 | [.int n]=>if decide (-ax<=n)&&decide (n<=ax)then some (cX 0 n)else none
 | _=>none
def fg:AN->Option AN
 | [.int a,.int n]=>if decide (-ax<=a)&&decide (a<=ax)&&decide (-ax<=n)&&decide (n<=ax)then some (cX a n)else none
 | _=>none
theorem Sg(h:dg l=some b):∃n:Int,l=[.int n]/\-1000000<=n/\n<=1000000/\b=cX 0 n:=by
 unfold dg at h
 split at h
 .split at h
  .have a:ax=1000000:=by decide
   grind
  .cases h
 .cases h
theorem Sh(h:fg l=some c):∃a n:Int,l=[.int a,.int n]/\-1000000<=a/\a<=1000000/\-1000000<=n/\n<=1000000/\c=cX a n:=by
 unfold fg at h
 split at h
 .split at h
  .have b:ax=1000000:=by decide
   grind
  .cases h
 .cases h
def ai(i:Nat):AS:=λd a=>some (a.set i (↑d))
def ew(i j:Nat):AS:=λd c=>match d with
 | .tup [a,b]=>some ((c.set i (↑a)).set j (↑b))
 | _=>none
def forM(gt:AS)(fb:AR):AN->AR
 | [],ρ=>some (.nx ρ)
 | d::ds,ρ=>(gt d ρ).bind λb=>(fb b).bind fun
   | .nx a=>forM gt fb ds a
   | .ct a=>forM gt fb ds a
   | .bk a=>some (.nx a)
   | .rt d=>some (.rt d)
def a9(gl:AV)(gt:AS)(fb:AR):AR:=λa=>(gl a).bind λb=>forM gt fb b a
theorem LH:∀(f:AN) (ρ:Ro) (e:eY),forM gt fb f ρ=some e->(∃ρ',e=.nx ρ')\/∃d,e=.rt d
 | [],ρ,e,h=>by cases h;grind
 | d::f,ρ,e,h=>by
   obtain⟨b,g,h⟩:=qa h;obtain⟨o,c,h⟩:=qa h
   cases o with
   | nx a=>exact LH f a e h
   | ct a=>exact LH f a e h
   | bk a=>grind
   | rt d=>grind
def c5(fc:AT)(fb:AR):Nat->AR
 | 0,_=>none
 | n+1,ρ=>(fc ρ).bind λk=>if k=true then (fb ρ).bind fun
  | .nx ρ2=>c5 fc fb n ρ2
  | .ct ρ2=>c5 fc fb n ρ2
  | .bk ρ2=>some (.nx ρ2)
  | .rt d=>some (.rt d)
  else some (.nx ρ)
def ak(a:List AL)(ρ:Ro):Ro:=a.map λo=>o.bind λj=>match ρ[j]? with
 | some (some (.sh d))=>some (.sh d)
 | _=>none
theorem SR.cap(s:SR K p n σ H G ρ)(e:List AL):SR K H G (dH e σ) H G (ak e ρ):=by
 refine .mkSh (.refl s.seen) (by simp[dH,ak]) (λi d h=>?_) (λi l h=>by
  unfold ak at h;rw[Qm]at h;obtain⟨o,c,b⟩:=qc h;obtain⟨j,rfl,a⟩:=qa b
  split at a<;>cases a) (λi t r f h=>by
  unfold ak at h;rw[Qm]at h;obtain⟨o,c,b⟩:=qc h;obtain⟨j,rfl,a⟩:=qa b
  split at a<;>cases a)
 unfold ak at h;rw[Qm]at h;obtain⟨o,c,b⟩:=qc h;obtain⟨j,rfl,a⟩:=qa b
 split at a
 .rename_i q k
  cases a;obtain⟨v,m,g⟩:=s.sh j _ k;refine⟨v,?_,g⟩;unfold dH;rw[Qm,c];show some ((σ[j]?).join)=_;rw[m];rfl
 .cases a
def cU(gt:AS)(fc:AT)(fe:AU)(ρ:Ro):AN->Option AN
 | []=>some []
 | d::ds=>(gt d ρ).bind λa=>(fc a).bind λk=>if k=true then (fe a).bind λv=>(cU gt fc fe ρ ds).map (v::·)else cU gt fc fe ρ ds
def bq(gl:AV)(a:List AL)(gt:AS)(fc:AT)(fe:AU):AV:=λb=>(gl b).bind λc=>cU gt fc fe (ak a b) c
def tY:AT:=λ_=>some true
def Br(h:tTof K tY σ H Q):nI σ H Q:=by
 obtain⟨c,k,b,a,G,e,s,h⟩:=h;cases e;exact h H G (.refl s.seen)
def Bs:d4 X [] (tTof X.K tY):=λa s b H Q I h=>Al _ s b H Q I (Br h)
theorem LI(h:src[i]?=some none):∀ρ d a,ai i d (ak src ρ)=some a->Le (ak src ρ) a:=λρ d a e=>by
 cases e;refine⟨by simp,λj b g=>?_⟩;by_cases c:j=i
 .unfold ak at g
  grind
 grind
def Bt{f:List AL}{i k:Nat}(h:f[i]?=some none)(m:f[k]?=some none):∀ρ d a,ew i k d (ak f ρ)=some a->Le (ak f ρ) a:=λρ d a e=>by
 unfold ew at e
 split at e
 .cases e
  refine⟨by simp,λj b l=>?_⟩
  have c:∀n,f[n]?=some none->j≠n:=λn g z=>by
   subst z;unfold ak at l;rw[Qm,g]at l;cases l
  rwa [Qp (.symm (c k m)),Qp (.symm (c i h))]
 .cases e
theorem LJ(hle:∀ρ d u,gt d (ak src ρ)=some u->Le (ak src ρ) u)(h:g_ K (bq gl src gt fc fe) σ H Q):Am (nM K gl) src (Lu K gt) (tTof K fc) (tOf K fe) σ H Q:=by
 obtain⟨ρ,l,H0,G0,G,e,s,h⟩:=h;obtain⟨ds,h1,N⟩:=qa e;refine⟨ρ,ds,H0,G0,G,h1,s,λJ H1 R g1 wk p V=>?_⟩;have s1:=s.grow g1;have sc:=s1.cap src;have gp:R p=none:=s1.seen.free V
 refine⟨λi m σ' H'=>m=ds.length-i/\i<=ds.length/\∃G' a D c,SR K H1 R σ' H' G' (ak src ρ)/\H' p=some (.lst D)/\G' p=none/\RpL K G' a D/\D.length<=i/\cU gt fc fe (ak src ρ) (ds.drop i)=some c/\a++c=l,
  ⟨_,rfl,Qh _,R,[],[],l,sc.grow (Gr.hid s1.seen V _),Yg,gp,.nil,Qh _,N,rfl⟩,?_⟩
 rintro i m σ' H' ⟨rfl,hi,G',a,D,c,s',hx,gx,rx,hl,n,T⟩;have W:=wk.2 i H' G' s'.gr.g s'.seen;by_cases A:i<ds.length
 .have hdi:=qr A
  obtain⟨go,yl⟩:=W.1 _ hdi;rw[List.drop_eq_getElem_cons A,cU]at n;obtain⟨u,e1,n⟩:=qa n;obtain⟨k,e2,n⟩:=qa n;refine .inr ⟨go,λx H2 y=>?_⟩;obtain⟨G2,U,r2⟩:=yl x H2 y
  have r:∀{Ha Z Hb S:Hp},Gr Ha Z Hb S->Ha p=some (.lst D)->Z p=none->Hb p=some (.lst D)/\S p=none:=λ{Ha Z Hb S} g e1 e2=>by
   refine⟨g.h _ _ e1,?_⟩
   cases q:S p with
   | none=>rfl
   | some o=>
     have:=g.n p e2 (by rw[q];exact λz=>nomatch z);rw[e1]at this;cases this
  obtain⟨hx2,gx2⟩:=r U hx gx;refine⟨_,ak src ρ,u,H1,R,G2,e1,s'.grow U,r2,λσ3 s3=>?_⟩;refine tTof.at e2 s3 λH4 G4 g4 s4=>?_;obtain⟨I,O⟩:=r g4 hx2 gx2;have le:=hle ρ _ u e1
  cases k with
  | false=>
    exact⟨ds.length-(i+1),by lia,rfl,A,G4,a,D,c,s4.le le,I,O,(rx.mono U.g).mono g4.g,by lia,n,T⟩
  | true=>
    rw[if_pos rfl]at n ⊢;obtain⟨v,e3,n⟩:=qa n;obtain⟨C,e4,rfl⟩:=qc n;refine tOf.at e3 s4 λw H5 G5 g5 r5 s5=>?_;obtain⟨Y,L⟩:=r g5 I O;have hz:=wk.1;refine⟨D,Y,by lia,ds.length-(i+1),by lia,rfl,A,G5,a++[v],D++[w],C,?_,Yg,L,(((rx.mono U.g).mono g4.g).mono g5.g).append (.one r5),by simp;lia,e4,by simpa using T⟩;have E:=s5.le le
    have P:∀(i:Nat) l,(ak src ρ)[i]?≠some (some (B.ow l)):=λi l h=>by
     unfold ak at h;rw[Qm]at h;obtain⟨o,h1,N⟩:=qc h;obtain⟨j,rfl,F⟩:=qa N
     split at F<;>cases F
    have M:∀(i:Nat) t ks vs,(ak src ρ)[i]?≠some (some (B.od t ks vs)):=λi t ks vs h=>by
     unfold ak at h;rw[Qm]at h;obtain⟨o,h1,N⟩:=qc h;obtain⟨j,rfl,F⟩:=qa N
     split at F<;>cases F
    refine SR.mkSh ⟨λb o q=>?_,E.gr.g,λb o q=>?_,E.gr.n⟩ E.len E.sh P M
    .rw[Yh (Yk q V)];exact E.gr.h b o q
    .rw[Yh (Yk q L)];exact E.gr.s b o q
 .have ei:i=ds.length:=by lia
  subst ei;rw[List.drop_length,cU]at n;cases n;rw[w6]at T;subst T;exact .inl ⟨W.2 (qv _),h p D H' G' (g1.trans s'.gr) (g1.h.free V) gx hx rx⟩
section
variable {elt iter:Expr}{ifs:AK}{scope:Scope}{N:AJ}{src:List AL}{gt:AS}{fc:AT}{fe:AU}
def Bu(S:gB X.N X.env.scope N src scope)(l:X.calm=true)(i:MI X tg iter gl)(j:∀a C b s H,MG (cm X scope N a C b s H) tg gt)(m:∀a C b s H,d4 (cm X scope N a C b s H) ifs (tTof X.K fc))(k:∀a C b s H,ME (cm X scope N a C b s H) elt fe)(g:∀ρ d c,gt d (ak src ρ)=some c->Le (ak src ρ) c)(hs:∀x,foldedSetIterable iter X.env x=pure x:=by intro _;rfl):MF X (.ListComp elt [⟨tg,iter,ifs,0⟩] scope pos) (bq gl src gt fc fe):=
 PE.imp (Ao S l i j m k hs) λ_ _ _ h=>LJ g h
theorem Bv(i:Nat){o a:Pos}(f:X.N.Nodup)(S:gB X.N X.env.scope N src scope)(E:X.calm=true)(m:MI X tg iter gl)(J:∀j C b s H,MG (cm X scope N j C b s H) tg gt)(w:∀j C b s H,d4 (cm X scope N j C b s H) ifs (tTof X.K fc))(B:∀j C b s H,ME (cm X scope N j C b s H) elt fe)(k:∀ρ d c,gt d (ak src ρ)=some c->Le (ak src ρ) c)(n:swapsWith (.ListComp elt [⟨tg,iter,ifs,0⟩] scope pos) (some (.Name y o)) a.line X.env=pure true:=by rfl)(u:X.N[i]?=some y:=by rfl)(v:c9 X.env.scope y:=by trivial)(A:X.fn y=true\/X.env.scope.names.lookup y=some .local:=by trivial)(hs:∀x,foldedSetIterable iter X.env x=pure x:=by intro _;rfl):MS X (.Assign [.Name y o] (.ListComp elt [⟨tg,iter,ifs,0⟩] scope pos) a) (bb i (bq gl src gt fc fe)):=
 PS.imp (Ap S E m J w B f u v n A hs) λF R H h=>by
  obtain⟨ρ,D,z,q,G,e,s,h⟩:=h;obtain⟨l,t,rfl⟩:=qc e;exact LJ k ⟨ρ,l,z,q,G,t,s,λp Q M K g O I L r=>h _ M K (s.set_ow i g O I L r)⟩
end
def Yd(n:Nat)(a:AN):Ro:=a.map (λd=>some (.sh d))++.replicate (n-a.length) none
noncomputable def aj(k n:Nat)(fb:AR)(a:AN):Option D:=if a.length=k then (fb (Yd n a)).bind fun
 | .rt d=>some d
 | .nx _=>some .non
 | _=>none
 else none
theorem SR.start(s:Same G H)(r:RpL K G ds vs):SR K H G (start N vs) H G (Yd N.length ds):=by
 refine .mkSh (.refl s) (by simp[L2.start,Yd,r.length]) (λi d h=>?_) (λi l h=>by
  unfold Yd at h
  grind) (λi t f vs h=>by
  unfold Yd at h
  grind)
 unfold Yd at h;rw[List.getElem?_append]at h
 split at h
 .rw[Qm]at h
  obtain⟨k,a,g⟩:=qc h;obtain⟨v,c,j⟩:=r.get a;unfold L2.start;grind
 grind
section
variable {P:P7}{w:World}{mg:AD}{base:Heap}
theorem Si{f:Addr}(F:Fun K x c st f u)(S:dE N I (aDa st))(p:N.length=n)(j:I.length=m)(T:∀(b:Value) (A:Around) (a:List Env) (s:Shared) (H:Hp) (E:XK),Room k (A.deeper (envOfC c (aDa st) (~~~s) f b))->MB (ck cK P w K mg base N c (aDa st) f b A a s H E).nox (aFa st) fb):
 FnOk P w K mg base cK (k+1) f u I (cx K m (aj m n fb)):=by
 refine F.ok S (λM H Q E h=>by rw[h.1,j]) λb A a s H M Q E t h=>?_;obtain⟨B,L,d,G,l,r,e,q⟩:=h;refine⟨_,T b A a s H E t,?_⟩;unfold aj at e
 split at e
 .obtain⟨o,z,i⟩:=qa e
  refine⟨Yd n L,o,H,G,G,z,by rw[<-p];exact .start l r,?_⟩
  cases o with
  | rt U=>cases i;exact λv C D g y=>q v C D g y
  | nx J=>cases i;exact λO C D R=>q _ C D R.gr (by rw[Rp])
  | bk J=>cases i
  | ct J=>cases i
 .cases e
end
end
end
section
variable {K:W7}
def aN(P:P7)(w:World)(K:W7)(d:AD)(b:Heap)(k n:Nat)(x:Str)(f:AJ)(e:AN->Option D):Prop:=
 ∃a c,FnOk P w K d b cK k a c f (cx K n e)/\Binds K c f []/\W.keepIn K (.ref a)=true/\d x=some (.ref a)
def Bw{st:Stmt}(F:Fun K x q st a d)(b:Binds K d i [])(g:e x=some (.ref a))(h:FnOk P w K e c cK k a d i (cx K n f)):aN P w K e c k n x i f:=⟨a,d,h,b,F.kp,g⟩
section
variable {X:Cx}{a b e:Expr}{es:AK}{fa fb:AU}{ga:AV}{pos:Pos}
def dh:D->Option D
 | .int i=>some (.int (-i))
 | _=>none
def cY:D->D->Option AN
 | .lst a,.lst b=>if a.length+b.length<=ax then some (a++b)else none
 | _,_=>none
def Bx:R2:=λx y H Q=>∃l b a c,x=.ref l/\y=.ref b/\Rd H l (.lst a)/\Rd H b (.lst c)/\a.length+c.length<=sizeLine/\∀p,H p=none->Q (.ref p) (upd H p (.lst (a++c)))
theorem By:bp X (binaryOp .Add) Bx:=by
 intro C s F H x y v u Q I k f h;obtain⟨l,b,E,t,rfl,rfl,j,i,o,q⟩:=h;cases k;cases f;obtain⟨z,a,n,r,e⟩:=j.ok I.hok;obtain⟨w,c,A,d,D⟩:=i.ok I.hok;have p:=r.length;have m:=d.length;refine PySem.P.add_list e D ?_ (by grind)
 have g:a.toArray++c.toArray=(a++c).toArray:=by simp
 rw[g];exact⟨.ref _,_,I.lnew (r.append d) (by grind),rfl,q _ I.fresh⟩
def hV:D->String
 | .non=>"NoneType"
 | .bl _=>"bool"
 | .int _=>"int"
 | .str _=>"str"
 | .tup _=>"tuple"
 | .lst _=>"list"
 | .scr _=>"list"
 | .dct _ _ _=>"dict"
 | .obj _ _ _=>"dict"
 | .adr _=>"dict"
def hX:D->Bool
 | .scr _=>false
 | .dct t _ _=>!t
 | .obj _ _ _=>false
 | .adr _=>false
 | _=>true
def f7(T:String)(d:D):Option Bool:=if hX d=true then some (hV d==T||(T=="int"&&hV d=="bool"))else none
def Bz(c:hX d=true)(r:Ct K G H d v):cw K H v (.type (hV d)):=by
 cases d<;>rw[Ct]at r
 .subst r;exact .non
 .subst r;exact .bl _
 .subst r;exact .int _
 .obtain⟨rfl,_⟩:=r;exact .str _
 .obtain⟨a,b,rfl,g,_⟩:=r;exact .tup g.1
 .obtain⟨a,b,rfl,g,_⟩:=r
  rcases g with g|⟨o,g⟩
  .exact .lst g
  .exact .frz g
 .cases c
 .rename_i t _ _
  cases t with
  | true=>cases c
  | false=>
    obtain⟨a,_,_,rfl,g,_⟩:=r;rcases g with⟨_,_,g,_⟩|⟨g,_⟩
    .exact .dK g
    .cases g
 .cases c
 .cases c
def uG(T:String):Prop:=∀(K:W7) (d:D),W.kitOne K (.type (hV d)) (.type T)=some (hV d==T||(T=="int"&&hV d=="bool"))
def BA:uG "str":=λK d=>by cases d<;>rfl
def Sj:uG "tuple":=λK d=>by cases d<;>rfl
def BB(i:uG T):dz X (.builtin "isinstance") (λxs H Q=>∃x d G,xs=[x,.ty T]/\hX d=true/\Ct X.K G H d x/\Q (.bl (hV d==T||(T=="int"&&hV d=="bool"))) H):=by
 intro a s l H xs e Q I r h;obtain⟨x,d,G,rfl,j,f,q⟩:=h;obtain⟨u,k,rfl,c,g⟩:=ng r;cases (g)
 exact Rq I c (Bz j f) (i X.K d) λb=>⟨.bl _,H,I.tok b,rfl,q⟩
end
end
section
variable {K:W7}
def ey(a:Int):AF->AF
 | []=>[a]
 | b::l=>if a<=b then a::b::l else b::ey a l
def c6:AF->AF
 | []=>[]
 | a::l=>ey a (c6 l)
theorem BC(a:Int):∀l:AF,(ey a l).Perm (a::l)
 | []=>.refl _
 | b::l=>by
   rw[ey]
   split
   .exact .refl _
   .exact((BC a l).cons b).trans (.swap a b l)
theorem Yx:∀l:AF,(c6 l).Perm l
 | []=>.refl _
 | a::l=>(BC a _).trans ((Yx l).cons a)
theorem LK(a:Int):∀l:AF,l.Pairwise (·<=·)->(ey a l).Pairwise (·<=·)
 | [],_=>by simp[ey]
 | b::l,h=>by
   rw[ey]
   split
   .rename_i d
    refine List.pairwise_cons.mpr ⟨λx c=>?_,h⟩;rcases qu c with rfl|c
    .exact d
    .exact Int.le_trans d ((List.pairwise_cons.mp h).1 x c)
   .refine List.pairwise_cons.mpr ⟨λx c=>?_,LK a l (List.pairwise_cons.mp h).2⟩
    rcases qu ((BC a l).mem_iff.mp c)with rfl|c
    .lia
    simp_all
theorem gC:∀l:AF,(c6 l).Pairwise (·<=·)
 | []=>.nil
 | a::l=>LK a _ (gC l)
section
variable {prog:P7}{w:World}{A:Around}{E:AA}{s:Shared}
theorem Sk(m:s.heap.IsList l vs.toArray)(n:vs.length<2)(h:Q (.ref (~~~s+1)) { s with heap:=sortedAll s.heap vs vs.toArray }):wpAny (mZ prog w) A (call (.builtin "sorted") [.ref l]) Q E s:=by
 refine Calls.call_function_entry kind_sorted plain_sorted entry_sorted (args_sorted1 _) ?_;refine wa (wc ?_);refine wa (collect_list m ?_ (by rw[jg];lia));refine wa (wpAny_newList ?_ (by rw[jg];lia))
 have e:((s.heap.push (seqObj "list" #[] 0)).update (~~~s) (Obj.mapSeq (·++vs.toArray))).objs.size= ~~~s+1:=by
  simp_all
 have g:(((s.heap.push (seqObj "list" #[] 0)).update (~~~s) (Obj.mapSeq (·++vs.toArray))).push (seqObj "list" vs.toArray 0)).get? (~~~s+1)=some (seqObj "list" vs.toArray 0):=by
  rw[<-e];exact qp _ rfl
 rw[e];refine wa (wd (we slot_list_sort ⟨_,g,rfl⟩ entry_list_sort ?body (args_list_sort _)))
 case body=>
  rw[list_sort_plain];generalize j:({ s with heap:=((s.heap.push (seqObj "list" #[] 0)).update (~~~s) (Obj.mapSeq (·++vs.toArray))).push (seqObj "list" vs.toArray 0) })=S at *
  have a:S.heap.get? (~~~s+1)=some (seqObj "list" vs.toArray 0):=by grind
  have o:=ql a;refine wa (listItems_at a rfl ?_);refine wa (listUpdate_at a rfl ?_ (by rw[qk,jg];lia) (Qh _))
  obtain⟨p,c⟩:∃p,(S.heap.update (~~~s+1) (Obj.mapSeq λ_=>#[])).get? (~~~s+1)=some (seqObj "list" #[] p):=⟨_,get?_update_seq a (λ_=>#[])⟩
  refine wa (seqEpoch_at c rfl ?_);refine wa (wpAny_newTuple ?_ (by rw[jg];lia));refine wa (wpAny_newList ?_ (Qh _));refine wd ?_
  have b:(((S.heap.update (~~~s+1) (Obj.mapSeq λ_=>#[])).push (seqObj "tuple" vs.toArray 0)).push (seqObj "list" #[] 0)).get? (~~~s+1)=some (seqObj "list" #[] p):=by
   rw[Heap.get?_push_ne _ _ _ (by rw[size_push',Heap.size_update];grind),Heap.get?_push_ne _ _ _ (by rw[Heap.size_update];grind)];exact c
  have d:vs.toArray.size<2:=by grind
  rw[if_pos d,if_pos d];refine wa (wc ?_);refine wa (wc ?_);dsimp only;refine wa (seqEpoch_at b rfl ?_);refine wa (listUpdate_at b rfl ?_ (hsz2:=by grind));simp only[bne_self_eq_false,Qo,if_false]
  have f:(arrOf (SortSt.mk' general' (vs.toArray.zip vs.toArray) #[] 7 none)).map (·.2)=vs.toArray:=by
   grind
  refine wc ⟨_,rfl,wc ⟨_,rfl,?_⟩⟩;have k:=h;rw[<-j,f];exact k
def d8(j:Int)(q:Bool)(i:Int)(p:Bool):Bool:=if j=i then (!q&&p)else decide (j<i)
theorem BD(z:IsTup s.heap b #[.int i t,.bool p])(k:IsTup s.heap c #[.int j u,.bool q])(h:R (d8 j q i p) s):
 wpAny (mZ prog w) A (keyLt' (tuples' true) (.ref c) (.ref b)) R E s:=by
 obtain⟨r,f,_,o,m⟩:=z;obtain⟨v,g,_,n,l⟩:=k;refine W.kat_lt g l f m ?_;show W.KatLex _ w A _ false R _ 0 s;unfold d8 at h;refine W.kat_cons (SeqAt.EqAt.int_int j u i t _ w _ _ (W.kat_go (λe=>W.kat_yes (W.kat_cons (SeqAt.EqAt.bool_bool q p _ w _ _ (W.kat_go (λy=>W.kat_yes (W.kat_nil ?_)) λy=>W.kat_no (W.kat_one _ _ (lt_bool ?_)))))) λe=>W.kat_no ?_))
 .simp_all
 .have d:=by simpa using e
  rw[if_pos d]at h
  cases p<;>cases q<;>first|exact h|simp at y
 .have d:=by simpa using e
  rw[if_neg d]at h;exact oneLt_int h
theorem Sl(h:a 1 0 (λk s'=>if k=true then G #[1,0] s' else G #[0,1] s') S):(W.kas_sort 2).kasWp a G S:=by
 show a 1 0 _ S
 have e:∀(k:Bool) (s':Shared),(if k=true then G #[1,0] s' else G #[0,1] s')=W.KasT.kasWp a (.bind (.bind (if k=true then .ret 1 else W.kas_asc (List.toArray (List.range 2)) 0 2)
  λn=>if (n==2)=true then .ret (n,List.toArray (List.range 2))else if n > 1 then .ask ((List.toArray (List.range 2)).getD 0 0) ((List.toArray (List.range 2)).getD (n-1) 0) λc=>if c=true then .ret (n,List.toArray (List.range 2))else W.kas_descPart n 2 (W.kas_rev (List.toArray (List.range 2)) 0 n)
   else W.kas_descPart n 2 (List.toArray (List.range 2))) λr=>if r.1<2 then W.kas_bin (2-max r.1 1) r.2 (max r.1 1)else .ret r.2) G s':=λk s'=>by cases k<;>rfl
 simp_all
theorem Sn(Z:s.heap.IsList l #[.ref b,.ref c])(hb:IsTup s.heap b #[.int i t,.bool p])(H:IsTup s.heap c #[.int j u,.bool q])(h:Q (.ref (~~~s+1)) { s with heap:=sortedAll s.heap [.ref b,.ref c] (if d8 j q i p=true then #[.ref c,.ref b]else #[.ref b,.ref c]) }):wpAny (mZ prog w) A (call (.builtin "sorted") [.ref l]) Q E s:=by
 generalize m:[Value.ref b,Value.ref c]=vs at *;have J:s.heap.IsList l vs.toArray:=Z
 have D:vs.length=2:=by grind
 refine Calls.call_function_entry kind_sorted plain_sorted entry_sorted (args_sorted1 _) ?_;unfold Builtin.«sorted»;refine wa (m:=checkCount "sorted" 1 1 _) (wc ?_);refine wa (collect_list J ?_ (by rw[jg];lia));refine wa (wpAny_newList ?_ (by rw[jg];lia))
 have y:((s.heap.push (seqObj "list" #[] 0)).update (~~~s) (Obj.mapSeq (·++vs.toArray))).objs.size= ~~~s+1:=by
  simp_all
 have L:(((s.heap.push (seqObj "list" #[] 0)).update (~~~s) (Obj.mapSeq (·++vs.toArray))).push (seqObj "list" vs.toArray 0)).get? (~~~s+1)=some (seqObj "list" vs.toArray 0):=by
  rw[<-y];exact qp _ rfl
 have M:∀b o,s.heap.get? b=some o->(((s.heap.push (seqObj "list" #[] 0)).update (~~~s) (Obj.mapSeq (·++vs.toArray))).push (seqObj "list" vs.toArray 0)).get? b=some o:=λb o q=>by
  have a:b< ~~~s:=ql q;rw[Heap.get?_push_ne _ _ _ (by grind),Heap.get?_update_ne _ _ _ _ (qm a),Heap.get?_push_ne _ _ _ (qm a)];exact q
 rw[y];refine wa (wd (we slot_list_sort ⟨_,L,rfl⟩ entry_list_sort ?body (args_list_sort _)))
 case body=>
  rw[list_sort_plain];generalize hS:({ s with heap:=((s.heap.push (seqObj "list" #[] 0)).update (~~~s) (Obj.mapSeq (·++vs.toArray))).push (seqObj "list" vs.toArray 0) })=S at *
  have d:S.heap.get? (~~~s+1)=some (seqObj "list" vs.toArray 0):=by grind
  have ha:(~~~s)+1<S.heap.objs.size:=ql d;refine wa (listItems_at d rfl ?_);refine wa (listUpdate_at d rfl ?_ (by rw[qk,jg];lia) (Qh _))
  obtain⟨e1,C⟩:∃e1,(S.heap.update (~~~s+1) (Obj.mapSeq λ_=>#[])).get? (~~~s+1)=some (seqObj "list" #[] e1):=⟨_,get?_update_seq d (λ_=>#[])⟩
  refine wa (seqEpoch_at C rfl ?_);refine wa (wpAny_newTuple ?_ (by show vs.length<=_;rw[jg];lia));refine wa (wpAny_newList ?_ (Qh _));refine wd ?_
  have V:(((S.heap.update (~~~s+1) (Obj.mapSeq λ_=>#[])).push (seqObj "tuple" vs.toArray 0)).push (seqObj "list" #[] 0)).get? (~~~s+1)=some (seqObj "list" #[] e1):=by
   rw[Heap.get?_push_ne _ _ _ (by rw[size_push',Heap.size_update];grind),Heap.get?_push_ne _ _ _ (by rw[Heap.size_update];grind)];exact C
  have I:∀b o,s.heap.get? b=some o->(((S.heap.update (~~~s+1) (Obj.mapSeq λ_=>#[])).push (seqObj "tuple" vs.toArray 0)).push (seqObj "list" #[] 0)).get? b=some o:=λb o q=>by
   have a:b< ~~~s:=ql q;refine qe _ (qe _ ?_);rw[Heap.get?_update_ne _ _ _ _ (qm (qx a))];grind
  generalize hS6:({ S with heap:=((S.heap.update (~~~s+1) (Obj.mapSeq λ_=>#[])).push (seqObj "tuple" vs.toArray 0)).push (seqObj "list" #[] 0) })=g
  have B:g.heap.get? (~~~s+1)=some (seqObj "list" #[] e1):=by grind
  have N:IsTup g.heap b #[.int i t,.bool p]:=by
   obtain⟨o,O,z⟩:=hb;exact⟨o,by grind,z⟩
  have R:IsTup g.heap c #[.int j u,.bool q]:=by
   obtain⟨o,O,z⟩:=H;exact⟨o,by grind,z⟩
  dsimp only
  have F:¬vs.toArray.size<2:=by grind
  rw[if_neg F,if_neg F]
  have Y:W.KatTups g.heap vs [.int i t,.int j u]:=by
   obtain⟨ob,b1,b2,n1,b3⟩:=N;obtain⟨oc,X,c2,n2,c3⟩:=R;rw[<-m];exact .cons b1 b2 b3 rfl (.cons X c2 c3 rfl .nil)
  refine wa (W.kat_kind (T:=.type "int") Y (qx (Qa 0)) (λv r=>?_) (by decide) ?_)
  .rcases qu r with rfl|r
   .exact .of_pure rfl
   .rcases qu r with rfl|r
    .exact .of_pure rfl
    .cases r
  have n:wpAny (mZ prog w) A.in1.in1 (keyLt' (tuples' true) (vs.getD 1 Value.none) (vs.getD 0 Value.none)) (λk s'=>k=d8 j q i p/\s'=g) (λ_ _=>False) g:=by
   rw[<-m];exact BD N R ⟨rfl,rfl⟩
  refine wa (wz (W.kat_run (ks:=vs) (vs:=vs) (κ:=tuples' true) (G:=λP s'=>s'=g/\P=if d8 j q i p=true then #[1,0]else #[0,1])
   (Q:=λf s'=>s'=g/\failedOf f=none/\(arrOf f).map (·.2)=if d8 j q i p=true then #[.ref c,.ref b]else #[.ref b,.ref c]) rfl (by lia) (by lia) (λP f s' O z a3 a4=>?_) ?_) ?_ λ_ _ e=>e)
  .obtain⟨rfl,rfl⟩:=a4
   refine⟨rfl,a3,?_⟩;rw[W.kat_snds rfl z,<-m];grind
  .rw[D]
   refine Sl ?_;refine wz n (λk s' hk=>?_) λ_ _ x=>x;grind
  rintro⟨⟨⟩,f⟩ s' ⟨rfl,U,G⟩;dsimp only;refine wa (seqEpoch_at B rfl ?_);refine wa (listUpdate_at B rfl ?_ (Qh _) (by rw[G,jg];grind));rw[U];simp only[bne_self_eq_false,Qo,if_false];refine wc ⟨_,rfl,wc ⟨_,rfl,?_⟩⟩;have T:=h;unfold sortedAll sortedHeap at T;grind
end
def intsD:AN->Option AF
 | []=>some []
 | .int i::l=>(intsD l).map (i::·)
 | _=>none
def BE:D->Option (Int×Bool)
 | .tup [.int j,.bl q]=>some (j,q)
 | _=>none
def n8(e d:D):Option Bool:=(BE e).bind λx=>(BE d).map λy=>d8 x.1 x.2 y.1 y.2
def lN{a:Type}{x:a}{P:Prop}(h:none=some x):P:=by cases h
def LM(h:BE d=some x):d=.tup [.int x.1,.bl x.2]:=by
 cases d with
 | tup l=>cases l with
   | nil=>exact lN h
   | cons a l=>cases a with
     | int j=>cases l with
       | nil=>exact lN h
       | cons b l=>cases b with
         | bl q=>cases l with
           | nil=>exact w4 h ▸ rfl
           | cons _ _=>exact lN h
         | _=>exact lN h
     | _=>exact lN h
 | _=>exact lN h
def lO(l:AN):Option AN:=match intsD l with
 | some a=>if a.length<64 then some ((c6 a).map .int)else none
 | none=>match l with
   | [d]=>some [d]
   | [d,e]=>(n8 e d).map λk=>if k=true then [e,d]else [d,e]
   | _=>none
def fF:AN->Option AN
 | [.lst l]=>lO l
 | _=>none
theorem jX:∀{l:AN}{ns:AF},intsD l=some ns->l=ns.map D.int
 | [],ns,h=>by cases h;rfl
 | .int i::l,ns,h=>by
   obtain⟨m,a,rfl⟩:=qc h;rw[jX a];rfl
 | .non::l,ns,h=>by simp[intsD]at h
 | .bl _::l,ns,h=>by simp[intsD]at h
 | .str _::l,ns,h=>by simp[intsD]at h
 | .tup _::l,ns,h=>by simp[intsD]at h
 | .lst _::l,ns,h=>by simp[intsD]at h
 | .scr _::l,ns,h=>by simp[intsD]at h
 | .dct _ _ _::l,ns,h=>by simp[intsD]at h
 | .obj _ _ _::l,ns,h=>by simp[intsD]at h
 | .adr _::l,ns,h=>by simp[intsD]at h
theorem jY:∀{ns:AF}{xs:AM},RpL K G (ns.map D.int) xs->xs=ns.map V.int
 | [],xs,h=>h
 | n::ns,xs,h=>by
   obtain⟨x,r,rfl,a,b⟩:=h;rw[a,jY b];rfl
def BF(H:Hp)(x:V)(i:Int)(p:Bool):Prop:=∃a,x=.ref a/\H a=some (.tup [.int i,.bl p])
def n9:AM->Hp->VK->Prop:=λd H Q=>∃a b,d=[.ref a]/\Rd H a (.lst b)/\
 ((∃c:AF,b=c.map .int/\c.length<64/\∀p,H p=none->Q (.ref p) (upd H p (.lst ((c6 c).map .int))))\/
  (b.length<2/\∀p,H p=none->Q (.ref p) (upd H p (.lst b)))\/
  (∃x y i p j q,b=[x,y]/\BF H x i p/\BF H y j q/\∀r,H r=none->Q (.ref r) (upd H r (.lst (if d8 j q i p=true then [y,x]else [x,y])))))
theorem n_:dz X (.builtin "sorted") n9:=by
 intro pins s σ H xs us Q I r h;obtain⟨a,ys,rfl,M,h⟩:=h;obtain⟨u,rfl,L⟩:=ee r;cases L;obtain⟨its,l,pl,hz⟩:=I.list (.inl M)
 have f:∀(V:_) _,_->_->_->EP X pins σ Q _ { s with heap:=sortedAll s.heap its V }:=λV d B n F=>by
  obtain⟨e,he⟩:=sortedAll_at s.heap its V;exact⟨.ref (~~~s+1),_,I.laid (λb o q=>sortedAll_old q) (Nat.le_succ _) (show ObjOk X.prog X.w _ _ _ (.lst d) from⟨n,V.toList,e,B,by simp_all⟩),rfl,F⟩
 have w:=I.hok.fresh (Nat.le_succ _);have Y:=l.length;rcases h with⟨ns,rfl,U,q⟩|⟨v,q⟩|⟨x,y,i,p,j,k,rfl,C,P,q⟩
 .have G:=tL l
  refine sorted_ints pl.isList G (by grind) λV T E v J=>?_;have e:=W.ksm_same (v.trans (Yx ns).symm) J (gC ns);subst e;have hn:=(Yx ns).length_eq;exact f V _ (nF E) (by grind) (q _ w)
 .refine Sk pl.isList (by lia) ?_
  grind
 .obtain⟨b,rfl,hb⟩:=C
  obtain⟨c,rfl,O⟩:=P;obtain⟨u1,u2,rfl,A,D⟩:=ng l;cases A;cases D;obtain⟨_,ib,z,R⟩:=I.hok b _ hb;obtain⟨_,Z,S,N⟩:=I.hok c _ O;obtain⟨w1,w2,rfl,⟨t,rfl⟩,g⟩:=ng z;cases g;obtain⟨w3,K,rfl,⟨t',rfl⟩,m⟩:=ng S;cases m;refine Sn (by simpa using pl.isList) (by simpa using R) (by simpa using N) ?_;refine f _ _ ?_ (by grind) (q _ w);cases d8 j k i p
  .grind
  .exact .cons rfl (.cons rfl .nil)
def LN(s:Same G H)(e:d=.tup [.int i,.bl p])(r:Rp K G d v):BF H v i p:=by
 subst e;obtain⟨a,k,rfl,g,c⟩:=r;obtain⟨x,j,rfl,b,h⟩:=c;obtain⟨y,rfl,f⟩:=lM h;subst b f;exact⟨a,rfl,s _ _ g⟩
def So(h:n8 e d=some k):∃j q i p,e=.tup [.int j,.bl q]/\d=.tup [.int i,.bl p]/\k=d8 j q i p:=by
 obtain⟨x,a,f⟩:=qa h;obtain⟨y,c,b⟩:=qc f;exact⟨x.1,x.2,y.1,y.2,LM a,LM c,b.symm⟩
theorem oa:er K n9 fF:=by
 intro C B l H G Q h s r q;unfold fF at h
 split at h
 .obtain⟨v,rfl,t⟩:=eQ r
  obtain⟨a,A,rfl,g,c⟩:=t;refine⟨a,A,rfl,g,?_⟩;unfold lO at h
  split at h
  .rename_i z e
   split at h
   .rename_i m
    cases h;cases jX e;exact .inl ⟨z,jY c,m,λp b=>q p _ _ G (.hid s b _) b (s.free b) Yg (.ints _)⟩
   .cases h
  .split at h
   .cases h
    exact .inr (.inl ⟨by rw[c.length];grind,λp b=>q p _ _ G (.hid s b _) b (s.free b) Yg c⟩)
   .obtain⟨k,u,rfl⟩:=qc h
    obtain⟨j,y,i,x,rfl,rfl,rfl⟩:=So u;obtain⟨o,w,rfl,d,c⟩:=c;obtain⟨n,rfl,f⟩:=lM c;refine .inr (.inr ⟨o,n,i,x,j,y,rfl,LN s rfl d,LN s rfl f,λp b=>q p _ _ G (.hid s b _) b (s.free b) Yg ?_⟩);cases d8 j y i x
    .exact .cons d (.one f)
    .exact .cons f (.one d)
   .cases h
 .cases h
end
section
variable {K:W7}
section
variable {X:Cx}{e:Expr}{f fb:AU}{pos pos':Pos}
def bO:AN->Option AG
 | []=>some []
 | .bl b::l=>(bO l).map (b::·)
 | _=>none
theorem LO:∀{l:AN}{a:AG},bO l=some a->l=a.map D.bl
 | [],a,h=>by cases h;rfl
 | .bl i::l,a,h=>by
   obtain⟨m,b,rfl⟩:=qc h;rw[LO b];rfl
 | .non::l,c,h=>by simp[bO]at h
 | .int _::l,c,h=>by simp[bO]at h
 | .str _::l,c,h=>by simp[bO]at h
 | .tup _::l,c,h=>by simp[bO]at h
 | .lst _::l,c,h=>by simp[bO]at h
 | .scr _::l,c,h=>by simp[bO]at h
 | .dct _ _ _::l,c,h=>by simp[bO]at h
 | .obj _ _ _::l,c,h=>by simp[bO]at h
 | .adr _::l,c,h=>by simp[bO]at h
theorem LP:∀{a:AG}{xs:AM},RpL K G (a.map D.bl) xs->xs=a.map V.bl
 | [],xs,h=>h
 | n::d,xs,h=>by
   obtain⟨x,r,rfl,b,c⟩:=h;rw[b,LP c];rfl
theorem BG:∀{a:AG}{us:AC},Vals (a.map V.bl) us->us=a.map Value.bool
 | [],us,h=>by cases h;rfl
 | b::a,us,h=>by
   cases h with
   | cons r t=>
     cases (r);rw[BG t];rfl
theorem Sq(a:AG):((List.range a.length).any λi=>a.getD i false)=a.any id:=by
 induction a with
 | nil=>rfl
 | cons b a c=>
   rw[qt,List.range_succ_eq_map,List.any_cons,List.any_map];grind
theorem Sr(a:AG):((List.range a.length).all λi=>a.getD i false)=a.all id:=by
 induction a with
 | nil=>rfl
 | cons b a c=>
   rw[qt,List.range_succ_eq_map,List.all_cons,List.all_map];grind
def f_(g:AG->V):AM->Hp->VK->Prop:=λc H Q=>∃(a:Addr) (b:List _),c=[.ref a]/\Rd H a (.lst (b.map .bl))/\Q (g b) H
theorem LQ(A:Around)(prog:P7)(w:World)(c:AG):TruthOf prog w A (λi v=>((c.map Value.bool).toArray)[i]?=some v) (λi=>c.getD i false):=λi v s Q E d g=>by
 have a:(c.map .bool)[i]?=some v:=by grind
 rw[Qm]at a;obtain⟨b,h,rfl⟩:=qc a;refine wpAny_truthy_bool ?_;grind
def LR{pins:AB}{σ:L2.St}{H:Hp}{its:AC}(f:A.handled=none)(c:s.heap.IsList a its.toArray)(h:∀b,b={ s with heap:=s.heap.push { cls:=.type "list_iterator",data:=.fields #[.ref a,.int 0 0] } }->Walks X.prog X.w A (~~~s) [~~~s,a] [~~~s] its.toArray.size (λi v=>its.toArray[i]?=some v) (λi h=>h.IsListIter (~~~s) a i/\h.IsList a its.toArray)->
  (b.heap.IsListIter (~~~s) a 0/\b.heap.IsList a its.toArray)->Q (.ref (~~~s)) b):wpAny (mZ X.prog X.w) A (pyIter (.ref a)) Q E s:=by
 have e:a≠(~~~s):=by
  obtain⟨o,d,_⟩:=c;exact qm (ql d)
 refine wpAny_pyIter_list c (h _ rfl (.list f _ a e _) ⟨⟨_,qp _ rfl,rfl,rfl⟩,?_⟩);obtain⟨o,d,r⟩:=c;exact⟨o,qe _ d,r⟩
theorem LS{σ:L2.St}(I:Inv X pins σ H s)(k:∀b u,b∉[~~~s]->(s.heap.push o).get? b=some u->a.get? b=some u):Inv X pins σ H { s with heap:=a,toks:=tk }:=
 I.kept λb u q=>k b u (by
  intro z
  exact absurd (ql q) (by grind)) (qe _ q)
def Ss(l:X.calm=true):dz X (.builtin "any") (f_ λb=>.bl (b.any id)):=by
 intro pins s σ H v t Q I r h;obtain⟨a,b,rfl,g,q⟩:=h;obtain⟨u,rfl,d⟩:=ee r;cases d;obtain⟨o,j,n,m⟩:=I.list (.inl g);cases BG j;refine call_any_walk (LR (pins:=pins) (σ:=σ) (H:=H) (I.ok.hd l) n.isList λc e W st=>?_);subst e;refine⟨_,_,_,_,_,_,λi=>b.getD i _,rfl,W,st,LQ _ _ _ b,λp f k=>⟨.bl _,H,show Inv X _ σ H { s with heap:=p,toks:=f } from LS I k,?_,q⟩⟩;show _=_;rw[qk,qf,Sq]
def Su(l:X.calm=true):dz X (.builtin "all") (f_ λb=>.bl (b.all id)):=by
 intro pins s σ H v t Q I r h;obtain⟨a,b,rfl,g,q⟩:=h;obtain⟨u,rfl,d⟩:=ee r;cases d;obtain⟨o,j,n,m⟩:=I.list (.inl g);cases BG j;refine call_all_walk (LR (pins:=pins) (σ:=σ) (H:=H) (I.ok.hd l) n.isList λc e W st=>?_);subst e;refine⟨_,_,_,_,_,_,λi=>b.getD i _,rfl,W,st,LQ _ _ _ b,λp f k=>⟨.bl _,H,show Inv X _ σ H { s with heap:=p,toks:=f } from LS I k,?_,q⟩⟩;show _=_;rw[qk,qf,Sr]
def ez:AN->Option D
 | [.lst l]=>(bO l).map λa=>.bl (a.any id)
 | _=>none
def gb:AN->Option D
 | [.lst l]=>(bO l).map λa=>.bl (a.all id)
 | _=>none
def LU{gd:AG->D}(c:∀e d,m e=some d->∃l b,e=[.lst l]/\bO l=some b/\d=gd b)(n:∀G b,Rp K G (gd b) (g b)):dJ K (f_ g) m:=by
 intro o e d H G Q h s r q;obtain⟨l,b,rfl,j,rfl⟩:=c e d h;obtain⟨v,rfl,k⟩:=eQ r;obtain⟨a,p,rfl,f,i⟩:=k;cases LO j;cases LP i;exact⟨a,b,rfl,f,q _ H G (.refl s) (n G b)⟩
theorem BH:dJ K (f_ λa=>.bl (a.any id)) ez:=LU (gd:=λa=>.bl (a.any id)) (λc d h=>by
 unfold ez at h
 split at h
 .obtain⟨a,b,rfl⟩:=qc h
  grind
 .cases h) λG a=>by rw[Rp]
theorem BI:dJ K (f_ λa=>.bl (a.all id)) gb:=LU (gd:=λa=>.bl (a.all id)) (λc d h=>by
 unfold gb at h
 split at h
 .obtain⟨a,b,rfl⟩:=qc h
  grind
 .cases h) λG a=>by rw[Rp]
end
end
section
variable {K:W7}
section
variable {prog:P7}{w:World}{A:Around}{E:AA}{s:Shared}
def Sv(b:s.heap.IsTupleIter d t i)(l:s.heap.IsTuple t a)(j:a[i]?=some x)(k:∀p,p.IsTupleIter d t (i+1)->Heap.SameBut d s.heap p->Q x { s with heap:=p }):
 wpAny (mZ prog w) A (Builtin.SmallTypes.nextOf (.ref d)) Q E s:=by
 obtain⟨o,e,h,c⟩:=id b;obtain⟨n,f,_,m,g⟩:=l
 refine wa (wpAny_callSpecial?_slot b.typeIs F.slot_tuple_iterator_next
  (we F.slot_tuple_iterator_next b.typeIs F.entry_tuple_iterator_next ?_ (F.args_tuple_iterator_next_1 _)))
 show wpAny _ _ (field _ 0>>=_) _ _ s;refine wa (wpAny_field e c (x:=.ref t) rfl (wa (wpAny_field e c (x:=.int i 0) rfl (wa (wpAny_seqItems f g ?_)))));simp [j]
 exact wa (wpAny_setField e c (by simp) (wc ⟨x,rfl,wc (k _ (⟨_,wx _ e (Obj.isFreed_of_fields (je c _)),(Obj.cls_mapFields ..).trans h,by
  rw[je c];simp[rawInt]⟩) (.update ..))⟩))
theorem Sw(j:A.handled=none)(a:s.heap.IsTupleIter d l i)(m:s.heap.IsTuple l b)(k:b[i]?=none)(n:∀t e,Heap.ExtBut d s.heap t->(∃o,t.get? e=some o/\o.cls=.type "StopIteration")->E (.ref e) { s with heap:=t }):
 wpAny (mZ prog w) A (Builtin.SmallTypes.nextOf (.ref d)) Q E s:=by
 obtain⟨o,g,r,h⟩:=id a;obtain⟨p,f,_,q,c⟩:=m
 refine wa (wpAny_callSpecial?_slot a.typeIs F.slot_tuple_iterator_next
  (we F.slot_tuple_iterator_next a.typeIs F.entry_tuple_iterator_next ?_ (F.args_tuple_iterator_next_1 _)))
 show wpAny _ _ (field _ 0>>=_) _ _ s;refine wa (wpAny_field g h (x:=.ref l) rfl (wa (wpAny_field g h (x:=.int i 0) rfl (wa (wpAny_seqItems f c ?_)))));simp [k];refine wa (wpAny_rule (wa (wpAny_setField g h (by simp) (wa (wa (m:=firstArgMember _ _) (wpAny_of_eq (a:=.none) (by first|rfl|(rfl)) (wg (wa (wpAny_handled ?_)) (by size_fits))))))))
 first|rw[j]|rw[j]
 refine wa (wc (wpAny_throw ?_));exact n _ _ (((wv ..).extBut.push _).push _) ⟨_,qp _ rfl,rfl⟩
theorem Sx{i:Nat}{Q:AA}(he:IsEnum s.heap e z i W)(Y:s.heap.IsTupleIter z l i)(hl:s.heap.IsTuple l M)(hx:M[i]?=some x)(B:e≠z)(hQ:∀K,IsEnumOut K e z ((i:Int)+1) x (~~~s)->K.IsTupleIter z l (i+1)->
  K.get? (~~~s)=some { cls:=.type "tuple",data:=.seq #[.int i s.toks,x] }->K.objs.size= ~~~s+1->
  (∀b o,b≠e->b≠z->s.heap.get? b=some o->K.get? b=some o)->Q (.ref (~~~s)) { s with heap:=K,toks:=s.toks+1 }):
 wpAny (mZ prog w) A (Builtin.«enumerate.__next__» ⟨[.ref e],[]⟩) (λZ s'=>∃v,Z=.done (.ret v)/\Q v s') E s:=by
 obtain⟨V,g,d,tk,os⟩:=s;show wpAny _ _ (field (.ref e) 2>>=_) _ _ _;refine wa (wpAny_field he rfl (x:=.ref z) rfl ?_);refine wa (Sv Y hl hx λh₁ D t=>?_);have p:=(t.2 e B).trans he;refine wa (wpAny_field p rfl (x:=rawInt i) rfl ?_);refine wa (wpAny_field p rfl (x:=.none) rfl ?_);refine wa (wpAny_mkInt ?_);refine wa (wpAny_setField_rec p (by simp) λU P u=>?_);refine wa (wpAny_setField_rec P (by simp) λm N c=>?_);replace c:Heap.SameBut e U m:=c;show wpAny _ _ _ _ _ ⟨m,g,d,tk+1,os⟩;refine wa (wpAny_newTuple ?_);have j:IsEnum (m.push { cls:=.type "tuple",data:=.seq #[.int i tk,x] }) e z ((i:Int)+1) W:=qe _ N;generalize f:m.push _=n at j
 have G:m.objs.size=V.objs.size:=by rw[c.1,u.1,t.1]
 have H:e<V.objs.size:=ql he
 have R:n.get? V.objs.size=some { cls:=.type "tuple",data:=.seq #[.int i tk,x] }:=by rw[<-f,<-G];exact qp _ rfl
 have J:n.objs.size=V.objs.size+1:=by rw[<-f,ww,G]
 have S:∀b o,b≠e->b≠z->V.get? b=some o->n.get? b=some o:=λb o y O hb=>by
  rw[<-f];exact qe _ (c.extBut b o y (u.extBut b o y (t.extBut b o O hb)))
 have C:n.IsTupleIter z l (i+1):=by
  rw[<-f];obtain⟨o,ho,r⟩:=D.at λo q=>c.extBut z o (Ne.symm B) (u.extBut z o (Ne.symm B) q);exact⟨o,qe _ ho,r⟩
 show wpAny _ _ _ _ _ ⟨n,g,d,tk+1,os⟩;rw[G];refine wa ?_
 .refine wa (wpAny_field j rfl (x:=.none) rfl (wc ?_))
  refine wa (wpAny_rule ?_);refine wa (wpAny_field j rfl (x:=W) rfl ?_);refine wa (wpAny_setField_rec j (by simp) λh₅ I h=>?_);refine wa ?_
  .refine wa (wpAny_setField_rec I (by simp) λX L k=>?_)
   refine wpAny_setField_rec L (by simp) λF T a=>?_;replace a:Heap.SameBut e X F:=a;refine wa (wpAny_letGo (wc ⟨_,rfl,hQ F T ?_ ?_ ?_ ?_⟩))
   .exact C.at λo q=>a.extBut z o (Ne.symm B) (k.extBut z o (Ne.symm B) (h.extBut z o (Ne.symm B) q))
   .exact a.extBut _ _ (Nat.ne_of_gt H) (k.extBut _ _ (Nat.ne_of_gt H) (h.extBut _ _ (Nat.ne_of_gt H) R))
   .rw[a.1,k.1,h.1,J]
   .exact λb o y O hb=>a.extBut b o y (k.extBut b o y (h.extBut b o y (S b o y O hb)))
def Sy{i:Nat}(n:IsEnum s.heap e g i p)(h:s.heap.IsTupleIter g l i)(t:s.heap.IsTuple l f)(q:f[i]?=some x)(j:e≠g)(r:∀u,IsEnumOut u e g ((i:Int)+1) x (~~~s)->u.IsTupleIter g l (i+1)->
  u.get? (~~~s)=some { cls:=.type "tuple",data:=.seq #[.int i s.toks,x] }->u.objs.size= ~~~s+1->
  (∀b o,b≠e->b≠g->s.heap.get? b=some o->u.get? b=some o)->Q (some (.ref (~~~s))) { s with heap:=u,toks:=s.toks+1 }):
 wpAny (mZ prog w) A (pyNext (.ref e)) Q E s:=by
 have m:s.TypeIs (.ref e) _:=⟨_,n,rfl⟩
 exact wa (jf (wpAny_callSpecial?_slot m F.slot_enumerate_next
  (we F.slot_enumerate_next m F.entry_enumerate_next
   (Sx n h t q j λu a b c d k=>wc (r u a b c d k)) (F.args_enumerate_next_1 _))))
def Sz{i:Nat}(m:A.handled=none)(g:IsEnum s.heap e c i r)(b:s.heap.IsTupleIter c l i)(q:s.heap.IsTuple l a)(j:a[i]?=none)(n:∀t,Heap.ExtBut c s.heap t->Q none { s with heap:=t }):wpAny (mZ prog w) A (pyNext (.ref e)) Q E s:=by
 have h:s.TypeIs (.ref e) _:=⟨_,g,rfl⟩
 refine wa (jf (wpAny_callSpecial?_slot h F.slot_enumerate_next
  (we F.slot_enumerate_next h F.entry_enumerate_next ?_ (F.args_enumerate_next_1 _))))
 show wpAny _ _ (field _ 2>>=_) _ _ _;refine wa (wpAny_field g rfl (x:=.ref c) rfl (wa (Sw m b q j λt x d f=>?_)));obtain⟨o,p,k⟩:=f;exact wa (wpAny_isInstance ⟨o,p,k⟩ isSubtype_stop (wc (n _ d)))
def SA(l:Addr)(a:Array Value)(n:Nat)(f:Option Addr)(k:Array (Option Value)):
 Meets (Builtin.«enumerate.__new__» ⟨[.type "enumerate",.ref l],[]⟩) (λ_ R s=>s.heap.get? l=some { cls:=.type "tuple",dict:=f,data:=.seq a n,slots:=k }/\
  R (.ok (.ret (.ref (s.heap.push { cls:=.type "tuple_iterator",data:=.fields #[.ref l,.int 0 0] }).objs.size)))
   { s with heap:=(s.heap.push { cls:=.type "tuple_iterator",data:=.fields #[.ref l,.int 0 0] }).push { cls:=.type "enumerate",data:=.fields #[.none,.bool false,.ref (~~~s),rawInt 0,.none,.none] } }):=
 .of_wp λo w A R s h=>by
  obtain⟨j,g,d,p,os⟩:=s;obtain⟨b,h⟩:=h;have i:=sub_enumerate
  have e:Heap.IsTuple (Shared.heap ⟨j,g,d,p,os⟩) l a:=⟨_,b,rfl,n,rfl⟩
  wp_walk using m.AutoSeq1.wpAny_loadPart' b
  refine wpAny_stack_any λst=>wc ?_
  split
  .rename_i c _ _ _ _ _
   cases (c==Value.type "enumerate")
   .wp_walk using m.AutoSeq1.wpAny_loadPart' b,wpAny_pyIter_tuple e
    exact⟨_,rfl,h⟩
   .wp_walk using m.AutoSeq1.wpAny_loadPart' b,wpAny_pyIter_tuple e
    exact⟨_,rfl,h⟩
  .wp_walk using m.AutoSeq1.wpAny_loadPart' b,wpAny_pyIter_tuple e
   exact⟨_,rfl,h⟩
theorem SB(m:s.heap.IsTuple l a)(h:∀r,IsEnum r (~~~s+1) (~~~s) 0 .none->r.IsTupleIter (~~~s) l 0->r.objs.size= ~~~s+2->
  (∀b o,s.heap.get? b=some o->r.get? b=some o)->Q (.ref (~~~s+1)) { s with heap:=r }):
 wpAny (mZ prog w) A (call (.type "enumerate") [.ref l]) Q E s:=by
 obtain⟨⟨c,d,q,g⟩,p,j,n,k⟩:=m;subst j k
 refine callType_new F.called_enumerate (by decide) (F.typeCall_enumerate_1 _) (F.newCall_enumerate_1 _) (λe=>F.args_object_init_2 e _) F.entry_enumerate_new
  (SA l a n d g) ⟨p,?_⟩
 have i:(s.heap.push { cls:=.type "tuple_iterator",data:=.fields #[.ref l,.int 0 0] }).objs.size=_:=ww ..;rw[i]
 have f:IsEnum ((s.heap.push { cls:=.type "tuple_iterator",data:=.fields #[.ref l,.int 0 0] }).push
  { cls:=.type "enumerate",data:=.fields #[.none,.bool false,.ref (~~~s),rawInt 0,.none,.none] }) (~~~s+1) (~~~s) 0 .none:=by
  have:=qp (s.heap.push { cls:=.type "tuple_iterator",data:=.fields #[.ref l,.int 0 0] })
   (o:={ cls:=.type "enumerate",data:=.fields #[.none,.bool false,.ref (~~~s),rawInt 0,.none,.none] }) rfl
  grind
 refine⟨⟨_,f,rfl⟩,h _ f ⟨_,qe _ (qp _ rfl),rfl,rfl⟩ (by simp_all) λb o x=>qe _ (qe _ x)⟩
end
theorem LV{σ:L2.St}{ch:List Addr}{T:Addr}(I:Inv X pins σ H s)(f:∀b∈ch,cJ X pins H b)(k:∀b u,b∉ch->s.heap.get? b=some u->h'.get? b=some u)(g:(~~~s)<=T)(p:ObjOk X.prog X.w (upd H T o) h' T o):Inv X pins σ (upd H T o) { s with heap:=h',toks:=t' }:=by
 have d:=I.hok.fresh g
 have j:∀b u,H b=some u->b∉ch:=λb u e z=>by rw[(f b z).1]at e;cases e
 refine I.step (λb x=>?_) (λb u _ _ a e _=>k b u a e) (λb u _ _ a e _=>⟨u.slots,k b u a e⟩) (λb u _ e n=>?_)
  (λb u a e=>⟨u,k b u a e⟩) (λb E e=>?_) (λb u E e=>?_) (λb G e=>⟨#[],?_⟩) (λm l=>?_) (λb u e=>?_) I.bare
 .obtain⟨_,B,_,C,y,A⟩:=f b x
  grind
 .rwa [Yh (qm (Qi (ql e) g))]
 .rwa [Yh (Yk e d)]
 .rwa [Yh (Yk e d)]
 .rw[Yh (Yk e d),e];simp
 .obtain⟨h,t,i,w,r⟩:=l
  exact⟨h,t,i,k _ h (λz=>(f _ z).2.1 rfl) w,r⟩
 .by_cases x:b=T
  .subst x;rw[Yg]at e;grind
  .rw[Yh x]at e
   refine(I.hok b u e).stay (λc v a q=>k c v ?_ q) (λc q=>by rwa [Yh (Yk q d)]) λc E q=>by rwa [Yh (Yk q d)]
   grind
def oe(K:W7)(a:Addr):It:=
 ⟨λi H=>∃b x,SqL K H a b/\b[i]?=some x,λi H x c=>∃y p,(∀b,SqL K H a b->b[i]?=some y)/\H p=none/\x=.ref p/\c=upd H p (.tup [.int i,y]),λi H=>∃b,SqL K H a b/\b.length<=i⟩
def og(K:W7)(a:Addr):It:=
 ⟨λi H=>∃b x,SqT K H a b/\b[i]?=some x,λi H x c=>∃y p,(∀b,SqT K H a b->b[i]?=some y)/\H p=none/\x=.ref p/\c=upd H p (.tup [.int i,y]),λi H=>∃b,SqT K H a b/\b.length<=i⟩
section
variable {elts:AK}{x1:Nat}{pt:Pos}
theorem SC(a j e:Addr)(n:e≠j):d3 P w K (.Tuple elts x1 pt) (oe K a) [e,j] e (λi h=>(∃g,IsEnum h e j i g)/\h.IsListIter j a i) where
 mem:=by simp
 obj:=λi h st b hb=>by
  obtain⟨⟨g,l⟩,f⟩:=st;rcases qu hb with rfl|hb
  .grind
  .obtain⟨o,q,c,d⟩:=f
   grind
 keep:=λi h h' st k=>by
  obtain⟨⟨g,l⟩,f⟩:=st;exact⟨⟨g,k e (by simp) _ l⟩,f.at λo q=>k j (by simp) o q⟩
 item:=by
  intro X J A F M i pins s σ H E I y st G;subst J A F;obtain⟨xs,x,v,C⟩:=G;obtain⟨its,B,p,hz⟩:=I.list v;obtain⟨u,hu,T⟩:=B.get C;obtain⟨⟨g,l⟩,f⟩:=st;refine wpAny_pyNext_enum_item l f p.isList (x:=u) (by grind) n λh' ho r N hsz O=>?_;refine⟨_,rfl,wpAny_letOwnedTupleGo_enum ho λh2 D m=>?_⟩;have U:=I.fresh
  have t:∀b∈[e,j],b≠(~~~s):=λb hb z=>by
   rcases qu hb with rfl|hb
   .grind
   .obtain⟨o,q,_⟩:=f
    exact absurd (ql q) (by grind)
  have Q:∀b o,b∉[e,j]->_:=λb o hb q=>by
   have L:b≠e:=λz=>hb (by simp[z]);have S:b≠j:=λz=>hb (by simp[z]);exact(m.2 b L).trans (O b o L S q)
  have W:=(m.2 _ (Ne.symm (t e (by simp)))).trans N;refine⟨.ref _,upd H _ _,LV (s:=s) (t':=s.toks+1) I y Q (qv _) ?_,rfl,⟨x,~~~s,λys R=>by rw[I.list_inj R v];exact C,U,rfl,rfl⟩,⟨⟨_,by simpa using D⟩,r.at λo q=>(m.2 j (Ne.symm n)).trans q⟩,λb hb=>?_⟩
  .exact⟨by rw[jg];grind,[.int i s.toks,u],.cons ⟨_,rfl⟩ (.cons T .nil),_,W,rfl,0,rfl⟩
  .rw[Yh (t b hb)];exact(y b hb).1
 done:=by
  intro X J A F M i pins s σ H E I y st G;subst J A F;obtain⟨xs,v,C⟩:=G;obtain⟨its,B,p,hz⟩:=I.list v;obtain⟨⟨g,l⟩,f⟩:=st;obtain⟨f0,f1,f2,V,Z,f5⟩:=y j (by simp);have hl:=B.length
  exact wpAny_pyNext_enum_end (I.ok.hd M) l f p.isList (by simp;lia) λh' Y=>⟨rfl,I.turned (λb o hb e=>Y b o hb e) f0 f1 V Z f5⟩
 self:=λ_ _ _ _ _ st h=>let ⟨⟨_,l⟩,_⟩:=st;wpAny_pyIter_enum l h
theorem SD(a j e:Addr)(n:e≠j):d3 P w K (.Tuple elts x1 pt) (og K a) [e,j] e (λi h=>(∃g,IsEnum h e j i g)/\h.IsTupleIter j a i) where
 mem:=by simp
 obj:=λi h st b hb=>by
  obtain⟨⟨g,l⟩,f⟩:=st;rcases qu hb with rfl|hb
  .grind
  .obtain⟨o,q,c,d⟩:=f
   grind
 keep:=λi h h' st k=>by
  obtain⟨⟨g,l⟩,f⟩:=st;exact⟨⟨g,k e (by simp) _ l⟩,f.at λo q=>k j (by simp) o q⟩
 item:=by
  intro X J A F M i pins s σ H E I y st G;subst J A F;obtain⟨xs,x,v,C⟩:=G;obtain⟨its,B,p,hz⟩:=I.tuple v;obtain⟨u,hu,T⟩:=B.get C;obtain⟨⟨g,l⟩,f⟩:=st;refine Sy l f (p) (x:=u) (by grind) n λh' ho r N hsz O=>?_;refine⟨_,rfl,wpAny_letOwnedTupleGo_enum ho λh2 D m=>?_⟩;have U:=I.fresh
  have t:∀b∈[e,j],b≠(~~~s):=λb hb z=>by
   rcases qu hb with rfl|hb
   .grind
   .obtain⟨o,q,_⟩:=f
    exact absurd (ql q) (by grind)
  have Q:∀b o,b∉[e,j]->_:=λb o hb q=>by
   have L:b≠e:=λz=>hb (by simp[z]);have S:b≠j:=λz=>hb (by simp[z]);exact(m.2 b L).trans (O b o L S q)
  have W:=(m.2 _ (Ne.symm (t e (by simp)))).trans N;refine⟨.ref (~~~s),upd H _ _,LV (s:=s) (t':=s.toks+1) I y Q (qv _) ?_,rfl,⟨x,~~~s,λys R=>by rw[I.tuple_inj R v];exact C,U,rfl,rfl⟩,⟨⟨_,by simpa using D⟩,r.at λo q=>(m.2 j (Ne.symm n)).trans q⟩,λb hb=>?_⟩
  .exact⟨by rw[jg];grind,[.int i s.toks,u],.cons ⟨_,rfl⟩ (.cons T .nil),_,W,rfl,0,rfl⟩
  .rw[Yh (t b hb)];exact(y b hb).1
 done:=by
  intro X J A F M i pins s σ H E I y st G;subst J A F;obtain⟨xs,v,C⟩:=G;obtain⟨its,B,p,hz⟩:=I.tuple v;obtain⟨⟨g,l⟩,f⟩:=st;obtain⟨f0,f1,f2,V,Z,f5⟩:=y j (by simp);have hl:=B.length
  exact Sz (I.ok.hd M) l f (p) (by simp;lia) λh' Y=>⟨rfl,I.turned (λb o hb e=>Y b o hb e) f0 f1 V Z f5⟩
 self:=λ_ _ _ _ _ st h=>let ⟨⟨_,l⟩,_⟩:=st;wpAny_pyIter_enum l h
variable {X:Cx}{pos:Pos}
def BJ(K:W7)(c:TA):TI:=λe H R=>c e H λf b=>∃a d,f=[.ref a]/\((SqL K b a d/\(d.length<=sizeLine->R (oe K a) b))\/(SqT K b a d/\(d.length<=sizeLine->R (og K a) b)))
theorem BK(B:Gl X "enumerate")(w:X.mg "enumerate"=none)(y:PA X [l] A)(hs:starEach [l] X.env=[(false,eval l X.env)]:=by rfl):PI X (.Tuple elts x1 pt) (.Call (.Name "enumerate" p) [l] [] pos) (BJ X.K A):=by
 intro J s K H R I h;refine Call_ (iP I B w boot_enumerate (PyProof.Rows.callWith_type1 (az (y pos _ s K H _ I h) λM c t=>?_) hs rfl));obtain⟨N,v,f,x,z⟩:=t;obtain⟨a,O,rfl,q⟩:=z;obtain⟨u,rfl,D⟩:=ee x;cases D
 have j:∀(k:Heap),k.objs.size=c.heap.objs.size+2->(∀b o,c.heap.get? b=some o->k.get? b=some o)->∀b∈[c.heap.objs.size+1,c.heap.objs.size],_:=λk n g b L=>by
  have i:c.heap.objs.size<=b:=by
   grind
  exact f.fpOk i (f.hok.fresh i)
 rcases q with⟨r,q⟩|⟨r,q⟩
 .obtain⟨F,C,G,n⟩:=f.list r
  exact call_enumerate_list G.isList λk m d e g=>wpAny_pyIter_enum m (⟨_,[c.heap.objs.size+1,c.heap.objs.size],_,_,v,rfl,f.kept g,SC a _ _ (Nat.succ_ne_self _),⟨⟨_,m⟩,d⟩,j k e g,q n⟩)
 .obtain⟨F,C,G,n⟩:=f.tuple r
  exact SB (G) λk m d e g=>wpAny_pyIter_enum m (⟨_,[c.heap.objs.size+1,c.heap.objs.size],_,_,v,rfl,f.kept g,SD a _ _ (Nat.succ_ne_self _),⟨⟨_,m⟩,d⟩,j k e g,q n⟩)
def fi(l:AN):AN:=(List.range l.length).map λi:Nat=>.tup [.int i,l.getD i .non]
def fG(c:D):Option AN:=(Yc c).map fi
theorem BM{i:Nat}(h:(fi l)[i]?=some d):∃e,l[i]?=some e/\d=.tup [.int i,e]:=by
 unfold fi at h;grind
def lP(l:AN):(fi l).length=l.length:=by simp[fi]
def Gr.newTup(s:Same G H)(a:H p=none)(i:Nat)(r:Rp K G d x):∃b,Gr H G (upd H p (.tup [.int i,x])) b/\Rp K b (.tup [.int i,d]) (.ref p):=⟨_,.new s a _,⟨p,_,rfl,Yg,.cons (by rw[Rp]) (.one (r.mono (Gr.new s a _).g))⟩⟩
end
end
section
variable {K:W7}
def gD(k:Int):Value->Bool
 | .int i _=>i==k
 | .bool b=>(if b then 1 else 0)==k
 | _=>false
theorem lQ(h:gD k v=true):(∃t,v=.int k t)\/∃b:Bool,v=.bool b/\k=if b then 1 else 0:=by
 cases v with
 | int i t=>
   have e:=by simpa [gD]using h
   grind
 | bool b=>
   have e:=by simpa [gD]using h
   grind
 | _=>simp[gD]at h
theorem SF(h:Q (hashInt (if b then 1 else 0)) { s with toks:=s.toks+1 }):
 wpAny (mZ prog w) A (pyHash (.bool b)) Q E s:=by
 have a:s.TypeIs (.bool b) "bool":=rfl;refine wa ?_;refine wc ?_;refine wa (wpAny_specialOf a F.slot_bool_hash.lookup ?_);refine wa (wpAny_specialOf a F.slot_bool_hash.lookup ?_)
 refine wa (wpAny_callSpecialIfBoundUnlessNone?_slot a F.slot_bool_hash
  (we F.slot_bool_hash a entry_int_hash
   (wpAny_ret_mkInt ?_) (args_int_hash _)))
 show wpAny _ _ (if _ then _ else _) Q E _;rw[if_pos (by grind)];exact wc h
def dM(prog:P7)(w:World):KeyKind prog w Int where
 is:=gD
 hash:=hashInt
 inj:=λv a b j m=>by
  rcases lQ j with⟨t,rfl⟩|⟨c,rfl,rfl⟩
  .have e:a=b:=by simpa [gD]using m
   exact e
  .have e:=by simpa [gD]using m
   exact e
 byValue:=λk v h=>by
  rcases lQ h with⟨t,rfl⟩|⟨c,rfl,rfl⟩<;>rfl
 pyHash:=λg h=>by
  rcases lQ g with⟨t,rfl⟩|⟨c,rfl,rfl⟩
  .exact wpAny_pyHash_int h
  .exact SF h
 eqBool:=λ{A E s a b u v Q} i g h=>by
  rcases lQ i with⟨t,rfl⟩|⟨c,rfl,rfl⟩
  .rcases lQ g with⟨l,rfl⟩|⟨f,rfl,rfl⟩
   .exact wpAny_eqBool_int (by grind)
   .exact SeqAt.EqAt.int_bool a t f _ _ _ _ (by grind)
  .rcases lQ g with⟨l,rfl⟩|⟨f,rfl,rfl⟩
   .exact SeqAt.EqAt.bool_int c b l _ _ _ _ (by grind)
   .refine SeqAt.EqAt.bool_bool c f _ _ _ _ ?_
    have e:(c==f)=decide ((if c=true then (1:Int)else 0)=if f=true then 1 else 0):=by grind
    grind
 «strs»:=λk x t v h=>by simp[gD]at h
def BN(h:g9 x=some i)(r:RelV x u):(dM P w).is i u=true:=by
 cases x<;>simp[g9]at h
 .subst h
  cases (r);simp[dM,gD]
 .subst h
  obtain⟨t,rfl⟩:=r;simp[dM,gD]
theorem LW:∀{xs:AM}{ks:AF}{us:AC},dR xs=some ks->Vals xs us->ItemsAre (dM P w) ks us
 | [],ks,us,h,r=>by
   cases h;cases r;exact .nil
 | x::xs,ks,us,h,r=>by
   obtain⟨i,c,h⟩:=qa h;obtain⟨l,b,rfl⟩:=qc h
   cases r with
   | cons a d=>exact .cons (BN c a) (LW b d)
def jZ(f:HOk P w H h)(e:H b=some (.tup ys))(n:dR ys=some ks):(tupleKind (dM P w)).is h ks b:=by
 obtain⟨_,a,r,o,g,d,k,c⟩:=f b _ e;exact⟨o,a.toArray,k,g,d,c,by simpa using LW n r⟩
abbrev bc(nks:List (List Int×Addr))(us:AC):List (List Int×Addr×Value):=(nks.zip us).map λp=>(p.1.1,p.1.2,p.2)
theorem SG(h:us.length=nks.length):(bc nks us).map (·.1)=nks.map (·.1):=by
 have:nks=(nks.zip us).map (·.1):=by rw[List.map_fst_zip (by lia)]
 conv=>rhs;rw[this]
 simp
def oh(b:HOk P w H h)(k:Same G H)(e:H a=some (d5 a nks vxs j))(v:nks.length=vxs.length)(hn:(nks.map (·.1)).Nodup)(u:∀p∈nks,∃ys,G p.2=some (.tup ys)/\dR ys=some p.1):(a==sysModules)=false/\∃us,Vals vxs us/\us.length=nks.length/\h.DictOfH (tupleKind (dM P w)) a (bc nks us):=by
 obtain⟨⟨i,us,o,q,r,t,m,n,l⟩,_⟩:=b a _ e
 have c:us.length=nks.length:=by rw[v,r.length]
 refine⟨i,us,r,c,o,q,j,t,m,n,?_,λx g=>?_,by rwa [SG c]⟩
 .rw[l,Qf]
  rfl
 .obtain⟨p,d,rfl⟩:=qy g
  obtain⟨ys,f,s⟩:=u p.1 (List.of_mem_zip d).1;exact jZ b (k _ _ f) s
def Yn{a b:Type}[DecidableEq a]:List a->List b->a->Option b
 | k::ks,v::vs,x=>if k=x then some v else Yn ks vs x
 | _,_,_=>none
theorem BO(k:AF):∀(nks:List (List Int×Addr)) (us:AC),(atKey (bc nks us) k).map (·.2)=Yn (nks.map (·.1)) us k
 | [],us=>by cases us<;>simp[atKey,Yn]
 | p::nks,[]=>by simp[atKey,Yn]
 | p::nks,u::us=>by
   by_cases e:p.1=k
   .simp[atKey,Yn,e]
   .simp only[bc,List.zip_cons_cons,Qd,atKey,List.find?_cons,e,Yn]
    exact(BO k nks us)
theorem LY[DecidableEq a](x:a):∀{ks:List a}{vxs:AM}{us:AC},Vals vxs us->RelO (Yn ks vxs x) (Yn ks us x)
 | [],_,_,_=>.intro
 | k::ks,_,_,.nil=>.intro
 | k::ks,_,_,.cons r t=>by
   by_cases e:k=x
   .simp [Yn,if_pos e];exact r
   .simp [Yn,if_neg e];exact LY x t
theorem lR[DecidableEq a](x:a):∀{ks:List a}{vs:AN}{vxs:AM},RpL K G vs vxs->(∀d,Yn ks vs x=some d->∃v,Yn ks vxs x=some v/\Rp K G d v)/\(Yn ks vs x=none->Yn ks vxs x=none)
 | [],_,_,_=>⟨λd h=>by simp[Yn]at h,λ_=>by simp[Yn]⟩
 | k::ks,[],_,r=>by
   subst r;exact⟨λd h=>by simp[Yn]at h,λ_=>by simp[Yn]⟩
 | k::ks,d::vs,_,r=>by
   obtain⟨y,f,rfl,c,b⟩:=r;by_cases e:k=x
   .simp [Yn]
    grind
   .simp [Yn,if_neg e]
    exact lR x b
def aJ{a b:Type}[DecidableEq a]:List a->List b->a->b->List b
 | k::ks,v::vs,x,y=>if k=x then y::vs else v::aJ ks vs x y
 | _,vs,_,_=>vs
theorem oi[DecidableEq a](x:a)(y:b):∀(ks:List a) (vs:List b),(aJ ks vs x y).length=vs.length
 | [],vs=>by cases vs<;>simp[aJ]
 | k::ks,[]=>by simp[aJ]
 | k::ks,v::vs=>by
   simp [aJ]
   split
   .simp
   .simp[oi x y ks vs]
theorem LZ[DecidableEq a](x:a)(b:RelV y u):∀{ks:List a}{vxs:AM}{us:AC},Vals vxs us->Vals (aJ ks vxs x y) (aJ ks us x u)
 | [],_,_,.nil=>.nil
 | [],_,_,.cons r t=>.cons r t
 | k::ks,_,_,.nil=>.nil
 | k::ks,_,_,.cons r t=>by
   simp [aJ]
   split
   .exact .cons b t
   .exact .cons r (LZ x b t)
theorem uH[DecidableEq f](x:f)(c:Rp K G d y):∀{ks:List f}{vs:AN}{vxs:AM},RpL K G vs vxs->RpL K G (aJ ks vs x d) (aJ ks vxs x y)
 | [],[],_,r=>by simpa [aJ]using r
 | [],_::_,_,r=>by
   obtain⟨z,g,rfl,b,a⟩:=r;exact .cons b a
 | k::ks,[],_,r=>by
   subst r;exact .nil
 | k::ks,e::vs,_,r=>by
   obtain⟨z,g,rfl,b,a⟩:=r;simp [aJ]
   split
   .exact .cons c a
   .exact .cons b (uH x c a)
theorem L0{b:Addr}:∀{nks:List (List Int×Addr)}{us:AC},us.length=nks.length->(nks.map (·.1)).Nodup->k∈nks.map (·.1)->(bc nks us).map (putAt k u)=bc nks (aJ (nks.map (·.1)) us k u)
 | [],us,_,_,h=>by simp at h
 | p::nks,[],d,_,_=>by simp at d
 | p::nks,v::us,d,f,l=>by
   rw[Qd,List.nodup_cons]at f;by_cases e:p.1=k
   .have a:k∉nks.map (·.1):=by grind
    simp only[bc,List.zip_cons_cons,Qd,aJ,e]
    congr 1
    .simp[putAt,e]
    .refine(Qq λx g=>?_).trans (List.map_id _)
     obtain⟨q,i,rfl⟩:=qy g;have:¬_:=λz=>a (List.mem_map.mpr ⟨q.1,(List.of_mem_zip i).1,z⟩);simp[putAt,this]
   .have c:k∈nks.map (·.1):=by
     grind
    have j:=L0 (b:=b) (u:=u) (us:=us) (by grind) f.2 c;simp only[bc,List.zip_cons_cons,Qd,aJ,e]
    congr 1
    .simp[putAt,e]
theorem j0[DecidableEq a]:∀{ks:List a}{vs:List c},vs.length=ks.length->(Yn ks vs x=none↔x∉ks)
 | [],_,_=>by simp[Yn]
 | k::ks,[],h=>by simp at h
 | k::ks,v::vs,h=>by
   by_cases e:k=x
   .simp[Yn,e]
   .have b:¬x=k:=λz=>e z.symm
    simp [Yn,e,b];exact j0 (by simpa using h)
end
section
open Sem (wp)
variable {K:W7}
def SH:typeLookup (.type "list_reverseiterator") "__len__"=pure none:=by kernel_rfl
def BP:typeLookup (.type "list_reverseiterator") "__length_hint__"=pure (some (.builtin "list_reverseiterator.__length_hint__")):=by kernel_rfl
theorem SI{prog:P7}{w:World}{A:Around}{s:Shared}{R:Result->Shared->Prop}{I:Addr}{o q:List Addr}{G:Array GenState->Array GenState->Prop}{n:Nat}{P:Nat->Value->Prop}{St:Nat->Shared->Prop}(W:WalksS prog w A.in1 I o q G n P St)(j:∀i s,St i s->s.TypeIs (.ref I) "list_reverseiterator")(S:Addr)(c:Value)(g:Nat)(a:St 0 s)(h:S∉o)(t:I∈o)(r:s.heap.get? S=some { cls:=.type "list",data:=.seq #[] g })(u:∀s' b k,Moved (S::q) G s s'->s'.heap.get? S=some { cls:=.type "list",dict:=none,data:=.seq b k,slots:=#[] }->ItemsOf P b n->R (.ok (.ret c)) s')(hn:n<=sizeLine):
 wpAny (mZ prog w) A.in1 (Builtin.List.listExtendWith (.ref S) (.ref I) c)
  (λl s'=>match l with|.done f=>R (.ok f) s'|.again k=>k.quiet=true/\codeAny (mZ prog w) A k R s') (λe s'=>R (.error e) s') s:=by
 have m:S≠I:=λe=>h (e ▸ t)
 have v:Builtin.List.listSameRef (.ref S) (.ref I)=false:=by simp[Builtin.List.listSameRef,m]
 refine wa (wpAny_typeOf (j 0 _ a) ?_);rw[if_neg (by grind)];refine wa (W.self 0 _ _ _ a ?_);refine wa (wd ?_);refine wa (wpAny_specialOf (j 0 _ a) SH ?_);refine wa (wpAny_specialOf (j 0 _ a) BP ?_)
 (generalize d:("list_reverseiterator.__length_hint__")=p;wp_delta;rw[show splitId p=some ("list_reverseiterator","__length_hint__") from by subst d;decide +kernel];subst d)
 refine wa (wpAny_isInstance (b:=true) (j 0 _ a) (by kernel_rfl) ?_);refine wc ?_;exact wc ⟨jb F.plain_extend_loop _,codeAny_extend_loopS W hn _ h _ n 0 _ _ _ rfl (Qh _) a r (.nil P) u⟩
section
variable {prog:P7}{w:World}{A:Around}{E:AA}{s:Shared}{I:Addr}{fp wr:List Addr}{G:Array GenState->Array GenState->Prop}{n:Nat}{P:Nat->Value->Prop}{St:Nat->Shared->Prop}
theorem SJ(W:WalksS prog w A.in1 I fp wr G n P St)(z:∀i s,St i s->s.TypeIs (.ref I) "list_reverseiterator")(u:St 0 s)(v:∀b∈fp,b< ~~~s)(H:I∈fp)(C:∀s' l,Moved wr G s s'->ItemsOf P l n->Q l.toList s')(hn:n<=sizeLine):wpAny (mZ prog w) A (collect (.ref I)) Q E s:=by
 have x:=λp=>Nat.lt_irrefl _ (v _ p);refine wa (wpAny_runValue (wy F.entry_proto_collect ?_));refine wa (wg ?_);refine wc ⟨jb F.plain_list_iadd _,wy F.entry_list_iadd ?_⟩;have g:=W.frame 0 s (s.heap.push { cls:=.type "list",data:=.seq ([]).toArray }) s.toks u (qv _) λb _ o e=>qe _ e;have k:(s.heap.push { cls:=.type "list",data:=.seq ([]).toArray }).get? _=_:=qp _ rfl
 refine wz (SI (A:=A) (R:=λr s'=>r=.ok _/\∃d j,Moved _ G _ s'/\s'.heap.get? _=some { cls:=.type "list",dict:=none,data:=.seq d j,slots:=#[] }/\ItemsOf P d n)
  W z _ _ 0 g x H k (λs' d j a b c=>⟨rfl,d,j,a,b,c⟩) hn) (λq s' h=>?_) (λe s' h=>?_)
 .have y:∀s' d j,_->s'.heap.get? (~~~s)=some { cls:=.type "list",dict:=none,data:=.seq d j,slots:=#[] }->_->
   wpAny (mZ prog w) A (match Value.ref _ with
    | Value.ref a=>do
      match (<-load a).data with
       | Data.seq D _=>pure D.toList
       | _=>unsupported "internal:collect"
    | _=>unsupported "internal:collect") Q E s':=λs' d j p t m=>by
   refine wa (wpAny_load t ?_);exact wc (C s' d (.drop_new (o:={ cls:=.type "list",data:=.seq ([]).toArray }) (tk:=s.toks) p (qv _)) m)
  cases q with
  | done f=>
    grind
  | again j=>exact⟨h.1,codeAny_mono h.2 λr B J=>by grind⟩
 grind
theorem SK{Q₁:AA}(W:WalksS prog w A.in1.in1 I fp wr G n P St)(k:∀i s,St i s->s.TypeIs (.ref I) "list_reverseiterator")(d:St 0 s)(f:∀b∈fp,b< ~~~s)(m:I∈fp)(h:∀s' a,Moved wr G s s'->ItemsOf P a n->Q₁ (.ref s'.heap.objs.size) { s' with heap:=s'.heap.push { cls:=.type "tuple",data:=.seq a } })(hsz:n<=sizeLine):
 codeAny (mZ prog w) A (.call (.builtin "tuple.__new__") ⟨[.type "tuple",.ref I],[]⟩) (wants Q₁ E) s:=by
 refine codeAny_of_tree ?_;refine wa (wpAny_of_eq (F.newCall_tuple_1 _) (wc ⟨jb F.plain_tuple_new _,wy F.entry_tuple_new ?_⟩));rw[jc F.plain_tuple_new _];have j:=sub_tuple_self;have g:=init_tuple_lookup;have l:=madeHere_tuple;have e:=k 0 s d
 wp_walk using wpAny_typeOf e,SJ (hn:=hsz) W k d f m
 intro s' a o c;show wpAny _ _ (Builtin.Tuple.tupleExact a.toList.toArray>>=λv=>ret v) _ _ _;unfold Builtin.Tuple.tupleExact;refine wa (wg ?_ (by show a.toList.toArray.size<=sizeLine;simp only[Array.toArray_toList];rw[c.1];exact hsz));refine wc ?_
 simp_all
def SM(W:WalksS prog w A.in1.in1.in1 I fp wr G n P St)(l:∀i s,St i s->s.TypeIs (.ref I) "list_reverseiterator")(g:St 0 s)(h:∀b∈fp,b< ~~~s)(k:I∈fp)(m:∀s' d,Moved wr G s s'->ItemsOf P d n->Q (.ref s'.heap.objs.size) { s' with heap:=s'.heap.push { cls:=.type "tuple",data:=.seq d } })(hsz:n<=sizeLine):
 wpAny (mZ prog w) A (call (.type "tuple") [.ref I]) Q E s:=callType_codes (Q₁:=λe a=>a.TypeIs e _/\Q e a) F.called_tuple (F.typeCall_tuple_1 _) F.entry_object_init
 (SK (hsz:=hsz) W l g h k λs' d j f=>⟨⟨_,qp _ rfl,rfl⟩,m s' d j f⟩) λe a c=>⟨c.1,F.args_object_init_2 e _,object_init_meets F.called_tuple.init.lookup F.called_tuple.made (by decide) _ w _ _ _ ⟨c.1,rfl,c.2⟩⟩
end
theorem SN{a b:Array Value}(h:ItemsOf (λi v=>a[a.size-1-i]?=some v) b a.size):b.toList=a.toList.reverse:=by
 obtain⟨d,c⟩:=h;apply List.ext_getElem?;grind
theorem L1:∀{xs:AM}{us:AC},Vals xs us->Vals xs.reverse us.reverse
 | _,_,.nil=>.nil
 | _,_,.cons r t=>by
   rw[List.reverse_cons,List.reverse_cons];exact(L1 t).append (.cons r .nil)
section
variable {X:Cx}{e:Expr}{ta:TA}{p p2 pos pos2:Pos}
def BQ{σ:L2.St}(I:Inv X pins σ H s)(g:Gl X "reversed")(i:X.mg "reversed"=none)(m:PA X [e] ta)(h:ta σ H q)(hs:starEach [e] X.env=[(false,eval e X.env)])(k:∀vs c b,Inv X pins σ c b->q vs c->∃a xs its,vs=[.ref a]/\SqL X.K c a xs/\Vals xs its/\b.heap.IsList a its.toArray/\Q (.ref b.heap.objs.size) { b with heap:=b.heap.push (revObj a ((its.toArray.size:Int)-1)) }):
 wpAny (mZ X.prog X.w) X.A (eval (.Call (.Name "reversed" p2) [e] [] pos2) X.env) Q X.xe s:=by
 refine Call_ (iP I g i boot_reversed (PyProof.Rows.callWith_type1 (az (m _ _ s σ H _ I h) λw b f=>?_) hs rfl));obtain⟨vs,c,o,l,n⟩:=f;obtain⟨a,xs,its,rfl,t,v,p,z⟩:=k vs c b o n;obtain⟨u,rfl,j⟩:=ee l;cases j;exact call_reversed_list p z
def BR(K:W7)(ta:TA):TE:=λd H Q=>ta d H λe b=>∃a c,e=[.ref a]/\SqL K b a c/\∀l,b l=none->Q (.ref l) (upd b l (.tup c.reverse))
theorem SQ(T:X.calm=true)(V:Gl X "tuple")(L:X.mg "tuple"=none)(m:Gl X "reversed")(w:X.mg "reversed"=none)(N:PA X [e] ta)(hs:starEach [e] X.env=[(false,eval e X.env)]:=by rfl)(U:starEach [.Call (.Name "reversed" p2) [e] [] pos2] X.env=[(false,eval (.Call (.Name "reversed" p2) [e] [] pos2) X.env)]:=by rfl):
 PE X (.Call (.Name "tuple" p) [.Call (.Name "reversed" p2) [e] [] pos2] [] pos) (BR X.K ta):=by
 intro f s E H Q I h;refine wpAny_Call_Name_kw (iP I V L boot_tuple ?_ (by decide) (by decide));refine PyProof.Rows.callWith_type1 ?_ U rfl;refine Calls.spliced_cons (BQ I m w N h hs λZ C y x S=>?_);obtain⟨a,K,rfl,A,q⟩:=S;obtain⟨n,r,l,Y⟩:=x.list A;refine⟨a,K,n,rfl,A,r,l.isList,Calls.spliced_nil ?_⟩
 have v:a≠y.heap.objs.size:=by
  obtain⟨o,t,_⟩:=l.isList;exact qm (ql t)
 have M:a<y.heap.objs.size:=by
  obtain⟨o,t,_⟩:=l.isList;exact ql t
 have hl:=r.length;refine SM (Walks.listRev (show X.A.in1.in1.in1.handled=none from x.ok.hd T) _ a v _).toS (λi s st=>st.2.1.typeIs) ⟨Qh _,⟨_,qp _ rfl,rfl,by simp[revObj]⟩,l.isList.push _⟩ (λb F=>?_) (by simp) (λR c j g=>?_) (by grind)
 .rw[ww]
  grind
 .have J:∀b u,y.heap.get? b=some u->_:=λb u D=>by
   have F:=ql D;refine j.heap b u (λz=>?_) (qe _ D);grind
  have G:=by simpa using SN g
  have B:Inv X f E C R:=by
   have e:=Moved.eq_with j;rw[e];exact x.kept J
  refine⟨.ref _,upd C _ _,?_,rfl,q _ (B.hok.fresh (qv _))⟩
  have O:c=c.toList.toArray:=by simp
  exact B.laid (λb o e=>qe _ e) (qv _) (⟨by grind,c.toList,by rw[G];exact L1 r,by rw[<-O];exact IsTup.new _ _⟩)
def j3(f:AU):AV:=λa=>(b1 f e_ a).map .reverse
variable {f:AU}
end
end
section
variable {K:W7}
section
variable {X:Cx}{e ie:Expr}{f fb:AU}{pos:Pos}
def BS:V->AM->Hp->VK->Prop:=λx d H Q=>∃l b c a,x=.ref l/\d=[.ref b]/\H l=some (.lst c)/\Rd H b (.lst a)/\c.length+a.length<=sizeLine/\Q .non (upd H l (.lst (c++a)))
theorem BU:tN X "list.extend" BS:=by
 intro D s L H x J v K Q I p w h;obtain⟨l,b,G,B,rfl,rfl,j,m,C,q⟩:=h;cases p;obtain⟨u,rfl,o⟩:=w.one;cases o;obtain⟨z,d,n,r,A,e⟩:=I.lstM j;obtain⟨y,a,k,i,E⟩:=m.ok I.hok;have t:=i.length
 have g:d.toArray.size+a.toArray.size<=sizeLine:=by grind
 have c:¬(!d.toArray.isEmpty&&Builtin.List.listTooLong (d.toArray.size+a.toArray.size))=true:=by
  rw[RL g];grind
 refine call_meets F.slot_list_extend ⟨_,e,rfl⟩ F.entry_list_extend (F.args_list_extend_2 _ _)
  (AutoSeq1.list_extend_list_list_0 l _ n b _ k c (by grind) (by lia)) ⟨e,E,⟨.non,_,I.lset j e (by simp) (r.append i) ?_,rfl,q⟩⟩
 grind
def eA(l:AN)(d:D):Option AN:=match d with
 | .lst m=>if l.length+m.length<=ax then some (l++m)else none
 | _=>none
end
end
section
variable {K:W7}
def SE(w:World):List DictEntry->List (Str×Str)->Prop:=Paired λe p=>e.hash=PyData.keyHash w.params p.1/\(∃t,e.key=.str p.1 t)/\(∃t,e.val=.str p.2 t)/\PyData.strOk p.2=true
def GD(K:W7)(w:World)(c:AD)(x:Str)(a:List (Str×Str)):Prop:=∃p o b d,c x=some (.ref p)/\K.lookup p=some o/\o.ExactDict/\o.data=.dict b d/\SE w b.toList a
def GI(a:AD)(x:Str)(i:Int):Prop:=∃t,a x=some (.int i t)
theorem L3:∀{l:List DictEntry}{c:List (Str×Str)},SE w l c->c.lookup k=some v->∃e t,l.find? (λe=>(PySem.strKind P w).is k e.key)=some e/\e.val=.str v t
 | _,_,.nil,h=>by simp at h
 | _,_,.cons (a:=e) (b:=p) r t,h=>by
   obtain⟨_,⟨j,d⟩,⟨i,f⟩,_⟩:=r;obtain⟨a,b⟩:=p;by_cases q:a=k
   .subst q
    simp at h;subst h;exact⟨e,i,by simp[d,PySem.strKind,Value.isStrOf],f⟩
   .have g:(k==a)=false:=by grind
    obtain⟨o,s,m,n⟩:=L3 (P:=P) t (by simpa [List.lookup_cons,g]using h)
    have:(PySem.strKind P w).is k e.key=false:=by
     rw[d];show(a==k)=_;simpa using q
    grind
theorem L4:∀{l:List DictEntry}{a:List (Str×Str)},SE w l a->∀e∈l,∃k,(PySem.strKind P w).is k e.key=true/\e.hash=(PySem.strKind P w).hash k
 | _,_,.nil,e,h=>by cases h
 | _,_,.cons (b:=p) r t,e,h=>by
   rcases qu h with rfl|h
   .obtain⟨d,⟨c,b⟩,_⟩:=r
    exact⟨p.1,by rw[b];simp[PySem.strKind,Value.isStrOf],d⟩
   .exact L4 t e h
theorem oj:∀{l:List DictEntry}{c:List (Str×Str)},SE w l c->c.lookup k=some v->PyData.strOk v=true
 | _,_,.nil,h=>by simp at h
 | _,_,.cons (b:=p) r t,h=>by
   obtain⟨a,b⟩:=p;by_cases q:k=a
   .grind
   .have d:(k==a)=false:=by simpa using q
    exact oj t (by simpa [List.lookup_cons,d]using h)
section
variable {X:Cx}{ke:Expr}{fk:AU}{pos px:Pos}{x:Str}
def hY(a:List (Str×Str)):D->Option D
 | .str k=>(a.lookup k).map .str
 | _=>none
end
def Gr.updHid(g:Gr H G d a)(c:H p=none)(f:a p=none)(o:HO):Gr H G (upd d p o) a:=
 ⟨λb u e=>by rw[Yh (Yk e c)];exact g.h b u e,g.g,λb u e=>by rw[Yh (Yk e f)];exact g.s b u e,g.n⟩
def tK(x:Str):TE:=λ_ H Q=>Q (.str x) H
def BV{X:Cx}{x:Str}{j:Nat}{pos:Pos}:PE X (.Constant (.str x) j pos) (tK x):=mN
structure MP(X:Cx)(pos:Pos)(keys:List (Option Expr))(values:AK)(ks:AJ)(fs:List AU):Prop where
 len:ks.length=fs.length
 pps:lG X pos keys values ((ks.zip fs).map λp=>(tK p.1,tOf X.K p.2))
 all:keys.all (·.isSome)=true
 kv:keys.length=values.length
 kk:keys.length=ks.length
def BW{X:Cx}{pos:Pos}:MP X pos [] [] [] []:=⟨rfl,KU,rfl,rfl,rfl⟩
def uI:List AU->AV
 | [],_=>some []
 | f::fs,ρ=>(f ρ).bind λd=>(uI fs ρ).map (d::·)
theorem L5{q g:Hp}{σ:L2.St}{ρ:Ro}:∀{ks:AJ}{fs:List AU}{ds:AN}{H G:Hp}{Q:List (V×V)->Hp->Prop},ks.length=fs.length->uI fs ρ=some ds->SR K q g σ H G ρ->
 (∀vs H' b,Gr H G H' b->RpL K b ds vs->Q ((ks.map V.str).zip vs) H')->nv ((ks.zip fs).map λp=>(tK p.1,tOf K p.2)) σ H Q
 | [],[],_,H,G,Q,_,e,s,h=>by
   cases e;exact h [] H G (.refl s.seen) .nil
 | [],_::_,_,_,_,_,a,_,_,_=>by simp at a
 | _::_,[],_,_,_,_,a,_,_,_=>by simp at a
 | x::ks,f::fs,ds,H,G,Q,a,e,s,h=>by
   obtain⟨d,m,e⟩:=qa e;obtain⟨l,r,rfl⟩:=qc e;exact tOf.at m s λv w y t j k=>L5 (by simpa using a) r k λvs n o c i=>h _ n o (t.trans c) (.cons (j.mono c.g) i)
theorem L6:∀{a b:List (aZ×V)},(a.map (·.1)).Nodup->(∀k∈a.map (·.1),bw b k=none)->gZ b a=b++a
 | [],b,_,_=>by simp[gZ]
 | p::a,b,c,f=>by
   rw[Qd,List.nodup_cons]at c;have g:=f p.1 (by simp);show gZ (bh b p.1 p.2) _=_;rw[Rx _ g,L6 c.2 λk d=>?_]
   .simp
   .rw[KJ _ _ _ _ g]
    have:¬k=p.1:=λe=>c.1 (e ▸ d);rw[if_neg this];exact f k (by simp at d ⊢;exact .inr d)
theorem BX{ks:AJ}(k:Str):∀{vs:AM},bw ((ks.map Sum.inr:List aZ).zip vs) (Sum.inr k)=Yn ks vs k:=by
 induction ks with
 | nil=>intro vs;cases vs<;>rfl
 | cons a ks b=>
   intro vs
   cases vs with
   | nil=>rfl
   | cons v vs=>
     rw[Qd,List.zip_cons_cons];by_cases e:a=k
     .rw[gW (by rw[e])]
      simp[Yn,e]
     .rw[gX (λz=>e (Sum.inr.inj z)),b]
      simp[Yn,e]
section
variable {X:Cx}{ke:Expr}{fk:AU}{pos dpos:Pos}
def hZ(ks:AJ)(fs:List AU)(fk:AU):AU:=λa=>(uI fs a).bind λb=>(fk a).bind fun
 | .str k=>Yn ks b k
 | _=>none
end
end
section
variable {K:W7}
def j4:D->Option Int
 | .int i=>some i
 | .bl b=>some (if b then 1 else 0)
 | _=>none
def j5:AN->Option AF
 | []=>some []
 | d::l=>(j4 d).bind λi=>(j5 l).map (i::·)
def eB:D->Option AF
 | .tup l=>j5 l
 | _=>none
def fj:AN->Option (List AF)
 | []=>some []
 | d::l=>(eB d).bind λk=>(fj l).map (k::·)
def BY(h:j4 d=some i)(r:Rp K G d v):g9 v=some i:=by
 cases d<;>simp[j4]at h
 .subst h r
  rfl
 .subst h r
  rfl
theorem BZ:∀{l:AN}{xs:AM}{k:AF},j5 l=some k->RpL K G l xs->dR xs=some k
 | [],xs,k,h,r=>by
   cases h;subst r;rfl
 | d::l,xs,k,h,r=>by
   obtain⟨i,c,h⟩:=qa h;obtain⟨m,b,rfl⟩:=qc h;obtain⟨x,q,rfl,a,e⟩:=r;rw[dR,BY c a,BZ b e];rfl
def om(h:eB d=some k)(r:Ct K G H d v):∃b ys,v=.ref b/\H b=some (.tup ys)/\G b=some (.tup ys)/\dR ys=some k:=by
 cases d with
 | tup l=>
   obtain⟨b,ys,rfl,⟨a,e⟩,c⟩:=r;exact⟨b,ys,rfl,a,e,BZ h c⟩
 | _=>cases h
theorem uJ:∀{ks:AN}{b:List AF}{nks:List (List Int×Addr)},fj ks=some b->RpL K G ks (nks.map λp=>V.ref p.2)->(∀p∈nks,∃ys,G p.2=some (.tup ys)/\dR ys=some p.1)->nks.map (·.1)=b
 | [],b,nks,h,r,_=>by
   cases h;rw[RpL]at r;simpa using r
 | d::ks,b,nks,h,r,f=>by
   obtain⟨k,i,h⟩:=qa h;obtain⟨m,w,rfl⟩:=qc h;obtain⟨x,q,e,v,t⟩:=r
   cases nks with
   | nil=>cases e
   | cons p nks=>
     injection e with s u;subst s u;have A:=uJ w t λp o=>f p (qg _ o);obtain⟨ys,g,n⟩:=f p qh
     cases d with
     | tup l=>
       obtain⟨a,z,c,j,y⟩:=v;injection c with c;subst c;rw[g]at j;cases j;rw[BZ i y]at n;grind
     | _=>cases i
structure oq(H:Hp)(a:Addr)(nks:List (List Int×Addr))(vxs:AM):Prop where
 at':∃ep,H a=some (d5 a nks vxs ep)
 len:nks.length=vxs.length
 nd:(nks.map (·.1)).Nodup
 keys:∀p∈nks,∃ys,H p.2=some (.tup ys)/\dR ys=some p.1
section
variable {X:Cx}
def uK{σ:L2.St}(I:Inv X pins σ H s)(d:oq H a nks vxs):
 (a==sysModules)=false/\∃us,Vals vxs us/\us.length=nks.length/\s.heap.DictOfH (tupleKind (dM X.prog X.w)) a (bc nks us):=by
 obtain⟨b,e⟩:=d.at';exact oh I.hok (.refl H) e d.len d.nd d.keys
def ot:R2:=λx y H Q=>∃a b d c e k v,x=.ref a/\y=.ref b/\oq H a d c/\H b=some (.tup e)/\dR e=some k/\Yn (d.map (·.1)) c k=some v/\Q v H
def B0(r:Vals vxs us)(b:Yn (nks.map (·.1)) vxs k=some z):∃p,atKey (bc nks us) k=some p/\RelV z p.2:=by
 have a:=LY k (ks:=nks.map (·.1)) r;rw[b,<-BO k nks us]at a
 cases h:atKey _ k with
 | none=>rw[h]at a;exact a.elim
 | some p=>rw[h]at a;exact⟨p,rfl,a⟩
theorem B1(E:X.A.units+64<cLine):IxR X ot:=by
 intro c e g s G H x y v u Q I A D h w;obtain⟨a,b,n,C,F,k,z,rfl,rfl,o,m,j,t,q⟩:=h;cases A;cases D;obtain⟨l,K,r,J,f⟩:=uK I o;obtain⟨p,B,i⟩:=B0 r t;exact tail_any f.typeIs PySem.F.slot_dict_getitem.lookup (wpAny_getItem_heap (by show _<_;grind) (jZ I.hok m j) f B ⟨z,H,I.tok _,i,q⟩) w
def j6(e:Bool):R2:=λx y H Q=>∃a b c d f k,x=.ref b/\y=.ref a/\oq H a c d/\H b=some (.tup f)/\dR f=some k/\Q (.bl (decide (k∈c.map (·.1))!=e)) H
theorem B2(a:us.length=nks.length):(atKey (bc nks us) k).isSome=decide (k∈nks.map (·.1)):=by
 have c:=BO k nks us;have b:=j0 (x:=k) (ks:=nks.map (·.1)) (vs:=us) (by grind)
 cases h:atKey _ k with
 | none=>
   grind
 | some p=>
   grind
theorem ou(p:X.A.units+64<cLine):bp X (compareOp .In) (j6 false):=by
 intro d s z H x y v u Q I l e h;obtain⟨a,b,m,o,w,k,rfl,rfl,g,j,i,q⟩:=h;cases l;cases e;obtain⟨c,t,r,f,n⟩:=uK I g;refine wpAny_in_heap (by show _<_;grind) (jZ I.hok j i) c n ⟨.bl _,H,I.tok _,?_,q⟩;rw[B2 f,Bool.bne_false];rfl
theorem SU(p:X.A.units+64<cLine):bp X (compareOp .NotIn) (j6 true):=by
 intro d s z H x y v u Q I l e h;obtain⟨a,b,m,o,w,k,rfl,rfl,g,j,i,q⟩:=h;cases l;cases e;obtain⟨c,t,r,f,n⟩:=uK I g;refine wpAny_notIn_heap (by show _<_;grind) (jZ I.hok j i) c n ⟨.bl _,H,I.tok _,?_,q⟩;rw[B2 f,Bool.bne_true];rfl
def ox(d:(a==sysModules)=false)(r:Vals vxs us)(j:h'.DictOfH (tupleKind (dM P w)) a (bc nks us)):
 ∃c,∀H',ObjOk P w H' h' a (d5 a nks vxs c):=by
 obtain⟨o,e,c,b,g,m,i,_⟩:=j;refine⟨c,λH'=>⟨⟨d,us,o,e,r,b,g,m,?_⟩,⟨o,b⟩,λb g f k=>?_⟩⟩
 .rw[i,Qf]
  rfl
 .obtain⟨d,us,o,e,r,l,h⟩:=f
  exact⟨d,us,o,e,r,k o l,h⟩
def cy(nks:List (List Int×Addr))(vxs:AM)(k:AF)(b:Addr)(v:V):List (List Int×Addr)×AM:=
 if k∈nks.map (·.1)then (nks,aJ (nks.map (·.1)) vxs k v)else (nks++[(k,b)],vxs++[v])
def B3:V->V->V->Hp->(Hp->Prop)->Prop:=λo i v H Q=>∃a b d c e k,o=.ref a/\i=.ref b/\oq H a d c/\H b=some (.tup e)/\dR e=some k/\c.length<ax/\∀f,Q (upd H a (d5 a (cy d c k b v).1 (cy d c k b v).2 f))
theorem SV(r:Vals xs us)(q:RelV v u):Vals (xs++[v]) (us++[u]):=by
 induction r with
 | nil=>exact .cons q .nil
 | cons a _ b=>exact .cons a b
theorem B4(N:X.A.units+64<cLine):jB X B3:=by
 intro x s T H o i v U R u Q I B L y h;obtain⟨a,b,c,m,O,k,rfl,rfl,p,E,C,V,q⟩:=h;cases B;cases L;obtain⟨l,j,r,f,F⟩:=uK I p;have t:=jZ I.hok E C
 have K:(bc c j).length<=sizeLine:=by
  have:(bc c j).length<=c.length:=by grind
  have S:=f6 (n:=c.length) (by rw[p.len];lia);lia
 refine wpAny_setItem_heap (hsz:=K) (by show _<_;grind) t F λJ d same=>?_;have z:=B2 (k:=k) f;obtain⟨G,D⟩:=p.at'
 have g:∃w,∀M,ObjOk X.prog X.w M J a (d5 a (cy c m k b v).1 (cy c m k b v).2 w):=by
  unfold cy;by_cases n:k∈c.map (·.1)
  .rw[if_pos n]
   rw[wm n]at z
   have e:storedH (bc c j) k b u=bc c (aJ (c.map (·.1)) j k u):=by
    unfold storedH;rw[if_pos z];exact L0 (b:=b) f p.nd n
   rw[e]at d;exact ox l (LZ k y r) d
  .rw[if_neg n]
   have e:storedH (bc c j) k b u=bc (c++[(k,b)]) (j++[u]):=by
    unfold storedH;rw[if_neg (by grind)];unfold bc;rw[List.zip_append f.symm,wt];rfl
   rw[e]at d;exact ox l (SV r y) d
 obtain⟨w,g⟩:=g;exact⟨_,lE I (by rw[D];exact .intro) same (let ⟨q,_,_,A,_⟩:=d;⟨q,A⟩) (g _),q w⟩
end
def j7(m:Same G H)(d:Dc true G H a kxs vxs):∃nks,oq H a nks vxs/\kxs=nks.map (λp=>V.ref p.2)/\∀p∈nks,∃ys,G p.2=some (.tup ys)/\dR ys=some p.1:=by
 rcases d with⟨h,_⟩|⟨_,nks,k,j,f,l,e,b⟩
 .cases h
 .exact⟨nks,⟨⟨k,j⟩,f,l,λp c=>let ⟨ys,g,i⟩:=b p c;⟨ys,m _ _ g,i⟩⟩,e,b⟩
def bx:D->D->Option D
 | .dct true b a,k=>(fj b).bind λc=>(eB k).bind λx=>Yn c a x
 | _,_=>none
def B5:d6 K ot bx:=by
 intro x y F E d H G Q h s C g q;unfold bx at h
 split at h
 .obtain⟨I,m,h⟩:=qa h
  obtain⟨z,w,l⟩:=qa h;obtain⟨a,A,c,rfl,i,k,j⟩:=C;obtain⟨f,t,rfl,o⟩:=j7 s i;obtain⟨b,p,rfl,B,D,n⟩:=om w g;have e:=uJ m k o;subst e;obtain⟨v,r,u⟩:=(lR z j).1 d l;exact⟨a,b,f,c,p,z,v,rfl,rfl,t,B,n,r,q v H G (.refl s) u⟩
 .cases h
def cO(a:Bool):D->D->Option Bool
 | k,.dct true c _=>(fj c).bind λb=>(eB k).map λx=>decide (x∈b)!=a
 | _,_=>none
def B6:el K (j6 d) (cO d):=by
 intro x y A B b H G Q h s r g q;unfold cO at h
 split at h
 .obtain⟨C,l,h⟩:=qa h
  obtain⟨z,p,rfl⟩:=qc h;obtain⟨a,i,f,rfl,u,k,w⟩:=g;obtain⟨c,o,rfl,m⟩:=j7 s u;obtain⟨b,j,rfl,t,v,n⟩:=om p r;have e:=uJ l k m;subst e;exact⟨a,b,c,f,j,z,rfl,rfl,o,t,n,q⟩
 .cases h
section
variable {X:Cx}{a b e:Expr}{fa fb f:AU}{pos:Pos}
def j8(ks vs:AN)(k d:D):Option (List D×AN):=(fj ks).bind λa=>(eB k).bind λx=>if vs.length<ax then some (if x∈a then (ks,aJ a vs x d)else (ks++[k],vs++[d]))else none
def h8(i:Nat):Ro->Option (List D×AN):=λc=>match c[i]? with
 | some (some (.od true b a))=>some (b,a)
 | _=>none
theorem SW(h:h8 i ρ=some l):ρ[i]?=some (some (B.od true l.1 l.2)):=by
 unfold h8 at h;grind
def h9(i:Nat)(c f:AU):AR:=λa=>(f a).bind λd=>(h8 i a).bind λl=>(c a).bind λk=>(j8 l.1 l.2 k d).map λb=>.nx (a.set i (some (.od true b.1 b.2)))
theorem RpL.snoc(r:Rp K G d y):∀{l:AN}{xs:AM},RpL K G l xs->RpL K G (l++[d]) (xs++[y])
 | [],_,h=>by
   subst h;exact .cons r .nil
 | e::l,_,h=>by
   obtain⟨x,q,rfl,c,g⟩:=h;exact .cons c (.snoc r g)
theorem B7(k:A.units+64<cLine)(h:wpAny (mZ prog w) A (evalPairs (pairTrees [some g] [ve] env pos)) (λvs a=>∃(b:Addr) (n:AF) (u:Value),vs=[(.ref b,u)]/\(tupleKind (dM prog w)).is a.heap n b/\a.heap.DictOfH (tupleKind (dM prog w)) (~~~s) []/\
  ∀h' t,h'.DictOfH (tupleKind (dM prog w)) (~~~s) [(n,b,u)]->Heap.SameBut (~~~s) a.heap h'->Q (.ref (~~~s)) { a with heap:=h',toks:=t }) E
  { s with heap:=s.heap.push { cls:=.type "dict",data:=.dict #[] } }):
 wpAny (mZ prog w) A (eval (.Dict [some g] [ve] pos) env) Q E s:=by
 rw[arm_eval_Dict,(zip_pairTrees [some g] [ve] env pos rfl rfl),dictDisplay_pairs _ (λz=>by cases z) (by show 1<17;lia)];refine wa (wpAny_standAt (wa (wa (wpAny_alloc ?_))));refine wa (wd ?_);refine wa (wz h (λvs a i=>?_) λ_ _ e=>e);obtain⟨b,n,u,rfl,c,j,q⟩:=i;refine wd ?_;rw[List.forIn_cons];refine wa (wa (wa (wpAny_dictSet_heap (hsz:=by grind) (by show _<_;lia) c j λh' d same=>wc ?_)));refine wc (wc (wc (wc ?_)));exact q h' _ d same
theorem B8(r:VV [(x,y)] ws):∃a u,ws=[(a,u)]/\RelV x a/\RelV y u:=by
 cases r with
 | cons r t=>
   cases t;grind
def B9(c:List (TE×TE)):TE:=λh H Q=>∀p f,H p=none->nv c h (upd H p (d5 p [] [] f)) λg d=>d p=some (d5 p [] [] f)/\∃b e n v,g=[(.ref b,v)]/\d b=some (.tup e)/\dR e=some n/\∀a,Q (.ref p) (upd d p (d5 p [(n,b)] [v] a))
theorem B_(z:X.A.units+64<cLine)(h:lG X pos [some J] [ve] i):PE X (.Dict [some J] [ve] pos) (B9 i):=by
 intro m s x H Q I q;have l:=beq_eq_false_iff_ne.mpr (.symm (qm I.big));obtain⟨E,d⟩:=ox (nks:=[]) l .nil (.new _);refine B7 z (az (h _ _ x _ _ (I.laid (t':=s.toks) (λ_ _ q=>qe _ q) (qv _) (d _)) (q _ _ (I.hok.fresh (qv _)))) λU R j=>?_);obtain⟨S,F,f,g,e,b,M,n,v,w,o,r,D⟩:=j;subst w;obtain⟨T,u,rfl,y,A⟩:=B8 g;obtain rfl:=y;obtain⟨_,O,L,_,C⟩:=oh f.hok (.refl F) e rfl List.nodup_nil (λp G=>by cases G);refine⟨b,n,u,rfl,jZ f.hok o r,by simpa [bc]using C,λN t c same=>?_⟩;obtain⟨k,a⟩:=ox (nks:=[(n,b)]) l (.cons A .nil) c;exact⟨.ref _,_,lE f (by rw[e];exact .intro) same (let ⟨q,_,_,K,_⟩:=c;⟨q,K⟩) (a _),rfl,D k⟩
def j9(i:Nat)(c b:AU):AR:=λa=>(c a).bind λk=>(b a).bind λv=>(eB k).map λ_=>.nx (a.set i (some (.od true [k] [v])))
end
end
def oy:AK->Option AF
 | []=>some []
 | .Constant (.int i) _ _::es=>(oy es).map (i::·)
 | _=>none
def j_(ns:AF):AV:=λ_=>if ns.length<=ax then some (ns.map .int)else none
def oz:AF->AV
 | []=>ae
 | n::ns=>Yb (kD (.int n)) (oz ns)
theorem L7(ρ:Ro):∀ns:AF,oz ns ρ=some (ns.map D.int)
 | []=>rfl
 | n::ns=>by rw[oz,Yb,L7 ρ ns];rfl
theorem L8:∀{a:AK}{ns:AF},oy a=some ns->MA X a (oz ns)
 | [],ns,h=>by
   cases h;exact Bg
 | e::a,ns,h=>by
   unfold oy at h
   split at h
   .grind
   .rename_i i j p d b
    cases b;obtain⟨m,c,rfl⟩:=qc h;exact Bh nP (L8 c)
   .cases h
theorem Ca(ns:AF)(h:oy a=some ns:=by decide +kernel):MF X (.List a pos) (j_ ns):=by
 have:=nX (pos:=pos) (L8 (X:=X) h)
 have e:bF (oz ns)=j_ ns:=by
  funext b
  unfold bF j_;rw[L7];simp
 grind
section
variable {X:Cx}{a b c e:Expr}{fa fb fc:AU}{pos:Pos}{st:Stmt}
def uL(fa fb fc:AU)(g b:D->D->Option Bool):AT:=λa=>
 (fa a).bind λx=>(fb a).bind λy=>(g x y).bind λk=>if k=true then (fc a).bind λz=>b y z else some false
theorem Cb(h:uL fa fb fc g g' ρ=some k):
 ∃x y,fa ρ=some x/\fb ρ=some y/\((g x y=some false/\k=false)\/(g x y=some true/\∃z,fc ρ=some z/\g' y z=some k)):=by
 obtain⟨x,e,h⟩:=qa h;obtain⟨y,d,h⟩:=qa h;obtain⟨q,c,h⟩:=qa h
 cases q with
 | false=>
   grind
 | true=>
   obtain⟨z,b,h⟩:=qa h;grind
def nS:AR:=λ_=>none
def Cc:MS X st nS:=λ_ _ _ _ _ _ ⟨_,_,_,_,_,h,_⟩=>nomatch h
end
section
variable {X:Cx}{e:Expr}{f:AU}{fc:AT}{gl:AV}{K:W7}
def h_:D->Bool
 | .non|.bl _|.int _|.str _=>true
 | _=>false
def scal(d:D):Option D:=if h_ d=true then some d else none
def Rp.scal(h:h_ d=true)(r:Rp K G d v):Rp K a d v:=by
 cases d<;>first|(exact r)|cases h
def Gr.back(s:Same G H)(g:Gr H a H' c):Gr H G H' G:=⟨g.h,.refl _,s.trans g.h,λ_ h b=>absurd h b⟩
def oA(b:AE)(f:AU):AU:=λa=>(f (frz b a)).bind scal
mutual
def dV:D->Bool
 | .non=>true
 | .bl _=>true
 | .int _=>true
 | .str _=>true
 | .tup l=>bG l
 | .lst _=>false
 | .scr _=>false
 | .dct _ _ _=>false
 | .obj _ _ _=>false
 | .adr _=>false
def bG:AN->Bool
 | []=>true
 | d::l=>dV d&&bG l
end
mutual
theorem Rp.plain{G G':Hp}(c:∀b ys,G b=some (HO.tup ys)->G' b=some (HO.tup ys)):∀{d:D}{v:V},dV d=true->Rp K G d v->Rp K G' d v
 | .non,_,_,r=>r
 | .bl _,_,_,r=>r
 | .int _,_,_,r=>r
 | .str _,_,_,r=>r
 | .tup l,_,h,r=>by
   obtain⟨a,xs,e,g,q⟩:=r;exact⟨a,xs,e,c _ _ g,RpL.plain c h q⟩
 | .lst _,_,h,_=>by cases h
 | .scr _,_,h,_=>by cases h
 | .dct _ _ _,_,h,_=>by cases h
 | .obj _ _ _,_,h,_=>by cases h
 | .adr _,_,h,_=>by cases h
theorem RpL.plain{G G':Hp}(c:∀b ys,G b=some (HO.tup ys)->G' b=some (HO.tup ys)):∀{l:AN}{xs:AM},bG l=true->RpL K G l xs->RpL K G' l xs
 | [],_,_,r=>r
 | d::l,_,h,r=>by
   rw[bG,Qe]at h;obtain⟨x,xs,e,g,q⟩:=r;exact⟨x,xs,e,Rp.plain c h.1 g,RpL.plain c h.2 q⟩
end
def gE(b:AE)(f:AU):AU:=λa=>(f (frz b a)).bind λd=>if dV d=true then some d else none
end
section
def zK(ns:AF)(vxs:AM):List (aZ×V):=(ns.zip vxs).map λp=>(.inl p.1,p.2)
def ka(n:Int)(v:V)(ns:AF)(vxs:AM):zK (n::ns) (v::vxs)=(Sum.inl n,v)::zK ns vxs:=rfl
theorem oB:∀{a:List (aZ×V)}{ns:AF},a.map (λp=>kV p.1)=ns.map V.int->a=zK ns (a.map (·.2))
 | [],ns,h=>by
   cases ns with
   | nil=>rfl
   | cons n ns=>cases h
 | (k,v)::a,[],h=>by cases h
 | (k,v)::a,n::ns,h=>by
   injection h with b c
   cases k with
   | inl i=>
     have:=by simp[kV]at b;exact b
     subst this;rw[Qd,ka,<-oB c]
   | inr x=>cases b
theorem uM(i:Int):∀(ns:AF) (vxs:AM),bw (zK ns vxs) (Sum.inl i)=Yn ns vxs i
 | [],vxs=>by simp[zK,Yn,bw]
 | n::ns,[]=>by simp[zK,Yn,bw]
 | n::ns,v::vxs=>by
   rw[ka,Yn];by_cases h:n=i
   .rw[if_pos h,gW (by simp[h])]
   .rw[if_neg h,gX (by simpa using h)]
    exact uM i ns vxs
theorem iX:∀(ns:AF) (vxs:AM),ns.length=vxs.length->(zK ns vxs).map (·.1)=ns.map Sum.inl
 | [],vxs,_=>rfl
 | n::ns,[],h=>by simp at h
 | n::ns,v::vxs,h=>by
   rw[ka,Qd,Qd,iX ns vxs (by simpa using h)]
theorem Cd(ns:AF)(vxs:AM)(h:ns.length=vxs.length):(zK ns vxs).length=ns.length:=by
 have:=congrArg List.length (iX ns vxs h);grind
theorem oE(i:Int):∀(ns:AF) (vxs:AM),ns.length=vxs.length->((zK ns vxs).any λa=>decide (a.1=Sum.inl i))=decide (i∈ns)
 | [],vxs,_=>by simp[zK]
 | n::ns,[],h=>by simp at h
 | n::ns,v::vxs,h=>by
   rw[ka,List.any_cons,oE i ns vxs (by simpa using h)];grind
theorem oG(i:Int)(y:V):∀(ns:AF) (vxs:AM),ns.length=vxs.length->ns.Nodup->(zK ns vxs).map (λa=>if a.1=Sum.inl i then (a.1,y)else a)=zK ns (aJ ns vxs i y)
 | [],vxs,_,_=>by simp[zK]
 | n::ns,[],h,_=>by simp at h
 | n::ns,v::vxs,h,d=>by
   obtain⟨g,f⟩:=List.nodup_cons.mp d
   have c:=by simpa using h
   rw[ka,Qd,aJ];by_cases e:n=i
   .subst e
    rw[if_pos rfl,if_pos rfl,ka]
    have:(zK ns vxs).map (λa=>if a.1=.inl n then (a.1,y)else a)=zK ns vxs:=by
     refine(Qq λa b=>?_).trans (List.map_id _);rw[if_neg]
     .rfl
     .have:a.1∈_:=Qs b
      rw[iX ns vxs c]at this;grind
    rw[this]
   .rw[if_neg (by simpa using e),if_neg e,ka,oG i y ns vxs c f]
def Ce(i:Int)(y:V):∀(ns:AF) (vxs:AM),ns.length=vxs.length->zK (ns++[i]) (vxs++[y])=zK ns vxs++[(Sum.inl i,y)]:=λns vxs h=>by
 unfold zK;rw[List.zip_append h,wt];rfl
def di(ns:AF)(vxs:AM)(i:Int)(y:V):List Int×AM:=if i∈ns then (ns,aJ ns vxs i y)else (ns++[i],vxs++[y])
def oH(h:ns.length=vxs.length)(a:ns.Nodup)(i:Int)(y:V):bh (zK ns vxs) (Sum.inl i) y=zK (di ns vxs i y).1 (di ns vxs i y).2:=by
 unfold bh di;rw[oE i ns vxs h];by_cases e:i∈ns
 .rw[if_pos (wm e),if_pos e]
  exact oG i y ns vxs h a
 .rw[if_neg (by simpa using e),if_neg e,Ce i y ns vxs h]
variable {K:W7}
theorem gF(g:intsD ks=some ns)(d:Dc false G H a b vxs)(r:RpL K G ks b):H a=some (.dK (zK ns vxs))/\ns.Nodup/\ns.length=vxs.length/\b=ns.map V.int:=by
 cases jX g;have e:=jY r;rcases d with⟨_,k,m,j,c,i⟩|⟨h,_⟩
 .rw[e]at c
  have f:=oB c.symm;rw[<-i]at f
  have l:ns.length=vxs.length:=by
   have:=congrArg List.length c;grind
  rw[f,iX ns vxs l]at j;grind
 .cases h
theorem oJ(h:H a=some (.dK (zK ns vxs)))(c:ns.Nodup)(b:ns.length=vxs.length):Dc false G H a (ns.map V.int) vxs:=by
 refine .inl ⟨rfl,zK ns vxs,h,by rw[iX ns vxs b];grind,?_,?_⟩
 .have:=congrArg (List.map kV) (iX ns vxs b)
  rw[Qf,Qf]at this;exact(this.trans (Qq λ_ _=>rfl)).symm
 .unfold zK
  rw[Qf];have:(λp:Int×V=>_)=λp=>p.2:=rfl;clear h c this
  induction ns generalizing vxs with
  | nil=>cases vxs with
    | nil=>rfl
    | cons=>simp at b
  | cons n ns d=>cases vxs with
    | nil=>simp at b
    | cons v vxs=>simp;grind
def cP:D->D->Option D
 | .dct false c a,.int i=>(intsD c).bind λb=>Yn b a i
 | _,_=>none
def dj(a:Bool):D->D->Option Bool
 | .int i,.dct false b _=>(intsD b).map λc=>decide (i∈c)!=a
 | _,_=>none
def oN:R2:=λx y H Q=>∃a z,x=.ref a/\DGet H a y (some z)/\Q z H
def ia(b:Bool):R2:=λx y H Q=>∃a o,y=.ref a/\DGet H a x o/\Q (.bl (o.isSome != b)) H
def Cg:d6 K oN cP:=by
 intro x y o p d H G Q h s k b q;unfold cP at h
 split at h
 .rename_i w z i
  obtain⟨B,j,h⟩:=qa h;subst b;obtain⟨a,g,t,rfl,e,f,l⟩:=k;obtain⟨u,A,r,n⟩:=gF j e f;obtain⟨v,m,c⟩:=(lR i l).1 d h;refine⟨a,v,rfl,?_,q v H G (.refl s) c⟩;have:=DGet.k (k:=.inl i) u
  rwa [uM,m]at this
 .cases h
def SY{vxs:AM}{i:Int}(b:ns.length=vxs.length):(Yn ns vxs i).isSome=decide (i∈ns):=by
 cases h:Yn ns vxs i with
 | none=>
   have:=(j0 b.symm).mp h;simp[this]
 | some v=>
   have:=Classical.byContradiction λz=>by
    rw[(j0 b.symm).mpr z]at h;cases h
   simp[this]
def Ci:el K (ia c) (dj c):=by
 intro x y m o b H G Q h s j d q;unfold dj at h
 split at h
 .rename_i i v z
  obtain⟨u,l,rfl⟩:=qc h;subst j;obtain⟨a,e,r,rfl,k,f,n⟩:=d;obtain⟨t,w,g,p⟩:=gF l k f;refine⟨a,Yn u r i,rfl,?_,?_⟩
  .have:=DGet.k (k:=.inl i) t
   rwa [uM]at this
  .rwa [SY g]
 .cases h
section
variable {X:Cx}
theorem Cj(l:X.A.units+64<cLine):IxR X oN:=by
 intro c b n s p H x y v u Q I f e h o;obtain⟨a,z,rfl,g,q⟩:=h;cases f;exact tail_any (KP I g) PySem.F.slot_dict_getitem.lookup (KN (by lia) I g e λj k i d=>⟨z,H,i,d,q⟩) o
theorem oO(f:X.A.units+64<cLine):bp X (compareOp .In) (ia false):=by
 intro b s i H x y v u Q I e c h;obtain⟨a,o,rfl,g,q⟩:=h;cases c
 exact zM (by lia) I g e λj d=>⟨.bl _,H,d,by simp;rfl,q⟩
theorem L9(f:X.A.units+64<cLine):bp X (compareOp .NotIn) (ia true):=by
 intro i s j H x y v u Q I c b h;obtain⟨a,o,rfl,g,q⟩:=h;cases b
 exact zN (by lia) I g c λe d=>⟨.bl _,H,d,by simp;rfl,q⟩
def Ck:V->V->V->Hp->(Hp->Prop)->Prop:=λo i v H Q=>∃a b,o=.ref a/\DPut H a i v b/\Q b
theorem Cm(k:X.A.units+64<cLine):jB X Ck:=by
 intro b s l H o i v p j u Q I d c f h;obtain⟨a,n,rfl,g,q⟩:=h;cases d
 exact Ry (by lia) I g c f λm e=>⟨_,e,q⟩
variable {a b e f':Expr}{fa fb f fz:AU}{pos:Pos}
def lS(i:Nat):AR:=λa=>some (.nx (a.set i (some (.od false [] []))))
def fH(i:Nat):Ro->Option (List D×AN):=λc=>match c[i]? with
 | some (some (.od false b a))=>some (b,a)
 | _=>none
theorem L_(h:fH i ρ=some l):ρ[i]?=some (some (B.od false l.1 l.2)):=by
 unfold fH at h;grind
def lT(ks vs:AN)(k d:D):Option (List D×AN):=(intsD ks).bind λa=>match k with
 | .int i=>if vs.length<ax then some (if i∈a then (ks,aJ a vs i d)else (ks++[k],vs++[d]))else none
 | _=>none
def oR(i:Nat)(c f:AU):AR:=λa=>(f a).bind λd=>(fH i a).bind λl=>(c a).bind λk=>(lT l.1 l.2 k d).map λb=>.nx (a.set i (some (.od false b.1 b.2)))
def iY:D->D->D->Option D
 | .dct false c a,.int i,z=>(intsD c).map λb=>(Yn b a i).getD z
 | _,_,_=>none
def b3{c:Type}(fa fb fc:AU)(g:D->D->D->Option c):Ro->Option c:=λa=>(fa a).bind λx=>(fb a).bind λy=>(fc a).bind λz=>g x y z
theorem SZ(h:iY x y z=some d):∃ks vs i ns,x=.dct false ks vs/\y=.int i/\intsD ks=some ns/\d=(Yn ns vs i).getD z:=by
 unfold iY at h
 split at h
 .obtain⟨ns,c,g⟩:=qc h
  grind
 .cases h
end
section
variable {prog:P7}{w:World}{A:Around}{E:AA}{s:Shared}{X:Cx}{e:Expr}{f:AU}{p pos:Pos}
def S0:isSubtype (.type "dict") (.type "dict")=pure true:=by kernel_rfl
def S1(a:AF)(i:Nat)(v:Value):Prop:=∃k t,a[i]?=some k/\v=.int k t
theorem Cn:∀{a:AC},a.length=b.length->(∀(j:Nat) v,a[j]?=some v->S1 b j v)->IntsAre a b:=by
 induction b with
 | nil=>
   intro a h _;rw[List.length_eq_zero_iff.mp h];exact .nil
 | cons k r g=>
   intro a h e
   match a,h with
   | v::a,h=>
     obtain⟨f,t,c,d⟩:=e 0 v rfl;simp at c;subst c d;refine .cons _ t (g (by simpa using h) λj v i=>?_);obtain⟨f,t,c,d⟩:=e (j+1) v (by grind);exact⟨f,t,by grind,d⟩
theorem S2{ns:AF}(hh:A.handled=none)(hd:(a==sysModules)=false)(hS:s.heap.DictOf (Yt prog w) a c)(hk:c.map (·.1)=ns.map Sum.inl)(hl:ns.length<=1000)(hQ:∀(h':Heap) (tk:Nat) (S:AC),~~~s<=h'.objs.size->(∀b o,s.heap.get? b=some o->h'.get? b=some o)->IntsAre S ns->Q S { s with heap:=h',toks:=tk }):
 wpAny (mZ prog w) A (collect (.ref a)) Q E s:=by
 obtain⟨o,es,R,ho,D,N,C⟩:=id hS;have hlt:a< ~~~s:=ql ho
 have r:c.length=ns.length:=by have:=congrArg List.length hk;grind
 unfold collect;refine wa (wpAny_runValue (wy F.entry_proto_collect ?_));rw[jc F.plain_proto_collect _];show wpAny _ A.in1 (newList []>>=λl=>again (.builtin "list.__iadd__" ⟨[l,.ref a],[]⟩)) _ _ s;refine wa (wg ?_);refine wc ⟨jb F.plain_list_iadd _,wy F.entry_list_iadd ?_⟩;rw[jc F.plain_list_iadd _];generalize Z:s.heap.push { cls:=.type "list",data:=.seq ([]:AC).toArray }=H
 have hHs:H.objs.size= ~~~s+1:=by rw[<-Z,ww]
 have f:∀b o,s.heap.get? b=some o->H.get? b=some o:=λb o e=>by rw[<-Z];exact qe _ e
 have hL:H.get? (~~~s)=some { cls:=.type "list",data:=.seq ([]:AC).toArray }:=by rw[<-Z];exact qp _ rfl
 have B:=f a o ho
 have hT:Shared.TypeIs { s with heap:=H } (.ref a) "dict":=⟨o,B,D.1⟩
 have hSI:(~~~s)≠a:=λz=>by grind
 have y:Builtin.List.listSameRef (.ref (~~~s)) (.ref a)=false:=by simp[Builtin.List.listSameRef,hSI]
 show wpAny _ A.in1 (Builtin.List.listExtendWith (.ref (~~~s)) (.ref a) (.ref (~~~s))) _ _ _;unfold Builtin.List.listExtendWith;refine wa (wpAny_typeOf hT ?_)
 have V:(Value.type "dict"==Value.type "list")=false:=by decide
 have h3:(Value.type "dict"==Value.type "tuple")=false:=by decide
 simp only[y,V,h3,Bool.or_false,Qo,if_false]
 have T:H.DictAt (Yt prog w) a c R:=⟨o,es,B,D,N,C⟩
 refine wa (wpAny_pyIter_dict (s:={ s with heap:=H }) hd T ?_);generalize hO:({ cls:=.type "dict_keyiterator",data:=.fields #[.ref a,.int 0 0,.int c.length 0,.int R 0] }:Obj)=d;have hoI:(H.push d).get? a=some o:=qe _ B
 have G:Shared.TypeIs { s with heap:=H.push d } (.ref a) "dict":=⟨o,hoI,D.1⟩
 refine wa (wd ?_);unfold Builtin.List.listLengthHint;refine wa (wpAny_specialOf G F.slot_dict_len.lookup ?_);refine wa (wpAny_isInstance (b:=true) G S0 ?_);show wpAny _ A.in1 (typeOf (Value.ref a)>>=_) _ _ _;refine wa (wpAny_typeOf G ?_);refine wc ?_;rw[if_pos (by decide)];refine wa (wpAny_rule ?_)
 have Y:a≠H.objs.size:=λz=>by grind
 have O:(~~~s)∉[H.objs.size,a]:=λL=>by
  grind
 have m:(H.push d).get? (~~~s)=some { cls:=.type "list",data:=.seq ([]:AC).toArray }:=qe _ hL;refine wa ?_;show wpAny _ A.in1 (updateSeq (~~~s) (·.push .none)>>=λ_=>updateSeq (~~~s) (·.pop)) _ _ _;refine wa (wpAny_updateSeq m rfl ?_);have g:=wx (Obj.mapSeq (·.push Value.none)) m rfl;refine wpAny_updateSeq g rfl ?_;have u:=wx (Obj.mapSeq (·.pop)) g rfl
 have K:∀b o,b≠(~~~s)->(H.push d).get? b=some o->
  (((H.push d).update (~~~s) (Obj.mapSeq (·.push Value.none))).update (~~~s) (Obj.mapSeq (·.pop))).get? b=some o:=
  λb o I e=>(Heap.get?_update_other _ _ (Ne.symm I)).trans ((Heap.get?_update_other _ _ (Ne.symm I)).trans e)
 have W:=(Walks.dictKeys (prog:=prog) (w:=w) (knd:=Yt prog w) (A:=A.in1) hh H.objs.size a Y c R).toS
 have hst:(H.push d).IsKeyIter H.objs.size a 0 c.length R/\(H.push d).DictAt (Yt prog w) a c R:=⟨⟨_,qp _ (by rw[<-hO];rfl),by rw[<-hO],by grind⟩,T.at' λo e=>qe _ e⟩
 refine wc ⟨jb F.plain_extend_loop _,codeAny_extend_loopS W (by rw[jg,r];lia) _ O _ c.length 0 _ _ _ rfl (Qh _)
  (W.frame 0 ({ s with heap:=H.push d }:Shared) _ s.toks hst (qv _) λb I o e=>K b o (λh=>O (h ▸ I)) e) u (ItemsOf.nil _) λp M c' L J q=>?_⟩
 show wpAny _ A (load (~~~s)>>=_) _ _ p;refine wa (wpAny_load J ?_);have eg:p.gens=s.gens:=L.gens;have ed:p.drawn=s.drawn:=L.drawn;have eo:p.os=s.os:=L.os
 have es':p={ s with heap:=p.heap,toks:=p.toks }:=by
  obtain⟨a1,a2,a3,a4,a5⟩:=p;grind
 rw[es'];refine wc (hQ p.heap p.toks M.toList (Nat.le_of_lt (ql J)) (λb ob e=>?_) (Cn (by rw[qj,q.1,r]) λj v hj=>?_))
 .have I:b< ~~~s:=ql e
  refine L.heap b ob (λhm'=>?_) (K b ob (qm I) (qe _ (f b ob e)));grind
 .obtain⟨k,x,e1,e2⟩:=q.2 j v (by grind)
  have U:(c.map (·.1))[j]?=some k:=by grind
  rw[hk,Qm]at U;obtain⟨n,hn,rfl⟩:=qc U;have e2':jA (Sum.inl n) v=true:=e2;rcases gz e2' with⟨i,t,y,V⟩|⟨x,t,y,V⟩
  .injection y with y
   exact⟨n,t,hn,by rw[V,y]⟩
  .cases y
theorem S3{ns:AF}(q:A.handled=none)(u:(a==sysModules)=false)(z:s.heap.DictOf (Yt prog w) a k)(v:k.map (·.1)=ns.map Sum.inl)(B:ns.length<64)(y:∀(h':Heap) (tk e:Nat) (p:Addr) (out:Array Value) (c:AF),(∀b o,s.heap.get? b=some o->h'.get? b=some o)->(~~~s)<=p->h'.get? p=some (seqObj "list" out e)->IntsAre out.toList c->c.Perm ns->c.Pairwise (·<=·)->
  Q (.ref p) { s with heap:=h',toks:=tk }):wpAny (mZ prog w) A (call (.builtin "sorted") [.ref a]) Q E s:=by
 refine Calls.call_function_entry kind_sorted plain_sorted entry_sorted (args_sorted1 _) (wa (wc (wa (S2 q u z v (by lia) λh' tk h i d m=>?_))));have D:=IntsAre.length m
 have g:h.length<64:=by grind
 refine wa (wpAny_newList ?_ (by rw[jg];lia));have f:(h'.push (seqObj "list" h.toArray 0)).get? _=_:=qp _ rfl;refine wa (wd (we slot_list_sort ⟨_,f,rfl⟩ entry_list_sort (list_sort_tree (s:={ s with heap:=h'.push (seqObj "list" _ 0),toks:=tk }) f m g λout c r n t=>⟨_,rfl,?_⟩) (args_list_sort _)));obtain⟨e,C⟩:=sortedHeap_at f;refine wc ⟨_,rfl,y _ tk e _ out c (λb o l=>?_) i C r n t⟩;have x:=ql (d b o l);rw[sortedHeap_old (qm x) (by rw[size_push'];grind)];exact qe _ (d b o l)
def Ma:AM->Hp->VK->Prop:=λd H Q=>∃a b c,d=[.ref a]/\Rd H a (.dK b)/\b.map (·.1)=c.map .inl/\c.length<64/\∀p,H p=none->Q (.ref p) (upd H p (.lst ((c6 c).map .int)))
theorem S4(y:X.calm=true):dz X (.builtin "sorted") Ma:=by
 intro l s K H F G Q I r h;obtain⟨a,D,c,rfl,k,m,w,q⟩:=h;obtain⟨u,rfl,C⟩:=ee r;cases C;obtain⟨z,A,E,f,n⟩:=iS I.hok k
 have i:E.map (·.1)=c.map .inl:=by
  rw[<-m];clear m n z k
  induction f with
  | nil=>rfl
  | cons r _ O=>grind
 refine S3 (I.ok.hd y) A n i w λJ N e p d B b o L t g x=>?_;have v:=W.ksm_same (g.trans (Yx c).symm) x (gC c);subst v;have M:=(Yx c).length_eq;exact⟨.ref p,_,.laid I b o (show ObjOk _ X.w _ _ _ (.lst _) from⟨by rw[qf,jg];lia,d.toList,e,nF t,by simp_all⟩),rfl,q _ (I.hok.fresh o)⟩
def kf:AN->Option AN
 | [.dct false b _]=>(intsD b).bind λa=>if a.length<64 then some ((c6 a).map .int)else none
 | _=>none
def S5:er K Ma kf:=by
 intro o t l H G Q h s r q;unfold kf at h
 split at h
 .obtain⟨v,rfl,f⟩:=eQ r
  obtain⟨e,j,h⟩:=qa h
  split at h
  .rename_i d
   cases h;obtain⟨a,g,b,rfl,n,m,f⟩:=f;obtain⟨i,u,k,w⟩:=gF j n m;exact⟨a,_,e,rfl,.inl i,iX e b k,d,λp c=>q p _ _ G (.hid s c _) c (s.free c) Yg (.ints _)⟩
  .cases h
 .cases h
def c7{c:Sort _}{a b:c}(h:a=b):a=b:=h
@[simp] theorem Mb(a fb fc:AU)(g:D->D->D->Option b):b3 a fb fc g ρ=(a ρ).bind λx=>(fb ρ).bind λy=>(fc ρ).bind λz=>g x y z:=c7 rfl
@[simp] theorem oT(i:Nat):lS i ρ=some (.nx (ρ.set i (some (.od false [] [])))):=c7 rfl
@[simp] theorem oU(i:Nat)(a f:AU):oR i a f ρ=(f ρ).bind λd=>(fH i ρ).bind λl=>(a ρ).bind λk=>(lT l.1 l.2 k d).map λb=>.nx (ρ.set i (some (.od false b.1 b.2))):=c7 rfl
@[simp] theorem kg(ks vs:AN)(i:Int):cP (.dct false ks vs) (.int i)=(intsD ks).bind λns=>Yn ns vs i:=c7 rfl
@[simp] theorem Co(a:Bool)(ks vs:AN)(i:Int):dj a (.int i) (.dct false ks vs)=(intsD ks).map λns=>decide (i∈ns)!=a:=c7 rfl
@[simp] theorem Cp(ks vs:AN)(i:Int)(z:D):iY (.dct false ks vs) (.int i) z=(intsD ks).map λns=>(Yn ns vs i).getD z:=c7 rfl
@[simp] theorem lU(ks vs:AN)(i:Int)(d:D):lT ks vs (.int i) d=(intsD ks).bind λns=>if vs.length<ax then some (if i∈ns then (ks,aJ ns vs i d)else (ks++[.int i],vs++[d]))else none:=c7 rfl
@[simp] theorem S6(ks vs:AN):kf [.dct false ks vs]=(intsD ks).bind λns=>if ns.length<64 then some ((c6 ns).map D.int)else none:=c7 rfl
@[simp] theorem S7(ks vs:AN)(r:Ro):fH 0 (some (.od false ks vs)::r)=some (ks,vs):=c7 rfl
@[simp] theorem S8(n:Nat)(b:AQ)(r:Ro):fH (n+1) (b::r)=fH n r:=by simp[fH]
@[simp] theorem S9(t:Bool)(ks vs:AN)(r:Ro):aa 0 (some (.od t ks vs)::r)=some (.dct t ks vs):=c7 rfl
end
end
section
variable {X:Cx}{a b e:Expr}{fa fb f:AU}{pos:Pos}{K:W7}
def eC:D->D->Option D:=i2 (λ_ j=>decide (0<=j)) λi j=>i/2^j.toNat
def S_{M:Model}{A:Around}{E:AA}{s:Shared}{Q:AA}{v:Value}{k:Bool}(a:∀id,v≠.builtin id)(h:Q (.bool (!(v==.bool k))) s):wpAny M A (compareOp .IsNot v (.bool k)) Q E s:=by
 cases v<;>first|exact wc h|exact absurd rfl (a _)
def cz(k:Bool):D->Bool
 | .bl j=>j==k
 | _=>false
def oV(c:Bool):D->D->Option Bool
 | d,.bl k=>some (cz k d != c)
 | _,_=>none
def Ta{x:V}{v:Value}(r:RelV x v)(k:Bool):(v==.bool k)=decide (x=.bl k):=by
 cases x with
 | bl j=>
   cases (r);by_cases h:j=k
   .subst h;simp
   .simp[h]
 | non=>cases (r);rfl
 | int i=>obtain⟨t,rfl⟩:=r;rfl
 | str i=>obtain⟨t,rfl⟩:=r;rfl
 | ref i=>cases (r);rfl
 | _=>first|(obtain⟨t,rfl⟩:=r;rfl)|(rfl)
def Cq{x:V}{v:Value}(r:RelV x v):∀id,v≠.builtin id:=λid z=>by
 subst z
 cases x<;>first|(obtain⟨t,h⟩:=r;cases h)|(cases r)
def Cr:bp X (compareOp .IsNot) (λx y H Q=>∃k,y=.bl k/\Q (.bl (decide (x=.bl k)!=true)) H):=by
 intro a s b H x y v u Q I c d h;obtain⟨k,rfl,q⟩:=h;cases d;refine S_ (Cq c) ⟨_,H,I,?_,q⟩;rw[Ta c];simp;rfl
def Cu{G H:Hp}{d:D}{v:V}(r:Ct K G H d v)(k:Bool):decide (v=.bl k)=cz k d:=by
 cases d with
 | bl j=>
   subst r;by_cases h:j=k
   .subst h;simp[cz]
   .simp[cz,h]
 | non=>subst r;simp[cz]
 | int i=>subst r;simp[cz]
 | str i=>obtain⟨rfl,_⟩:=r;simp[cz]
 | tup l=>obtain⟨a,b,rfl,_⟩:=r;simp[cz]
 | lst l=>obtain⟨a,b,rfl,_⟩:=r;simp[cz]
 | scr l=>obtain⟨a,rfl,_⟩:=r;simp[cz]
 | dct t l m=>obtain⟨a,b,e,rfl,_⟩:=r;simp[cz]
 | obj t l m=>obtain⟨a,C,c,b,rfl,_⟩:=r;simp[cz]
 | adr a=>subst r;simp[cz]
def Cv{d:Bool}:el K (λx y H Q=>∃k,y=.bl k/\Q (.bl (decide (x=.bl k)!=d)) H) (oV d):=by
 intro x y j l c H G Q h s i g q;unfold oV at h
 split at h
 .rename_i k
  cases h;subst g;exact⟨k,rfl,by rwa [Cu i k]⟩
 .cases h
def fm:AN->Option D
 | [.int i,.int j]=>some (.int (if j<i then j else i))
 | _=>none
def Tb(r:jP K G H [.int i,.int j] vs):vs=[.int i,.int j]:=by
 obtain⟨x,r,rfl,a,d⟩:=r;obtain⟨y,r,rfl,c,b⟩:=d;cases (b);rw[a,c]
def Mc:dJ K (λxs H Q=>∃i j,xs=[.int i,.int j]/\Q (.int (if j<i then j else i)) H) fm:=by
 intro a b d H G Q h s r q;unfold fm at h
 split at h
 .rename_i i j
  cases h;exact⟨i,j,Tb r,q _ H G (.refl s) (by rw[Rp])⟩
 .cases h
def Tc{c:Sort _}{a b:c}(h:a=b):a=b:=h
@[simp] theorem lV(i j:Int):fm [.int i,.int j]=some (.int (if j<i then j else i)):=Tc rfl
def Cw(i:Int)(j:Nat):eC (.int i) (.int (j:Int))=some (.int (i/2^j)):=by
 simp[eC,i2]
end
section
section
variable {prog:P7}{w:World}{A:Around}{E:AA}{s:Shared}
def Td:typeLookup (.type "list") "keys"=pure none:=by kernel_rfl
theorem Md(i:s.heap.get? a=some o)(m:o.cls=.type "list")(j:o.dict=none)(p:o.data=.seq its n)(q:A.handled=none)(x:∀J tk,(∀b k,s.heap.get? b=some k->J.get? b=some k)->Q none { s with heap:=J,toks:=tk }):
 wpAny (mZ prog w) A (getAttr? (.ref a) "keys") Q E s:=by
 obtain⟨c,z,v,r⟩:=o;simp only at m j p;subst m j p;obtain⟨y,g,d,tk,os⟩:=s
 have l:∀f,(⟨y,g,d,f,os⟩:Shared).TypeIs (.ref a) "list":=λ_=>⟨_,i,rfl⟩
 have I:=sub_AttributeError;have H:=F.slot_list_getattribute.lookup;have G:=F.slot_list_getattribute.bind (.ref a);have D:=am_list_getattr_none;have u:∀t,Meets (Builtin.«object.__getattribute__» ⟨[.ref a,.str "keys" t],[]⟩) _:=λt=>meets_getattribute_miss_list a its n r "keys" t Td (by decide);unfold getAttr? getAttrBy? getAttrBy
 repeat (any_goals (first
  | assumption
  | exact l _
  | ((with_reducible show wpAny _ _ (call (.builtin "list.__getattribute__") _ _) _ _ _)
     refine call_meets F.slot_list_getattribute (l _) am_entry_list_getattribute (F.args_list_getattribute_2 _ _) (u _) ⟨i,q,λJ f e h=>?_⟩)
  | wp_step))
 obtain⟨K,C,B⟩:=h.there;show wpAny _ _ (getattributeRaised _ _ _ _ _ _ _) _ _ _;unfold getattributeRaised
 repeat (any_goals (first
  | assumption
  | wp_step))
 exact x _ _ h.keeps
def Cy(h:Heap)(u:Value)(p:Int×Value):Prop:=∃t a o n,u=.ref t/\h.get? t=some o/\o.cls=.type "tuple"/\o.data=.seq #[.int p.1 a,p.2] n
def ic(h:Heap):AC->List (Int×Value)->Prop
 | [],[]=>True
 | u::us,p::ps=>Cy h u p/\ic h us ps
 | _,_=>False
def oW(a:List (aZ×Value)):List (Int×Value)->List (aZ×Value)
 | []=>a
 | p::ps=>oW (stored a (Sum.inl p.1) p.2) ps
theorem Te(a:List (aZ×Value))(k:aZ)(v:Value):(stored a k v).length<=a.length+1:=by
 unfold stored;grind
def uN:entryFor table "dict.update.loop"=some Builtin.«dict.update.loop»:=entryFor_of_tree (by kernel_rfl)
def lW:plainId "dict.update.loop"=true:=by decide +kernel
def OldH(h0 h:Heap):Prop:=∀b o,h0.get? b=some o->h.get? b=some o
theorem OldH.but(c:h0.get? d=none)(o:OldH h0 h)(e:Heap.SameBut d h f):OldH h0 f:=λb a q=>by
 rw[e.2 b λz=>by grind];exact o b a q
def IsListIter.but(x:h.IsListIter a L i)(e:Heap.SameBut d h f)(c:a≠d):f.IsListIter a L i:=by
 obtain⟨o,b,r⟩:=x;exact⟨o,by rwa [e.2 a c],r⟩
theorem Tg{a:AC}(T:A.handled=none)(O:h0.get? d=none)(N:h0.get? H=none)(m:d≠H)(S:h0.IsList L a.toArray):
 ∀(ps:List (Int×Value)) (i:Nat) (c:Int) (g:List (aZ×Value)) (s:Shared),ic h0 (a.drop i) ps->g.length+ps.length<=sizeLine->s.heap.IsListIter H L i->OldH h0 s.heap->s.heap.DictOf (Yt prog w) d g->
 (∀E tk,OldH h0 E->E.DictOf (Yt prog w) d (oW g ps)->R (.ok (.ret .none)) { s with heap:=E,toks:=tk })->
 codeAny (mZ prog w) A (.builtin "dict.update.loop" ⟨[.ref d,.ref H,.int c 0,.none],[]⟩) R s:=by
 intro ps
 induction ps with
 | nil=>
   intro i c g s h U k y I P;have l:s.heap.IsList L a.toArray:=let ⟨o,e,r⟩:=S;⟨o,y _ _ e,r⟩
   have Q:a.toArray[i]?=none:=by
    cases f:a.drop i with
    | nil=>simpa using f
    | cons u us=>rw[f]at h;exact h.elim
   refine wy uN ?_;refine wa (wpAny_pyNext_list_end (A:=A.in1) T k l Q λE hs=>?_);refine wa (wc (wc (P E s.toks (λb F q=>hs b F (λz=>by grind) (y b F q)) (I.extBut hs m))))
 | cons p ps Z=>
   intro i c g s h U k y I P;have l:s.heap.IsList L a.toArray:=let ⟨o,e,r⟩:=S;⟨o,y _ _ e,r⟩
   cases f:a.drop i with
   | nil=>rw[f]at h;exact h.elim
   | cons u us=>
     rw[f]at h;obtain⟨⟨t,tk,F,n,rfl,W,X,x⟩,h⟩:=h
     have Q:a.toArray[i]?=some (.ref t):=by
      have:=congrArg List.head? f;simpa [List.head?_drop]using this
     have hus:=by
      have:=congrArg List.tail f;simpa using this.symm
     refine wy uN ?_;refine wa (wpAny_pyNext_list_item k l Q λV G B=>?_);have v:=OldH.but N y B;have J:=I.sameBut B m;have D:=v _ _ W
     have hT:(Shared.TypeIs { s with heap:=V } (.ref t) "tuple"):=⟨F,D,X⟩
     refine wa (wd (wa (wpAny_tryCatch ?_)));refine wa (wpAny_typeOf hT ?_);refine wa (wpAny_seqItems D x (wc ?_));refine wd (wpAny_dictSet_pairs (iR (k:=.inl p.1) ⟨tk,rfl⟩) J (λh2 M C=>?_) (by grind));refine wc ⟨jb lW _,?_⟩;refine Z (i+1) (c+1) _ _ (by grind) ?_ (IsListIter.but G C (Ne.symm m)) (OldH.but O v C) M λE K Y d'=>P E K Y d';have:=Te g (Sum.inl p.1) p.2;grind
theorem Th(z:A.handled=none)(H:PlainL s.heap L its.toArray)(P:ic s.heap its S)(N:S.length<=sizeLine)(O:∀R tk,OldH s.heap R->R.DictOf (Yt prog w) (~~~s) (oW [] S)->Q (.ref (~~~s)) { s with heap:=R,toks:=tk }):
 wpAny (mZ prog w) A (call (.type "dict") [.ref L]) Q E s:=by
 generalize v:({ cls:=.type "dict",data:=.dict #[] }:Obj)=k;refine callType_codes (Q₁:=λj d=>j=.ref _/\d={ s with heap:=s.heap.push k }) F.kt_called_dict (F.kt_typeCall_dict_1 _) F.entry_dict_init (kt_code_dict_new _ ⟨rfl,by rw[v]⟩) ?_;rintro j d ⟨rfl,rfl⟩
 have a:(s.heap.push k).DictOf (Yt prog w) (~~~s) []:=by rw[<-v];exact .new s.heap
 refine⟨a.typeIs,F.args_dict_init_2 _ _,?_⟩;refine wa ?_;refine wa (wpAny_notOrdered_dict a.typeIs ?_);refine wc ?_;obtain⟨o,n,e,l,y,r⟩:=H;have t:(s.heap.push k).get? L=some o:=qe _ e
 have D:Shared.TypeIs { s with heap:=s.heap.push k } (.ref L) "list":=⟨o,t,l⟩
 refine wa (wpAny_typeOf D ?_);refine wa (Md t l y r (by simp[z]) λR tk c=>?_);refine wa (wpAny_rule (wa ?_))
 have m:R.IsList L its.toArray:=⟨o,c _ _ t,l,n,r⟩
 refine wpAny_pyIter_list (s:={ s with heap:=R,toks:=tk }) m ?_;have i:OldH s.heap R:=λb u q=>c _ _ (qe _ q);obtain⟨B,I,J,p,f⟩:=id a;have g:=c _ _ p;have h:=ql g;generalize x:({ cls:=.type "list_iterator",data:=.fields _ }:Obj)=C;refine wc ⟨jb lW _,?_⟩;refine Tg (by simp[z]) (Heap.get?_none_of_le (qv _)) (Heap.get?_none_of_le (Nat.le_of_lt h)) (qm h) ⟨o,e,l,n,r⟩ S 0 0 [] _ (by grind) (by grind) ?_ (λb u q=>qe _ (i b u q)) ⟨B,I,J,qe _ g,f⟩ λy G K M=>?_
 .exact⟨C,qp _ (by rw[<-x];rfl),by rw[<-x],by grind⟩
 grind
end
def uO(H:Hp):AM->List (Int×V)->Prop
 | [],[]=>True
 | x::xs,q::a=>(∃b,x=.ref b/\H b=some (.tup [.int q.1,q.2]))/\uO H xs a
 | _,_=>False
def fq(a:List (aZ×V)):List (Int×V)->List (aZ×V)
 | []=>a
 | q::b=>fq (bh a (Sum.inl q.1) q.2) b
def QP:List (Int×V)->List (Int×Value)->Prop
 | [],[]=>True
 | q::a,p::ps=>(q.1=p.1/\RelV q.2 p.2)/\QP a ps
 | _,_=>False
theorem QP.length:∀{a:List (Int×V)}{b:List (Int×Value)},QP a b->b.length=a.length
 | [],[],_=>rfl
 | q::a,p::b,h=>by rw[qt,qt,QP.length h.2]
 | [],_::_,h=>h.elim
 | _::_,[],h=>h.elim
theorem Me:∀{b:List (Int×V)}{e:List (Int×Value)}{a:List (aZ×V)}{vs:List (aZ×Value)},QP b e->KV a vs->KV (fq a b) (oW vs e)
 | [],[],_,_,_,r=>r
 | q::b,p::e,a,vs,h,r=>by
   obtain⟨⟨d,c⟩,h⟩:=h;rw[fq,oW,<-d];exact Me h (r.put _ c)
 | [],_::_,_,_,h,_=>h.elim
 | _::_,[],_,_,h,_=>h.elim
theorem Cz:∀(b:List (Int×V)) (a:List (aZ×V)),(fq a b).length<=a.length+b.length
 | [],a=>by rw[fq];simp
 | q::b,a=>by
   rw[fq,qt];have d:=Cz b (bh a (.inl q.1) q.2);have c:=tH a (.inl q.1) q.2;lia
section
variable {X:Cx}
theorem Mf{σ:L2.St}(I:Inv X pins σ H s):∀{ys:AM}{its:AC}{a:List (Int×V)},uO H ys a->Vals ys its->∃w,ic s.heap its w/\QP a w
 | [],its,[],_,r=>by
   cases r;exact⟨[],trivial,trivial⟩
 | y::ys,its,q::a,h,r=>by
   obtain⟨⟨b,rfl,x⟩,h⟩:=h
   cases r with
   | cons p i=>
     cases p;obtain⟨w,d,m⟩:=Mf I h i;obtain⟨c,g,⟨o,e,k,n,f⟩,_⟩:=I.tuple (.of x)
     cases g with
     | cons l u=>
       cases u with
       | cons v j=>
         cases j;obtain⟨t,rfl⟩:=l;exact⟨(q.1,_)::w,⟨⟨b,t,o,n,rfl,e,k,f⟩,d⟩,⟨⟨rfl,v⟩,m⟩⟩
 | [],_,_::_,h,_=>h.elim
 | _::_,_,[],h,_=>h.elim
def CA(K:W7):AM->Hp->VK->Prop:=λe H Q=>∃a d c,e=[.ref a]/\SqL K H a d/\uO H d c/\c.length<ax/\∀p,H p=none->Q (.ref p) (upd H p (.dK (fq [] c)))
theorem Mg(p:X.calm=true):dz X (.type "dict") (CA X.K):=by
 intro x s F H C D Q I r h;obtain⟨a,E,n,rfl,i,j,w,q⟩:=h;obtain⟨u,rfl,k⟩:=ee r;cases k;obtain⟨A,m,z,v⟩:=I.list i;obtain⟨y,t,g⟩:=Mf I j m;have f:ax=1000000:=rfl
 have d:y.length<=sizeLine:=by rw[g.length,jg];lia
 refine Th (I.ok.hd p) z t d λG B c l=>⟨.ref _,_,I.laid (λb o e=>c b o e) (qv _) (tJ ?_ (beq_eq_false_iff_ne.mpr (.symm (qm I.big))) (Me g .nil) l),rfl,q _ (I.hok.fresh (qv _))⟩
 have:=Cz n [];rw[jg];grind
end
def fv:AN->Option (List (Int×D))
 | []=>some []
 | .tup [.int i,v]::l=>(fv l).map ((i,v)::·)
 | _=>none
def cq:D->Option (List (Int×D))
 | .lst l=>fv l
 | _=>none
def a_{a:Type}(ns:AF)(vs:List a)(i:Int)(y:a):List Int×List a:=if i∈ns then (ns,aJ ns vs i y)else (ns++[i],vs++[y])
def ay{a:Type}(ns:AF)(vs:List a):List (Int×a)->List Int×List a
 | []=>(ns,vs)
 | p::ps=>ay (a_ ns vs p.1 p.2).1 (a_ ns vs p.1 p.2).2 ps
theorem Mh(h:ns.Nodup):(a_ ns vs i y).1.Nodup:=by
 unfold a_;grind
def CB(h:ns.length=vs.length):(a_ ns vs i y).1.length=(a_ ns vs i y).2.length:=by
 unfold a_
 split
 .rwa [oi]
 .simp[h]
variable {K:W7}
def DQ(K:W7)(G:Hp):List (Int×D)->List (Int×V)->Prop
 | [],[]=>True
 | d::ds,q::a=>(d.1=q.1/\Rp K G d.2 q.2)/\DQ K G ds a
 | _,_=>False
theorem DQ.length:∀{b:List (Int×D)}{a:List (Int×V)},DQ K G b a->a.length=b.length
 | [],[],_=>rfl
 | q::a,p::c,h=>by rw[qt,qt,DQ.length h.2]
 | [],_::_,h=>h.elim
 | _::_,[],h=>h.elim
theorem CC(s:Same G H):∀{l:AN}{y:List (Int×D)}{xs:AM},fv l=some y->RpL K G l xs->∃c,uO H xs c/\DQ K G y c
 | [],y,xs,e,r=>by
   cases e;subst r;exact⟨[],trivial,trivial⟩
 | d::l,y,xs,e,r=>by
   unfold fv at e
   split at e
   case h_1 he=>cases he
   case h_2 i v l' he=>
    injection he with f g;subst f g;obtain⟨h,u,rfl⟩:=qc e;obtain⟨x,v,rfl,p,m⟩:=r;obtain⟨c,q,j⟩:=CC s u m;obtain⟨b,A,rfl,z,a⟩:=p;obtain⟨w,n,rfl,o,a⟩:=a;obtain⟨t,n,rfl,k,a⟩:=a;subst a o;exact⟨(i,t)::c,⟨⟨b,rfl,s _ _ z⟩,q⟩,⟨⟨rfl,k⟩,j⟩⟩
   grind
theorem uP:∀{j:List (Int×D)}{g:List (Int×V)}{ns:AF}{i:AN}{vxs:AM},DQ K G j g->ns.Nodup->ns.length=vxs.length->RpL K G i vxs->
 ∃a,fq (zK ns vxs) g=zK (ay ns i j).1 a/\(ay ns i j).1.Nodup/\(ay ns i j).1.length=a.length/\RpL K G (ay ns i j).2 a
 | [],[],ns,i,vxs,_,b,c,f=>⟨vxs,rfl,b,c,f⟩
 | d::j,q::g,ns,i,vxs,h,b,c,f=>by
   obtain⟨⟨e,r⟩,h⟩:=h;rw[fq,oH c b]
   have k:(di ns vxs q.1 q.2).1=(a_ ns i d.1 d.2).1:=by
    unfold di a_;grind
   rw[k];refine uP h (Mh b) ?_ ?_
   .rw[<-k]
    exact CB c
   .unfold di a_
    rw[e]
    split
    .exact uH q.1 r f
    .exact .snoc r f
 | [],_::_,_,_,_,h,_,_,_=>h.elim
 | _::_,[],_,_,_,h,_,_,_=>h.elim
section
variable {X:Cx}{e:Expr}{f:AU}{pos:Pos}{prog:P7}{w:World}{A:Around}{E:AA}{s:Shared}
def fw(i:Nat)(f:AU):AR:=λb=>((f b).bind cq).bind λa=>if a.length<ax then some (.nx (b.set i (some (.od false ((ay [] [] a).1.map .int) (ay [] [] a).2))))else none
@[simp] theorem CD(i:Nat):fw i f ρ=((f ρ).bind cq).bind λps=>if ps.length<ax then some (.nx (ρ.set i (some (.od false ((ay [] [] ps).1.map D.int) (ay [] [] ps).2))))else none:=c7 rfl
@[simp] theorem iZ(l:AN):cq (.lst l)=fv l:=c7 rfl
def ig:Int:=4238894112
def Ti(h:Q ig { s with toks:=s.toks+1 }):wpAny (mZ prog w) A (pyHash .none) Q E s:=by
 have a:s.TypeIs .none _:=rfl
 exact wa (wc (wa (wpAny_specialOf a F.slot_NoneType_hash.lookup (wa (wpAny_specialOf a F.slot_NoneType_hash.lookup (wa (wpAny_callSpecialIfBoundUnlessNone?_slot a F.slot_NoneType_hash
  (we F.slot_NoneType_hash a F.entry_NoneType_hash
   (wpAny_ret_mkInt (wc h)) (F.args_NoneType_hash_1 _)))))))))
theorem CG(f:s.heap.get? d=some o)(c:o.data=.dict b j)(g:∀e∈b,e.hash≠ig)(h:Q none { s with toks:=s.toks+1 }):
 wpAny (mZ prog w) A (dictGet d .none) Q E s:=by
 have a:placesWithHash b.size (λi=>b[i]?.map (·.hash)) ig=[]:=by
  unfold placesWithHash
  simp_all
 refine wd (wa (Ti (wa (wd (wa (wpAny_dictEntries f c ?_))))));rw[a];exact wc (wc h)
def lX(ns:AF):Bool:=ns.all λn=>decide (-1000000000<n/\n<1000000000)
theorem Tj:∀{b:List DictEntry},Pairs (Yt prog w) b a->∀e∈b,∃c∈a,(Yt prog w).is c.1 e.key=true:=by
 intro b h
 induction h with
 | nil=>grind
 | cons f _ _ d=>
   grind
theorem CH{ns:AF}(f:s.heap.DictOf (Yt prog w) d c)(m:c.map (·.1)=ns.map Sum.inl)(hs:lX ns=true)(h:Q none { s with toks:=s.toks+1 }):
 wpAny (mZ prog w) A (dictGet d .none) Q E s:=by
 obtain⟨o,C,D,q,_,v,b,y,_⟩:=f;refine CG q v (λe u=>?_) h;obtain⟨k,r,i⟩:=b e u;obtain⟨p,j,x⟩:=Tj y e (by grind);have a:p.1∈_:=Qs j;rw[m]at a;obtain⟨n,g,t⟩:=qy a;have l:=List.all_eq_true.mp hs n g;rw[i,(Yt _ w).inj _ _ _ r x,<-t];show hashInt n≠_;intro z
 have:hashInt n=n\/hashInt n=-2:=by
  have B:rawHash n=if (n==-1)=true then -2 else n:=by
   unfold rawHash;grind
  unfold hashInt;grind
 unfold ig at z;lia
def Mi{ns:AF}(f:(d==sysModules)=false)(c:s.heap.DictOf (Yt prog w) d a)(e:a.map (·.1)=ns.map Sum.inl)(hs:lX ns=true)(h:Q false { s with toks:=s.toks+1 }):wpAny (mZ prog w) A (contains (.ref d) .none) Q E s:=by
 have b:=c.typeIs;refine wd (wa (wpAny_specialOf b slot_dict_contains.lookup (wa (wpAny_callSpecialUnlessNone?_slot b slot_dict_contains (we slot_dict_contains b entry_dict_contains ?_ (args_dict_contains _ _))))));show wpAny _ _ (dictGet d _>>=_) _ _ s;exact wa (CH c e hs (wa (wpAny_pendingKey_other f (wc ⟨_,rfl,wpAny_truthy_bool h⟩))))
end
def cQ(a:Bool):D->D->Option Bool
 | .int i,.dct false b c=>dj a (.int i) (.dct false b c)
 | .non,.dct false b _=>(intsD b).bind λd=>if lX d=true then some (false != a)else none
 | _,_=>none
def kh(b:Bool):R2:=λx y H Q=>ia b x y H Q\/(x=.non/\∃a c d,y=.ref a/\H a=some (.dK c)/\c.map (·.1)=d.map .inl/\lX d=true/\Q (.bl (false != b)) H)
def Mj:el K (kh c) (cQ c):=by
 intro x y n o b H G Q h s f e q;unfold cQ at h
 split at h
 .exact .inl (Ci x y _ _ b H G Q h s f e q)
 .obtain⟨t,j,h⟩:=qa h
  split at h
  case isFalse=>cases h
  rename_i d;injection h with h;subst h f;obtain⟨a,i,r,rfl,g,k,p⟩:=e;obtain⟨u,v,l,m⟩:=gF j g k;exact .inr ⟨rfl,a,_,t,rfl,u,iX t r l,d,q⟩
 .cases h
section
variable {X:Cx}
theorem Ml{vs:List (aZ×Value)}(b:KV a vs):vs.map (·.1)=a.map (·.1):=by
 induction b with
 | nil=>rfl
 | cons r _ c=>grind
def CI(i:X.A.units+64<cLine):bp X (compareOp .In) (kh false):=by
 intro c s m H x y v u Q I e d h;rcases h with h|⟨rfl,a,n,p,rfl,k,l,g,q⟩
 .exact oO i _ s m H x y v u Q I e d h
 .cases e
  cases d;obtain⟨z,j,o,b,f⟩:=tI I.hok k;exact wa (Mi j f ((Ml b).trans l) g (wc (⟨.bl _,H,I.tok _,rfl,q⟩)))
def CJ(i:X.A.units+64<cLine):bp X (compareOp .NotIn) (kh true):=by
 intro l s n H x y v u Q I c d h;rcases h with h|⟨rfl,a,f,o,rfl,e,g,m,q⟩
 .exact L9 i _ s n H x y v u Q I c d h
 .cases c
  cases d;obtain⟨z,j,p,b,k⟩:=tI I.hok e;exact wa (Mi j k ((Ml b).trans g) m (wc (⟨.bl _,H,I.tok _,rfl,q⟩)))
variable {a b e f':Expr}{fa fb f fz:AU}{pos:Pos}
@[simp] theorem uQ(c:Bool)(ks vs:AN)(i:Int):cQ c (.int i) (.dct false ks vs)=(intsD ks).map λns=>decide (i∈ns)!=c:=c7 rfl
@[simp] theorem CK(a:Bool)(ks vs:AN):cQ a .non (.dct false ks vs)=(intsD ks).bind λns=>if lX ns=true then some (false != a)else none:=c7 rfl
end
end
def ki:AC->AJ->Prop:=Paired λv k=>(∃t,v=.str k t)/\PyData.strOk k=true
def GT(K:W7)(b:AD)(x:Str)(ks:AJ):Prop:=∃p o a n,b x=some (.ref p)/\K.lookup p=some o/\o.cls=.type "tuple"/\o.data=.seq a n/\ki a.toList ks
theorem Mm{h:Heap}:∀{vs:AC}{ks:AJ},ki vs ks->∃a,ReadsAll h vs (ks.map PyData.str) a/\PyData.canLayAll0 (ks.map PyData.str)=true
 | _,_,.nil=>⟨_,.nil,by simp[PyData.canLayAll0]⟩
 | _,_,.cons r t=>by
   obtain⟨⟨e,rfl⟩,b⟩:=r;obtain⟨a,d,c⟩:=Mm t;exact⟨_,.cons (.str _ e) d,by simp[PyData.canLayAll0,PyData.canLay0,c,b]⟩
def CL(a:Bool)(ks:AJ):D->Option Bool
 | .str k=>some (decide (k∈ks)!=a)
 | _=>none
def CM(p:Addr)(ks:AJ)(a:Bool):R2:=λx y H Q=>∃k,x=.str k/\PyData.strOk k=true/\y=.ref p/\Q (.bl (decide (k∈ks)!=a)) H
theorem Mn(k:Str):∀ks:AJ,((ks.map PyData.str).any λy=>PyData.eqv y (.str k))=decide (k∈ks)
 | []=>rfl
 | a::ks=>by
   rw[Qd,List.any_cons,Mn k ks];have e:PyData.eqv (.str a) (.str k)=decide _:=decide_eq_decide.mpr ⟨λh=>h.symm,λh=>h.symm⟩;rw[e];by_cases h:k=a<;>simp[h]
section
variable {prog:P7}{w:World}{A:Around}{E:AA}{s:Shared}
theorem Tn{lo f:Option Int}(c:IsTup s.heap t a)(hs:s.heap.IsSliceOf k i l .none)(j:IsPart i lo)(n:IsPart l f)(h0:HT.sIx a.size 0 lo=0)(o:HT.sIx a.size a.size f=a.size)(h:Q (.ref t) s):wpAny (mZ prog w) A (getItem (.ref t) (.ref k)) Q E s:=by
 obtain⟨os,e,d,m⟩:=id hs;unfold getItem
 try with_reducible refine wd ?_
 refine wa (wpAny_sequenceKey c.typeIs (by decide) (wa (wpAny_callSpecial?_slot c.typeIs PyProof.Rows.slot_tuple_getitem (we PyProof.Rows.slot_tuple_getitem c.typeIs entry_tuple_getitem ?_ (args_tuple_getitem _ _)))));show wpAny _ _ (Builtin.Tuple.tupleItemsOf _>>=_) _ _ s;refine wa (tupleItemsOf_ c (wa (wpAny_typeOf (⟨os,e,d⟩) (wa (HT.sliceApplied_gen hs j n ?_)))));show wpAny _ _ (if _ then _ else _) _ _ s;rw[if_pos (by grind)];exact wa (wa (wpAny_typeOf c.typeIs (wc (wa (wpAny_rule (wc ⟨_,rfl,wc h⟩))))))
end
section
variable {X:Cx}
def CN(K:W7):V->Option Int->Option Int->Hp->VK->Prop:=λx lo e H Q=>∃a b,x=.ref a/\SqT K H a b/\HT.sIx b.length 0 lo=0/\HT.sIx b.length b.length e=b.length/\Q (.ref a) H
theorem CO:SlR X (CN X.K):=by
 intro c s u H x v o z lo w y Q I k g i f h;obtain⟨a,p,rfl,l,n,t,q⟩:=h;cases k;obtain⟨j,r,d,m⟩:=I.tuple l;have e:=r.length.symm;exact⟨"tuple",_,PyProof.Rows.slot_tuple_getitem.lookup,d.typeIs,Tn d g i f (by grind) (by grind) (⟨.ref a,H,I,rfl,q⟩)⟩
def ij(i j:Option Int):D->Option D
 | .lst l=>some (.lst (bN l i j))
 | .tup l=>some (.tup (bN l i j))
 | _=>none
def oY(c:AU)(lo b:Option AU):AU:=λa=>(c a).bind λd=>(cV lo a).bind λi=>(cV b a).bind λj=>ij i j d
variable {a e:Expr}{fa f:AU}{pos:Pos}
@[simp] theorem CP(lo a:Option AU):oY fa lo a ρ=(fa ρ).bind λd=>(cV lo ρ).bind λi=>(cV a ρ).bind λj=>ij i j d:=c7 rfl
@[simp] theorem o4(i j:Option Int)(l:AN):ij i j (.tup l)=some (.tup (bN l i j)):=c7 rfl
end
section
variable {prog:P7}{w:World}{A:Around}{E:AA}{s:Shared}
def CQ:isSubtype (.type "set") (.type "set")=pure true:=by kernel_rfl
theorem CS:∀{a:AC},a.length=b.length->(∀(j:Nat) v,a[j]?=some v->jO b j v)->IntsAre a b:=by
 induction b with
 | nil=>
   intro a h _;rw[List.length_eq_zero_iff.mp h];exact .nil
 | cons k r e=>
   intro a h c
   match a,h with
   | v::a,h=>
     obtain⟨d,t,g,i⟩:=c 0 v rfl;simp at g;subst g i;refine .cons _ t (e (by simpa using h) λj v f=>?_);obtain⟨d,t,g,i⟩:=c (j+1) v (by grind);exact⟨d,t,by grind,i⟩
theorem To(T:A.handled=none)(G:SetI prog w s.heap a ns)(hQ:∀(h':Heap) (d':Drawn) (tk:Nat) (q:AC) (d:AF),~~~s<=h'.objs.size->(∀b o,s.heap.get? b=some o->h'.get? b=some o)->IntsAre q d->d.Perm ns->Q q { s with heap:=h',drawn:=d',toks:=tk }):
 wpAny (mZ prog w) A (collect (.ref a)) Q E s:=by
 obtain⟨o,es,ep,t,O,u,hd,_⟩:=id G;have hlt:a< ~~~s:=ql O;have B:=G.len;unfold collect;refine wa (wpAny_runValue (wy F.entry_proto_collect ?_));rw[jc F.plain_proto_collect _];refine wa (wg ?_);refine wc ⟨jb F.plain_list_iadd _,wy F.entry_list_iadd ?_⟩;rw[jc F.plain_list_iadd _];generalize L:s.heap.push { cls:=.type "list",data:=.seq ([]:AC).toArray }=H
 have Z:H.objs.size= ~~~s+1:=by rw[<-L,ww]
 have c:∀b o,s.heap.get? b=some o->H.get? b=some o:=λb o e=>by rw[<-L];exact qe _ e
 have hL:H.get? (~~~s)=some { cls:=.type "list",data:=.seq ([]:AC).toArray }:=by rw[<-L];exact qp _ rfl
 have x:=c a o O
 have V:Shared.TypeIs { s with heap:=H } (.ref a) "set":=⟨o,x,u.1⟩
 have M:(~~~s)≠a:=λz=>by grind
 have h1:Builtin.List.listSameRef (.ref (~~~s)) (.ref a)=false:=by simp[Builtin.List.listSameRef,M]
 show wpAny _ A.in1 (Builtin.List.listExtendWith (.ref (~~~s)) (.ref a) (.ref (~~~s))) _ _ _;unfold Builtin.List.listExtendWith;refine wa (wpAny_typeOf V ?_)
 have h2:(Value.type "set"==Value.type "list")=false:=by decide
 have U:(Value.type "set"==Value.type "tuple")=false:=by decide
 simp only[h1,h2,U,Bool.or_false,Qo,if_false];refine wa (Sb (s:={ s with heap:=H }) (G.at λo e=>c a o e) λh' d' I Y d St i hI R hfp ua S N hty=>?_);have K:=i a o x
 have m:Shared.TypeIs { s with heap:=h',drawn:=d' } (.ref a) "set":=⟨o,K,u.1⟩
 refine wa (wd ?_);unfold Builtin.List.listLengthHint;refine wa (wpAny_specialOf m F.slot_set_len.lookup ?_);refine wa (wpAny_isInstance (b:=true) m CQ ?_);show wpAny _ A.in1 (typeOf (Value.ref a)>>=_) _ _ _;refine wa (wpAny_typeOf m ?_);refine wc ?_;rw[if_pos (by decide)];refine wa (wpAny_rule ?_)
 have C:(~~~s)∉Y:=λp=>by
  grind
 have f:=i _ _ hL;refine wa ?_;refine wa (wpAny_updateSeq f rfl ?_);have g:=wx (Obj.mapSeq (·.push Value.none)) f rfl;refine wpAny_updateSeq g rfl ?_;have l:=wx (Obj.mapSeq (·.pop)) g rfl
 have y:∀b o,b≠(~~~s)->h'.get? b=some o->
  ((h'.update (~~~s) (Obj.mapSeq (·.push Value.none))).update (~~~s) (Obj.mapSeq (·.pop))).get? b=some o:=
  λb o hb e=>(Heap.get?_update_other _ _ (Ne.symm hb)).trans ((Heap.get?_update_other _ _ (Ne.symm hb)).trans e)
 have W:=(S A.in1 T).toS
 refine wc ⟨jb F.plain_extend_loop _,codeAny_extend_loopS W (fits_of_scanBound B) _ C _ ns.length 0 _ _ _ rfl (Qh _)
  (W.frame 0 ({ s with heap:=h',drawn:=d' }:Shared) _ s.toks N (qv _) λb hb o e=>y b o (λh=>C (h ▸ hb)) e) l (ItemsOf.nil _) λs' n c' p r k=>?_⟩
 show wpAny _ A (load (~~~s)>>=_) _ _ s';refine wa (wpAny_load r ?_);have eg:s'.gens=s.gens:=p.gens;have ed:s'.drawn=d':=p.drawn;have eo:s'.os=s.os:=p.os
 have J:s'={ s with heap:=s'.heap,drawn:=d',toks:=s'.toks }:=by
  obtain⟨a1,a2,a3,a4,a5⟩:=s';grind
 rw[J];refine wc (hQ s'.heap d' s'.toks n.toList d (Nat.le_of_lt (ql r)) (λb D e=>?_) (CS (by rw[qj,k.1,ua.length_eq]) λj v hj=>k.2 j v (by grind)) ua);have hb:b< ~~~s:=ql e;refine p.heap b D (λX=>?_) (y b D (qm hb) (i b D (c b D e)));grind
theorem Tp(r:A.handled=none)(y:SetI prog w s.heap a ns)(i:ns.length<64)(v:∀(B:Heap) (D:Drawn) (tk e:Nat) (p:Addr) (k:Array Value) (c:AF),(∀b o,s.heap.get? b=some o->B.get? b=some o)->(~~~s)<=p->B.get? p=some (seqObj "list" k e)->IntsAre k.toList c->c.Perm ns->c.Pairwise (·<=·)->
  Q (.ref p) { s with heap:=B,drawn:=D,toks:=tk }):wpAny (mZ prog w) A (call (.builtin "sorted") [.ref a]) Q E s:=by
 refine Calls.call_function_entry kind_sorted plain_sorted entry_sorted (args_sorted1 _) (wa (wc (wa (To r y λB D tk f q j d m n=>?_))))
 have h:f.length<64:=by rwa [IntsAre.length m,n.length_eq]
 refine wa (wpAny_newList ?_ (by rw[jg];lia));have g:(B.push (seqObj "list" f.toArray 0)).get? _=_:=qp _ rfl;refine wa (wd (we slot_list_sort ⟨_,g,rfl⟩ entry_list_sort (list_sort_tree g m h λk c z u t=>⟨_,rfl,?_⟩) (args_list_sort _)));obtain⟨e,x⟩:=sortedHeap_at g;refine wc ⟨_,rfl,v _ D tk e _ k c (λb o l=>?_) j x z (u.trans n) t⟩;have F:=ql (d b o l);rw[sortedHeap_old (qm F) (by rw[size_push'];grind)];exact qe _ (d b o l)
end
def dn(P:P7)(w:World)(p:Addr)(a:AF):HO:=.ext λh=>SetI P w h p a
theorem CT(x:SetI P w h p a):ObjOk P w H h p (dn P w p a):=by
 refine⟨x,?_,λd c e k=>e.at k⟩;obtain⟨o,_,_,_,b,_⟩:=x;grind
section
variable {X:Cx}{pins:AB}{σ:L2.St}{H:Hp}{s:Shared}{e:Expr}{f:AU}{p p2 pos pos2:Pos}
def _root_.L2.Inv.dr(I:Inv X pins σ H s)(d':Drawn):Inv X pins σ H { s with drawn:=d' }:=⟨I.ok,I.os,I.bare,I.base,I.loc,I.cell,I.free,I.freeC,I.pin,I.hok,I.len⟩
def Mo(r:Vals (ns.map V.int) us):IntsAre us ns:=tL r
def CU(K:W7)(P:P7)(w:World):AM->Hp->VK->Prop:=λe H Q=>∃a b,e=[.ref a]/\(SqL K H a (b.map .int)\/SqT K H a (b.map .int))/\b.length<4000/\∀p c,H p=none->c.Perm (aR [] b)->Q (.ref p) (upd H p (dn P w p c))
theorem CV(v:X.calm=true):dz X (.type "set") (CU X.K X.prog X.w):=by
 intro y s C H B E Q I r h;obtain⟨a,D,rfl,c,x,q⟩:=h;obtain⟨u,rfl,w⟩:=ee r;cases w;have m:=I.ok.hd v;have n:scanBound=4096:=rfl;rcases c with c|c
 .obtain⟨f,d,p,t⟩:=I.list c
  have g:=d.length
  exact R4 m p.isList (by simpa using Mo d) (by grind) λz A j i l k=>⟨.ref _,_,I.laid (λb o e=>k b o (ql e) e) (qv _) (CT i),rfl,q _ j (I.hok.fresh (qv _)) l⟩
 .obtain⟨f,d,p,t⟩:=I.tuple c
  have g:=d.length
  exact R5 m p (by simpa using Mo d) (by grind) λz A j i l k=>⟨.ref _,_,I.laid (λb o e=>k b o (ql e) e) (qv _) (CT i),rfl,q _ j (I.hok.fresh (qv _)) l⟩
def CW(P:P7)(w:World):AM->Hp->VK->Prop:=λc H Q=>∃a b,c=[.ref a]/\H a=some (dn P w a b)/\b.length<64/\∀p,H p=none->Q (.ref p) (upd H p (.lst ((c6 b).map .int)))
theorem Mp(j:X.calm=true):dz X (.builtin "sorted") (CW X.prog X.w):=by
 intro x s C H E B Q I r h;obtain⟨a,c,rfl,l,n,q⟩:=h;obtain⟨u,rfl,k⟩:=ee r;cases k;refine Tp (I.ok.hd j) ((I.hok a _ l).1) n λD z A e p g m b i v t d y=>?_;have o:=W.ksm_same (d.trans (Yx c).symm) y (gC c);subst o;have w:=(Yx c).length_eq;refine⟨.ref p,_,.laid (I.dr z) b i (show ObjOk _ X.w _ _ _ (.lst _) from⟨by rw[qf,jg];lia,g.toList,e,nF t,by simp_all⟩),rfl,q _ (I.hok.fresh i)⟩
def o5(l:AN):Option AN:=match intsD l with
 | some a=>if a.length<4000/\(aR [] a).length<64 then some ((c6 (aR [] a)).map .int)else none
 | none=>none
def Mr(h:a.Perm b):c6 a=c6 b:=W.ksm_same (((Yx a).trans h).trans (Yx b).symm) (gC a) (gC b)
def CY(f:AU):AV:=λa=>(b1 f Yc a).bind o5
def uR{c:Sort _}{a b:c}(h:a=b):a=b:=h
@[simp] theorem i0{ρ:Ro}:CY f ρ=((f ρ).bind Yc).bind o5:=uR rfl
end
def dq(m:Nat):Nat->Nat->Nat
 | 0,i=>i
 | k+1,i=>dq m k ((i*5+1)%m)
theorem uS(m:Nat):∀(a b i:Nat),dq m (a+b) i=dq m b (dq m a i)
 | 0,b,i=>by rw[Nat.zero_add];rfl
 | a+1,b,i=>by rw[Nat.succ_add];exact uS m a b _
def kj(m:Nat):Nat->Nat->AE
 | 0,_=>[]
 | k+1,i=>i::kj m k ((i*5+1)%m)
theorem Ms:∀{k i:Nat},j∈kj m k i->∃a,a<k/\dq m a i=j
 | 0,_,h=>nomatch h
 | k+1,i,h=>by
   rcases qu h with rfl|h
   .exact⟨0,by lia,rfl⟩
   .obtain⟨a,b,e⟩:=Ms h
    exact⟨a+1,by lia,e⟩
def o6(m:Nat):Bool:=(List.range m).all (λj=>(kj m m 0).contains j)&&dq m m 0==0
def sizes:AE:=[8,16,32,64,128]
def CZ:sizes.all o6=true:=by decide +kernel
theorem C0(o:m∈sizes)(l:i<m)(n:j<m):∃k,k<m/\dq m k i=j:=by
 have h:=List.all_eq_true.mp CZ m o;unfold o6 at h;rw[Qe]at h;obtain⟨g,q⟩:=h
 have e:dq m m 0=0:=by grind
 have c:∀x,x<m->∃a,a<m/\dq m a 0=x:=λx f=>by
  have:=List.all_eq_true.mp g x (List.mem_range.mpr f);exact Ms (by grind)
 obtain⟨a,p,rfl⟩:=c i l;obtain⟨b,r,rfl⟩:=c j n;by_cases d:a<=b
 .refine⟨b-a,by lia,?_⟩
  rw[<-uS,Nat.add_sub_cancel' d]
 .refine⟨m-a+b,by lia,?_⟩
  rw[<-uS,show a+(m-a+b)=m+b by lia,uS,e]
section
variable {mask:Nat}{owner:Array AL}
theorem C1(a i p:Nat):(∃j,SetTable.layClean.free mask owner (a+1) i p=some j/\owner.getD j (some 0)=none)\/
 (owner.getD i (some 0)≠none/\SetTable.layClean.free mask owner (a+1) i p=SetTable.layClean.free mask owner a ((i*5+1+p/32)%(mask+1)) (p/32)):=by
 rw[SetTable.layClean.free]
 cases e:(List.range _).find? _ with
 | some k=>
   simp_all
 | none=>
   right;refine⟨λz=>?_,rfl⟩;have:=List.find?_eq_none.mp e 0 (List.mem_range.mpr (by unfold SetTable.runEnd;split<;>lia));grind
theorem Mt:∀(k a i:Nat),k<a->owner.getD (dq (mask+1) k i) (some 0)=none->∃j,SetTable.layClean.free mask owner a i 0=some j/\owner.getD j (some 0)=none
 | k,0,_,h,_=>absurd h (Nat.not_lt_zero _)
 | k,a+1,i,h,c=>by
   rcases C1 a i 0 with b|⟨b,d⟩
   .exact b
   .cases k with
    | zero=>exact absurd c b
    | succ k=>
      rw[d];exact Mt k a _ (by lia) c
theorem Tq(h:mask+1∈sizes)(n:i<mask+1)(o:p<1024)(g:∃j,j<mask+1/\owner.getD j (some 0)=none):∃j,SetTable.layClean.free mask owner (SetTable.turns mask) i p=some j/\owner.getD j (some 0)=none:=by
 obtain⟨j,f,l⟩:=g;have e:SetTable.turns mask=_+1+1:=rfl;rw[e];rcases C1 (mask+13+1) i p with a|⟨_,d⟩
 .exact a
 .rw[d]
  generalize (i*5+1+p/32)%(mask+1)=b;rcases C1 _ b _ with a|⟨_,c⟩
  .exact a
  .rw[c,show p/32/32=0 by lia]
   obtain⟨k,m,q⟩:=C0 h (i:=(b*5+1+0)%(mask+1)) (Nat.mod_lt _ (by lia)) f;exact Mt k _ _ (by lia) (by grind)
end
theorem uT{a c:Type}{f g:a->Option c}:∀{l:List a},(∀x∈l,f x=g x)->l.filterMap f=l.filterMap g
 | [],_=>rfl
 | x::l,h=>by
   have d:=uT λy b=>h y (qg _ b);grind
theorem o7{f g:Nat->AL}(n:f j=none)(m:g j=some k):∀{l:AE},l.Nodup->j∈l->(∀x∈l,x≠j->g x=f x)->(l.filterMap g).Perm (k::l.filterMap f)
 | [],_,h,_=>nomatch h
 | x::l,b,h,d=>by
   obtain⟨i,b⟩:=List.nodup_cons.mp b;by_cases e:x=j
   .subst e
    have:=uT λy a=>d y (qg _ a) λz=>i (z ▸ a);grind
   .have c:j∈l:=by
     grind
    have o:=o7 n m b c λy a=>d y (qg _ a);grind
theorem Mu(y:mask+1∈sizes):∀(hs:AF) (owner:Array AL) (k:Nat),owner.size=mask+1->((List.range (mask+1)).filterMap λj=>owner.getD j none).Perm (List.range k)->k+hs.length<=mask->(∀h∈hs,0<=h/\h<1024)->
 ∃c,(hs.foldl (init:=some (owner,k)) λm h=>do
  let (owner,k) <-m
  let j <-SetTable.layClean.free mask owner (SetTable.turns mask) (SetTable.bits h%(mask+1)) (SetTable.bits h)
  pure (owner.setIfInBounds j (some k),k+1))=some (c,k+hs.length)/\c.size=mask+1/\((List.range (mask+1)).filterMap λj=>c.getD j none).Perm (List.range (k+hs.length))
 | [],owner,k,u,s,_,_=>⟨owner,rfl,u,s⟩
 | h::hs,owner,k,u,s,G,w=>by
   have H:SetTable.bits h<1024:=by
    obtain⟨a,b⟩:=w h qh;unfold SetTable.bits;lia
   have f:∃j,j<mask+1/\owner.getD j (some 0)=none:=Classical.byContradiction λr=>by
    have A:=s.length_eq;rw[List.length_range]at A
    have n:∀j∈List.range (mask+1),(owner.getD j none).isSome=true:=λj v=>by
     have t:=Qb v;have:owner.getD j (some 0)≠none:=λz=>r ⟨j,t,z⟩
     have p:j<owner.size:=by lia
     simp only[Array.getD,p,dif_pos]at this ⊢;exact Option.isSome_iff_ne_none.mpr this
    have:((List.range (mask+1)).filterMap λj=>owner.getD j none).length=(List.range (mask+1)).length:=by
     generalize List.range (mask+1)=l at n
     simp_all
    grind
   obtain⟨j,v,E⟩:=Tq y (owner:=owner) (i:=SetTable.bits h%(mask+1)) (p:=SetTable.bits h) (Nat.mod_lt _ (by lia)) H f
   have B:j<owner.size:=Classical.byContradiction λz=>by
    grind
   have e:owner.getD j none=none:=by
    grind
   have F:=o7 (f:=λx=>owner.getD x none) (g:=λx=>(owner.setIfInBounds j (some k)).getD x none) (j:=j) (k:=k) e (by simp_all) (l:=List.range (mask+1)) List.nodup_range (List.mem_range.mpr (by lia)) λx q i=>by
    have C:=Qb q
    have o:x<owner.size:=by lia
    simp[Array.getD,o,Array.getElem_setIfInBounds,Ne.symm i]
   have g:((List.range (mask+1)).filterMap λx=>(owner.setIfInBounds j (some k)).getD x none).Perm (List.range (k+1)):=by
    grind
   obtain⟨c,J,I,D⟩:=Mu y hs (owner.setIfInBounds j (some k)) (k+1) (by grind) g (by grind) λx q=>w x (qg _ q);refine⟨c,?_,I,?_⟩
   .grind
   grind
theorem Mv{led plain:Bool}(d:mask+1∈sizes)(hs:Array Int)(g:hs.size<=mask)(b:∀h∈hs.toList,0<=h/\h<1024):∃t o,SetTable.laid mask finger moves led plain hs=some (t,o)/\o.toList.Perm (List.range hs.size)/\t.place.size=hs.size/\t.dummies=#[]/\t.mask=mask/\t.plain=plain:=by
 have a:((List.range (mask+1)).filterMap λj=>(Array.replicate (mask+1) (none:AL)).getD j none)=[]:=by
  simp_all
 obtain⟨i,k,l,e⟩:=Mu d hs.toList (Array.replicate (mask+1) none) 0 (by simp) (by grind) (by grind) b
 have c:SetTable.layClean mask hs=some i:=by
  unfold SetTable.layClean;grind
 have f:((List.range (mask+1)).filterMap λj=>(i.getD j none).map (j,·)).map (·.2)=(List.range (mask+1)).filterMap λj=>i.getD j none:=by
  rw[List.map_filterMap];refine uT λj _=>?_;cases i.getD j none<;>rfl
 refine⟨_,_,by unfold SetTable.laid;rw[c];rfl,?_,?_,rfl,rfl,rfl⟩
 .grind
 .have:=e.length_eq
  grind
def uU(xs:Array a)(p:Nat):(SetTable.eraseAt xs p).toList=xs.toList.eraseIdx p:=by
 unfold SetTable.eraseAt;rw[List.eraseIdx_eq_take_drop_succ];simp[Array.toList_extract];exact List.take_of_length_le (by simp)
theorem Ts(h:cn xs)(p:Nat):cn (SetTable.eraseAt xs p):=by
 unfold cn at h ⊢;rw[uU];grind
def C2(h:p<xs.size):(SetTable.eraseAt xs p).size=xs.size-1:=by
 rw[<-qj,uU,List.length_eraseIdx_of_lt (by simpa using h)];simp
theorem Tt(xs:Array a)(p:Nat)(x:a):(SetTable.insertAt xs p x).size=xs.size+1:=by
 rw[<-qj,Lf];simp;lia
section
variable {prog:P7}{w:World}{A:Around}{E:AA}{s:Shared}
theorem Tu(R:SetI prog w s.heap a ns)(h:∀h' q,Heap.SameBut a s.heap h'->SetI prog w h' a q->q.Perm (ns.erase k)->Q (decide (k∈ns)) { s with heap:=h' }):
 wpAny (mZ prog w) A (setDiscardHashed a (.int k u) (hashInt k)) Q E s:=by
 have B:=R;obtain⟨o,d,ep,t,i,D,n,c,g,C,U,x,N⟩:=R;have p:(intKind prog w).is k (.int k u)=true:=intKind_is _ _ _ _;have J:(Value.int k u).scannable=true:=rfl;unfold setDiscardHashed setFind setFindIn;refine wa ?_;refine wa (wh i n x ?_);dsimp only;rw[byScan_of J U c];simp only[↓reduceIte];refine wa (wpAny_rule ?_);refine wa (wpAny_setScan_of (knd:=intKind prog w) (k:=k) p i n x c ?_)
 cases O:List.findIdx? (λe=>(intKind prog w).is k e.2) d.toList with
 | none=>
   dsimp only
   have y:k∉ns:=λy=>by
    rw[<-g]at y;obtain⟨e,l,F⟩:=qy y;have V:=List.findIdx?_eq_none_iff.mp O e l;obtain⟨Y,L⟩:=lI c l;rw[L,F]at V;have h2:(intKind prog w).is k (.int k Y)=true:=intKind_is _ _ _ _;grind
   refine wc (wc ?_);have:=h s.heap ns (Heap.SameBut.refl a s.heap) B (by grind)
   simp_all
 | some j=>
   dsimp only;obtain⟨hj,H,_⟩:=List.findIdx?_eq_some_iff_getElem.mp O
   have r:j<d.size:=by grind
   have T:cL d.toList[j]=k:=Au H
   have y:k∈ns:=by
    grind
   refine wc ?_;dsimp only;refine wa (wh i n x ?_);dsimp only;rw[Nat.zero_add]
   have m:(SetTable.eraseAt d j).size<scanBound:=by rw[C2 r];lia
   refine wa (wpAny_storeSet_of i n ?_ (fits_of_scanBound m));have K:=jM i n (SetTable.eraseAt d j) (t.drop j);have S:=wv s.heap a (Obj.putSet (SetTable.eraseAt d j) (t.drop j));refine wa (wpAny_point (wc ?_));have f:=x;unfold SetTable.fits at f
   have G:j<t.place.size:=by lia
   have b:t.drop j={ t with place:=SetTable.eraseAt t.place j,dummies:=SetTable.insertAt t.dummies (SetTable.below t.dummies t.place[j]) t.place[j] }:=by
    unfold SetTable.drop;grind
   have v:j<ns.length:=by grind
   have Z:ns[j]=k:=by
    grind
   have I:(ns.eraseIdx j).Perm (ns.erase k):=by
    have p1:=Av v;grind
   have M:SetI prog w (s.heap.update a (Obj.putSet (SetTable.eraseAt d j) (t.drop j))) a (ns.eraseIdx j):=by
    refine⟨_,SetTable.eraseAt d j,_,t.drop j,K,D,rfl,λe l=>?_,?_,C.sublist (List.eraseIdx_sublist _ _),m,?_,?_⟩
    .rw[uU]at l
     exact c e (List.mem_of_mem_eraseIdx l)
    .rw[uU,<-g,List.eraseIdx_eq_take_drop_succ,List.eraseIdx_eq_take_drop_succ,wt,List.map_take,List.map_drop]
    .rw[b]
     unfold SetTable.fits;unfold SetTable.fill at f ⊢;simp only[Qe,beq_iff_eq,wj,C2 G,C2 r,Tt]at f ⊢;lia
    .rw[b]
     exact⟨N.1,λz=>Ts (N.2 z) j⟩
   grind
theorem C3(g:s.heap.get? a=some o)(f:o.data=.set b j t)(e:t.fits b.size=true)(i:Tab (ek w) t)(h:∀(r:Array (Int×Value)) (m:Drawn),r.toList.Perm b.toList->Q r { s with drawn:=m }):wpAny (mZ prog w) A (setWalk a) Q E s:=by
 refine wa (wh g f e (wa (jN ?_)));by_cases l:ek w=true
 .rw[if_pos l]
  exact wa (wpAny_askSetting (wc (h _ _ (Ln _ _))))
 .rw[if_neg l]
  have d:ek w=false:=by grind
  show wpAny _ _ (if (_&&_)=true then _ else _) _ _ _;by_cases c:(!t.plain&&decide (b.size > 1))=true
  .rw[if_pos c]
   refine wa (Aw _ _ _ _ (by simp) λn m k=>wc ?_);grind
  .rw[if_neg c]
   show wpAny _ _ ((if _ then _ else _)>>=_) _ _ _;rw[if_neg (by rw[i.1 d];simp)];exact wa (wc (wc (h b _ (.refl _))))
def Tv(h:∀a∈q,∃ns,SetI prog w s.heap a ns)(C:Q true s):wpAny (mZ prog w) A (setsQuiet q) Q E s:=by
 refine wa (wpAny_forIn_list _ (λc b L=>b.1=none/\L=s/\∀a∈c,∃ns,SetI _ w _ a ns) _ ?_ ?_ q _ ⟨rfl,rfl,h⟩)
 .rintro a c b L ⟨M,rfl,p⟩
  obtain⟨ns,o,r,I,t,v,D,z,i,_,_,_,y,_⟩:=p a qh;refine wa (wa (wh v z y (wc (wa (MeetsSeq2.wpAny_forIn_array _ (λc b l=>b.1=none/\l=L/\∀e∈c,e∈r.toList) _ ?_ ?_ r _ ⟨rfl,rfl,λe m=>m⟩)))))
  .rintro⟨K,x⟩ j b2 F ⟨f,rfl,g⟩
   obtain⟨N,k⟩:=lI i (g _ qh);have n:=congrArg Prod.snd k;dsimp only at n;rw[n];exact wc ⟨rfl,rfl,λe m=>g e (qg _ m)⟩
  .rintro b2 F ⟨f,rfl,_⟩
   obtain⟨G,B⟩:=b2;subst f;exact wc ⟨rfl,rfl,λa u=>p a (qg _ u)⟩
 .rintro b L ⟨M,rfl,_⟩
  obtain⟨J,H⟩:=b;subst M;exact wc C
theorem Tw(v:SetI prog w s.heap o ns)(q:SetI prog w s.heap f H)(h:∀(r:Array (Int×Value)) (T:Heap) (S:Drawn),Heap.SameBut f s.heap T->SetI prog w T f H->ElemsOf (intKind prog w) r.toList->(r.toList.map cL).Perm ns->Q r { s with heap:=T,drawn:=S }):
 wpAny (mZ prog w) A (setWalkUnseen o [f] (some f)) Q E s:=by
 have K:=v;obtain⟨O,G,R,t,x,I,y,d,k,J,U,F,D⟩:=v;refine wa (wh x y F (wa (jN ?_)))
 split
 .exact(C3 x y F D λr S M=>h r _ S (.refl f _) q (d.perm M) (by grind))
 .refine wa (Tv (λa N=>?_) ?_)
  .grind
  .refine wa (wpAny_rule ?_)
   have p:=q;obtain⟨P,B,L,u,c,i,b,l,j,n,m,e,g⟩:=q;refine wa (wh c b e ?_);dsimp only
   split
   .refine wa (wpAny_storeSet_of c b (wc (h G _ _ (.update _ f _) ⟨_,B,_,_,jM c b B _,i,rfl,l,j,n,m,e,⟨λz=>?_,λz=>?_⟩⟩ d (by rw[k]))) (fits_of_scanBound m))
    .rw[g.1 z,D.1 z]
     rfl
    .have C:=z
     rw[Qe]at C;exact g.2 C.1
   .exact wc (h G _ _ (.refl f _) p d (by rw[k]))
def SetI.nodup(x:SetI prog w h a ns):ns.Nodup:=by
 obtain⟨_,_,_,_,_,_,_,_,_,b,_⟩:=x;exact b
def SetI.type(x:SetI prog w s.heap a ns):s.TypeIs (.ref a) "set":=by
 obtain⟨o,_,_,_,c,b,_⟩:=x;exact⟨o,c,b.1⟩
def SetI.but(x:SetI prog w h a ns)(b:a≠f)(c:Heap.SameBut f h d):SetI prog w d a ns:=x.at λo e=>(c.2 a b).trans e
theorem C4(p:SetI prog w s.heap f i)(b:i.length+1<scanBound)(h:∀v c,Heap.SameBut f s.heap v->SetI prog w v f c->(∀x,x∈c↔¬(x∈i↔x=k))->c.length<=i.length+1->Q () { s with heap:=v }):
 wpAny (mZ prog w) A (holding [.int k u] (do
  if !(<-setDiscardHashed f (.int k u) (hashInt k))then
   let _ <-setAddHashed f (.int k u) (hashInt k))) Q E s:=by
 have q:=p.nodup;refine wd (wa (Tu p λr l g e a=>?_));by_cases j:k∈i
 .rw[wm j]
  refine wc (h r l g e (λx=>?_) ?_)
  .grind
  .rw[a.length_eq]
   grind
 .rw[wn j]
  rw[List.erase_of_not_mem j]at a;refine wa (Lh e (by rwa [a.length_eq]) λt o m n d=>?_);rw[if_neg (λz=>j (a.mem_iff.mp z))]at d;refine wc (h t o (g.trans m) n (λx=>?_) ?_)
  .grind
  .rw[d.length_eq,qz,a.length_eq]
   grind
def uV(a:SetI prog w s.heap o ns)(h:Q true s):wpAny (mZ prog w) A (Builtin.Frozenset.isAnySet (.ref o)) Q E s:=wa (wpAny_isInstance a.type CQ (wc h))
theorem C5{id:String}(I:o≠f)(v:SetI prog w s.heap o ns)(hF:SetI prog w s.heap f k)(K:k.length+ns.length+1<scanBound)(h:∀h' d' n,Heap.SameBut f s.heap h'->SetI prog w h' f n->(∀x,x∈n↔¬(x∈k↔x∈ns))->Q () { s with heap:=h',drawn:=d' }):
 wpAny (mZ prog w) A (Builtin.Frozenset.symmetricDifferenceUpdate id f (.ref o)) Q E s:=by
 unfold Builtin.Frozenset.symmetricDifferenceUpdate;rw[if_neg (by grind)];refine wa (wpAny_typeOf v.type ?_)
 have c:(.type "set"==Value.type "dict")=false:=by decide
 refine wa (uV v ?_);refine wa (wc ?_);have J:=v;obtain⟨oo,es,ep,t,N,Z,M,X,S,Y,hb,L,ht⟩:=J;refine wa (m:=setEpoch o) ?_;refine wa (wh N M L (wc ?_));dsimp only;refine wd ?_;refine wa (Tw v hF λr h' d' U F p C=>?_)
 refine wa (wz (MeetsSeq2.wpAny_forIn_array _ (λd _ s'=>∃b c a,s'={ s with heap:=c,drawn:=d' }/\Heap.SameBut f _ c/\SetI _ w c f a/\(∀x,x∈a↔¬(x∈k↔x∈b))/\r.toList.map cL=b++d.map cL/\a.length<=k.length+b.length/\∀e∈d,e∈r.toList)
  (λ_ s'=>∃c a,s'={ s with heap:=c,drawn:=d' }/\Heap.SameBut f s.heap c/\SetI prog w c f a/\(∀x,x∈a↔¬(x∈k↔x∈ns))) ?_ ?_ r _ ⟨[],h',k,rfl,U,F,by simp,by simp,by simp,λe H=>H⟩) (λ_ s' hs=>?_) λ_ _ e=>e)
 .rintro x d _ s' ⟨b,c,a,rfl,g,i,l,R,T,u⟩
  have W:=u x qh;obtain⟨tk,D⟩:=lI p W
  have q:a.length+1<scanBound:=by
   have e2:=C.length_eq;grind
  rw[D];refine wa (C4 i q λP z m B O V=>?_);have G:=((g.trans m).2 o I).trans N;refine wa ?_;refine wa (wa (wh G M L (wc ?_)));rw[if_neg (by simp)];refine wc (wc ⟨b++[cL x],P,z,rfl,g.trans m,B,λy=>?_,?_,?_,λe H=>u e (qg _ H)⟩)
  .grind
  .grind
  grind
 .grind
 .obtain⟨c,a,rfl,g,i,l⟩:=hs
  exact wc (h c d' a g i l)
theorem Tx(h:0<=k/\k<1024):0<=hashInt k/\hashInt k<1024:=by
 have e:rawHash k=k:=by
  unfold rawHash;grind
 unfold hashInt;grind
def C6:(List.range 64).all (λn=>decide (SetTable.sizeAbove (n*2)∈sizes)&&decide (n<SetTable.sizeAbove (n*2))&&decide (SetTable.sizeAbove (n*2)<=128))=true:=by decide +kernel
theorem C7{a:Array (Int×Value)}{o:Array Nat}(d:o.toList.Perm (List.range a.size)):(o.filterMap (a[·]?)).toList.Perm a.toList:=by
 have c:(o.filterMap (a[·]?)).toList=o.toList.filterMap (a.toList[·]?):=by simp
 have b:(List.range a.size).filterMap (a.toList[·]?)=a.toList:=by
  have:∀l:List (Int×Value),(List.range l.length).filterMap (l[·]?)=l:=λl=>by
   rw[uT λi e=>?_]
   .show List.filterMap (some ∘ λi=>l.getD i (0,.none)) _=_
    refine List.ext_getElem (by simp) λi c b=>?_;simp[b]
   grind
  grind
 grind
abbrev Mw(a:Nat)(t:SetTable):Obj:={ cls:=.type "set",dict:=none,data:=.set #[] a t }
theorem C8(b:s.heap.get? f=some (Mw p (.fresh 0 0 led)))(m:n<64)(h:∀x i t',Heap.SameBut f s.heap x->x.get? f=some (Mw i t')->t'.mask+1∈sizes->n<=t'.mask->t'.place=#[]->t'.dummies=#[]->t'.led=led->t'.plain=true->Q () { s with heap:=x }):wpAny (mZ prog w) A (setRoomFor f n) Q E s:=by
 have a:_=true:=rfl;refine wa (wh b rfl a ?_);by_cases t:21<=n*5
 .have e:(SetTable.fresh 0 0 led).roomFor n=some (n*2):=by
   unfold SetTable.roomFor SetTable.fresh SetTable.fill;grind
  rw[e];have c:=List.all_eq_true.mp C6 n (List.mem_range.mpr m);refine wa (wh b rfl a ?_);dsimp only;rw[if_neg (by rw[jg];lia)];obtain⟨t',j,y,z,v,o,u,q⟩:=Mv (mask:=SetTable.sizeAbove (n*2)-1) (plain:=true) (by grind) #[] (Qh _) (λh k=>by simp at k)
  have g:(SetTable.fresh 0 0 led).relaid ((#[]:Array (Int×Value)).map (·.1)) (n*2)=some (t',j):=by
   rw[show(#[]:Array (Int×Value)).map (·.1)=#[] by simp];exact y
  rw[g]
  have d:j=#[]:=by
   simp_all
  subst d;have r:=As y;refine wpAny_storeSet_of b rfl ?_ (by simp);have l:=jM b rfl (#[]) t';exact h _ _ t' (.update s.heap f _) l (by grind) (by lia) (by grind) o r.2.1 q
 .have e:(SetTable.fresh 0 0 led).roomFor n=none:=by
   unfold SetTable.roomFor SetTable.fresh SetTable.fill;grind
  rw[e];refine wc ?_;exact h s.heap p _ (.refl f s.heap) b (show 8∈sizes by decide) (show n<=7 by lia) rfl rfl rfl rfl
theorem C9{id:String}(T:SetI prog w s.heap o ns)(hk:∀k∈ns,0<=k/\k<1024)(hl:ns.length<64)(h:∀h' V,(∀b x,s.heap.get? b=some x->h'.get? b=some x)->SetI prog w h' (~~~s) V->V.Perm ns->Q (.ref (~~~s)) { s with heap:=h' }):
 wpAny (mZ prog w) A (Builtin.Frozenset.newFrom id (.type "set") (.ref o)) Q E s:=by
 unfold Builtin.Frozenset.newFrom newSet;refine wa (wa (jN ?_));dsimp only;simp only[newObj];refine wa (wpAny_alloc (wc ?_))
 have J:o< ~~~s:=by
  obtain⟨oo,_,_,_,G,_⟩:=T;exact ql G
 generalize W:s.heap.push _=H
 have c:∀b x,s.heap.get? b=some x->H.get? b=some x:=λb x e=>by rw[<-W];exact qe _ e
 have D:H.get? (~~~s)=some { cls:=.type "set",dict:=none,data:=.set #[] 0 (.fresh 0 0 (!ek w)) }:=by rw[<-W];exact qp _ rfl
 generalize hf:(~~~s)=f at *;have hne:o≠f:=qm J;have C:SetI prog w H o ns:=T.at λx e=>c o x e;refine wa (m:=Builtin.Frozenset.addrOf (.ref f)) (wc ?_);refine wa (wd ?_);unfold Builtin.Frozenset.updateFrom;refine wa (uV (s:={ s with heap:=H }) C ?_);rw[if_pos rfl];unfold Builtin.Frozenset.merge;have O:=C;obtain⟨oo,a,ep,t,G,hex,U,p,K,r,hb,l,R⟩:=O
 have hsz:a.size=ns.length:=by grind
 refine wa (m:=setEpoch o) ?_;unfold setEpoch;refine wa (wh (s:={ s with heap:=H }) G U l (wc ?_));dsimp only;unfold setMerge
 have h1:(f==o)=false:=by grind
 rw[if_neg (by grind)];refine wa (wh (s:={ s with heap:=H }) G U l ?_);dsimp only;by_cases i:a.isEmpty=true
 .rw[if_pos i]
  refine wc (wc (h H [] c ⟨_,#[],_,_,D,⟨rfl,rfl,rfl⟩,rfl,λe P=>by simp at P,rfl,.nil,by decide,rfl,.fresh⟩ ?_));grind
 .rw[if_neg i]
  refine wa (C8 (s:={ s with heap:=H }) D (by lia) λh' ep' t' sb g m1 m2 p1 p2 l1 l2=>?_)
  have j:t'.fits (#[]:Array (Int×Value)).size=true:=by
   unfold SetTable.fits SetTable.fill;grind
  refine wa (wh (s:={ s with heap:=h' }) g rfl j ?_);dsimp only
  have m:∀b x,s.heap.get? b=some x->h'.get? b=some x:=λb x e=>by
   have hb:b≠f:=λz=>by
    have:=ql e;grind
   exact(sb.2 b hb).trans (c b x e)
  have d:∀(y:Array (Int×Value)) (B:SetTable) b x,s.heap.get? b=some x->(h'.update f (Obj.putSet y B)).get? b=some x:=λy B b x e=>by
   have hb:b≠f:=λz=>by
    have:=ql e;grind
   exact((wv h' f _).2 b hb).trans (m b x e)
  have n:t'.fill=0:=by
   unfold SetTable.fill;grind
  unfold SetTable.road;rw[n,if_neg (by simp)]
  have v:ek w=false->(t'.led&&t.led)=true:=λz=>by
   rw[l1,R.1 z,z];rfl
  by_cases Y:(t'.mask==t.mask&&t.dummies.isEmpty)=true
  .rw[if_pos Y]
   dsimp only;refine wpAny_storeSet_of (s:={ s with heap:=h' }) g rfl ?_ (fits_of_scanBound hb);have M:=jM g rfl a { t with finger:=t'.finger,led:=t'.led&&t.led,moves:=t'.moves,plain:=t'.plain&&t.plain };refine wc (h _ ns (d _ _) ⟨_,a,_,_,M,⟨rfl,rfl,rfl⟩,rfl,p,K,r,hb,l,v,λz=>?_⟩ (.refl _));have X:(t'.plain&&t.plain)=true:=z;rw[Qe]at X;exact R.2 X.2
  .rw[if_neg Y]
   dsimp only
   obtain⟨B,q,e1,e2,e3,e4,e5,e6⟩:=Mv (mask:=t'.mask) (finger:=t'.finger) (moves:=t'.moves) (led:=t'.led&&t.led) (plain:=t'.plain&&t.plain) m1 (a.map (·.1)) (by grind) (λx S=>by
    rw[Array.toList_map]at S;obtain⟨e,P,rfl⟩:=qy S;obtain⟨tk,het⟩:=lI p P
    have I:cL e∈ns:=by grind
    have:=Tx (hk _ I)
    grind)
   rw[e1];have L:=As e1
   have N:q.toList.Perm (List.range a.size):=by grind
   have Z:=C7 N
   have hsz2:(q.filterMap (a[·]?)).size=a.size:=by rw[<-qj,Z.length_eq,qj]
   refine wa ?_;show wpAny _ _ (if ((q.filterMap (a[·]?)).size != a.size)=true then _ else _) _ _ _;rw[if_neg (by grind)];refine wc ?_;dsimp only
   have u:(q.filterMap (a[·]?)).size<scanBound:=by grind
   refine wpAny_storeSet_of (s:={ s with heap:=h' }) g rfl ?_ (fits_of_scanBound u);have M:=jM g rfl (q.filterMap (a[·]?)) B
   have F:((q.filterMap (a[·]?)).toList.map cL).Perm ns:=by grind
   refine wc (h _ _ (d _ _) ⟨_,_,_,B,M,⟨rfl,rfl,rfl⟩,rfl,p.perm Z,rfl,F.nodup_iff.mpr r,u,?_,⟨λz=>by grind,λ_=>L.1⟩⟩ F);unfold SetTable.fits SetTable.fill;grind
theorem Tz:entryFor table "set.__xor__"=some Builtin.«frozenset.__xor__»:=
 entryFor_alias (id':="frozenset.__xor__") (by kernel_rfl) (by first|rfl|decide +kernel|(unfold String.splitOn)) (by decide +kernel) (by kernel_rfl)
theorem C_(G:SetI prog w s.heap a ns)(j:SetI prog w s.heap b g)(q:∀k∈g,0<=k/\k<1024)(t:g.length<64)(u:ns.length<64)(h:∀I H f,(∀c x,s.heap.get? c=some x->I.get? c=some x)->SetI prog w I (~~~s) f->(∀x,x∈f↔¬(x∈g↔x∈ns))->Q (.ref (~~~s)) { s with heap:=I,drawn:=H }):
 wpAny (mZ prog w) A (binaryOp .BitXor (.ref a) (.ref b)) Q E s:=by
 refine wpAny_binaryOp_same G.type j.type F.fills_set_xor F.slot_set_xor (we F.slot_set_xor G.type Tz (wa (wpAny_of_eq rfl (wa (wa (uV G (uV j (wa (wc (wa (wa (wa (wpAny_isInstance G.type CQ (wc (wa (C9 j q t λD f m p v=>?_))))))))))))))) (F.args_set_xor_2 _ _))
 have d:a< ~~~s:=by
  obtain⟨C,_,_,_,y,_⟩:=G;exact ql y
 have r:scanBound=4096:=rfl;refine wa (wc (wa (wd (C5 (qm d) (G.at λx e=>m a x e) p (by rw[v.length_eq];lia) λo H i n l B=>wc (wc ⟨_,rfl,(λz=>nomatch z),h o H i (λc x e=>?_) l λx=>?_⟩)))))
 .exact(n.2 c (qm (ql e))).trans (m c x e)
 grind
end
section
variable {X:Cx}{pins:AB}{σ:L2.St}{H:Hp}{s:Shared}
def Da(P:P7)(w:World):V->V->Hp->VK->Prop:=λx y H Q=>∃a b e c,x=.ref a/\y=.ref b/\H a=some (dn P w a e)/\H b=some (dn P w b c)/\(∀k∈c,0<=k/\k<1024)/\c.length<64/\e.length<64/\
 ∀p d,H p=none->d.Nodup->(∀x,x∈d↔¬(x∈c↔x∈e))->Q (.ref p) (upd H p (dn P w p d))
def op_xor:bp X (binaryOp .BitXor) (Da X.prog X.w):=by
 intro o s w H x y v u Q I j m h;obtain⟨a,b,t,n,rfl,rfl,p,g,f,k,d,q⟩:=h;cases j;cases m
 exact C_ ((I.hok a _ p).1) ((I.hok b _ g).1) f k d λz r i c e l=>⟨.ref _,_,.laid (I.dr r) c (qv _) (CT e),rfl,q _ i (I.hok.fresh (qv _)) e.nodup l⟩
end
theorem eD:∀(l a:AF) (x:Int),x∈aR a l↔x∈a\/x∈l
 | [],a,x=>by simp[aR]
 | k::l,a,x=>by
   rw[aR,eD];grind
theorem kl:∀(l a:AF),a.Nodup->(aR a l).Nodup
 | [],_,h=>h
 | k::l,a,h=>by
   refine kl l _ ?_;grind
def dN(a b:AF):AF:=(aR [] b).filter (λx=>!(a.contains x))++(aR [] a).filter (λx=>!(b.contains x))
theorem Mx:x∈dN a b↔¬(x∈b↔x∈a):=by
 unfold dN;rw[List.mem_append,Ql,Ql,eD,eD];grind
theorem De(a b:AF):(dN a b).Nodup:=by
 unfold dN;rw[List.nodup_append];refine⟨(kl b [] .nil).filter _,(kl a [] .nil).filter _,λx e y d z=>?_⟩;have c:=Qc d;rw[eD]at c;grind
def ik(l m:AN):Option AN:=(intsD l).bind λa=>(intsD m).bind λb=>
 if a.length<4000/\b.length<4000/\(aR [] a).length<64/\(aR [] b).length<64/\(b.all λk=>decide (0<=k/\k<1024))=true/\(dN a b).length<64 then some ((c6 (dN a b)).map .int)else none
section
variable {X:Cx}{e e2:Expr}{f f2:AU}{p p2 p3 pos pos2 pos3 pos4:Pos}
def uW(f f2:AU):AV:=λa=>(b1 f Yc a).bind λl=>(b1 f2 Yc a).bind λm=>ik l m
@[simp] theorem km:uW f f2 ρ=((f ρ).bind Yc).bind λl=>((f2 ρ).bind Yc).bind λm=>ik l m:=uR rfl
end
section
variable {prog:P7}{w:World}{A:Around}{E:AA}{s:Shared}
structure TB(w:World)(h:Heap)(a:Addr)(us:List (Int×Addr)):Prop where
 ex:∃o es ep t,h.get? a=some o/\o.ExactSet/\o.data=.set es ep t/\es.toList=us.map (λu=>(u.1,Value.ref u.2))/\t.fits es.size=true/\t.mask=7/\t.dummies=#[]/\t.place.toList=us.map (λu=>SetTable.bits u.1%8)/\Tab (ek w) t
end
def Df(mask:Nat)(p:SetTable.Probe):SetTable.Probe:=SetTable.advance { mask:=mask,place:=#[],dummies:=#[],finger:=0,led:=false,moves:=0,plain:=false } p
def Dg(mask:Nat):Nat->SetTable.Probe->SetTable.Probe
 | 0,p=>p
 | k+1,p=>Dg mask k (Df mask p)
def TC(mask i perturb:Nat):SetTable.Probe:={ j:=i,more:=SetTable.runEnd mask i-i,i,perturb,dummy:=none }
def TF(mask:Nat)(a:Nat->Prop)(p:SetTable.Probe)(j:Nat):Prop:=∃k,(Dg mask k p).j=j/\∀m,m<k->a (Dg mask m p).j
abbrev TH(mask:Nat)(h:Int):SetTable.Probe:=TC mask (SetTable.bits h%(mask+1)) (SetTable.bits h)
section
variable {t:SetTable}{hA:Nat->Int}{h:Int}
structure o8(t:SetTable)(n:Nat):Prop where
 hs:t.mask+1∈sizes
 dm:t.dummies=#[]
 rise:cn t.place
 le:∀j∈t.place.toList,j<=t.mask
 sz:t.place.size=n
 room:n<=t.mask
end
def bI(b:Bool):Int:=if b then 1 else 0
def bH(a:AG):Int:=nL (a.map bI)
def Dh(h:Heap)(u:Addr)(a:AG):Prop:=a.length<=4/\∃o n,h.get? u=some o/\o.cls=.type "tuple"/\o.data=.seq (a.map .bool).toArray n
structure TJ(w:World)(h:Heap)(S:Addr)(us:List (Addr×AG)):Prop where
 ex:∃o es ep t,h.get? S=some o/\o.ExactSet/\o.data=.set es ep t/\es.toList.Perm (us.map λu=>(bH u.2,Value.ref u.1))/\t.fits es.size=true/\o8 t es.size/\Tab (ek w) t/\es.size*5<t.mask*3/\∀q∈es.toList.zip t.place.toList,TF t.mask (·∈t.place.toList) (TH t.mask q.1.1) q.2
 keys:(us.map (·.2)).Nodup
 tups:∀u∈us,Dh h u.1 u.2
 few:us.length<=24
section
variable {n:Nat}{key:Nat->Nat}{cmp:Nat->Nat->(Bool->Shared->Prop)->Shared->Prop}{s:Shared}
variable (hinj:∀i j,i<n->j<n->key i=key j->i=j) (hc:∀i j (C:Bool->Shared->Prop),i<n->j<n->C (decide (key i<key j)) s->cmp i j C s)
include hinj hc
omit hinj hc in
omit hinj hc in
omit hinj hc in
end
section
variable {X:Cx}{e:Expr}{f:AU}{p p2 pos pos2:Pos}
def ko(f:AU):AR:=λa=>(f a).map λ_=>.nx a
@[simp] theorem uX{ρ:Ro}:ko f ρ=(f ρ).map λ_=>.nx ρ:=uR rfl
def o9:D->D->Option D
 | .tup a,.tup b=>if a.length+b.length<=ax then some (.tup (a++b))else none
 | _,_=>none
def Di(K:W7):R2:=λx y H Q=>∃a b c d,x=.ref a/\y=.ref b/\SqT K H a c/\SqT K H b d/\c.length+d.length<=sizeLine/\
 (c=[]->Q (.ref b) H)/\(c≠[]->d=[]->Q (.ref a) H)/\(c≠[]->d≠[]->∀p,H p=none->Q (.ref p) (upd H p (.tup (c++d))))
def Dj:bp X (binaryOp .Add) (Di X.K):=by
 intro t s J H x y v u Q I A k h;obtain⟨a,b,o,G,rfl,rfl,z,B,R,D,F,M⟩:=h;by_cases d:o=[]
 .cases A
  cases k;obtain⟨L,C,S,_⟩:=I.tuple z;obtain⟨r,U,O,_⟩:=I.tuple B;obtain⟨⟨K,E,m,N⟩,q,l,n,w⟩:=S;obtain⟨⟨p,i,data2,j⟩,f,g,T,e⟩:=O;simp at l w g e;subst l w g e
  exact concat_meets ⟨_,q,rfl⟩ ⟨_,f,rfl⟩ noFill_tuple_add seq_tuple_add PySem.F.slot_tuple_add PySem.F.entry_tuple_add (PySem.F.args_tuple_add_2 _ _)
   (tuple_addW0 a b _ _ n T E i N j (by simp[C.nil_iff.mpr d])) ⟨q,f,⟨.ref b,H,I,rfl,D d⟩⟩
 .exact z3 _ s J H _ _ _ _ Q I A k ⟨a,b,o,G,rfl,rfl,z,B,d,R,F d,M d⟩
@[simp] theorem lY(a b:AN):o9 (.tup a) (.tup b)=if a.length+b.length<=ax then some (.tup (a++b))else none:=uR rfl
end
structure ZE(X:Cx)(e:Expr)(f:AU):Prop where
 un:ME X e f
structure ZC(X:Cx)(e:Expr)(f:AU):Prop where
 un:MC X e f
structure i3(X:Cx)(es:AK)(f:AV):Prop where
 un:tZ X es f
structure ZF(X:Cx)(e:Expr)(f:AV):Prop where
 un:MF X e f
structure ZT(X:Cx)(e:Expr)(f:AT):Prop where
 un:MT X e f
structure ZW(X:Cx)(e:Expr)(f:AT):Prop where
 un:MW X e f
structure ZA(X:Cx)(es:AK)(f:AV):Prop where
 un:MA X es f
structure ZI(X:Cx)(tg iter:Expr)(f:AV):Prop where
 un:MI X tg iter f
structure ZS(X:Cx)(st:Stmt)(f:AR):Prop where
 un:MS X st f
structure ZB(X:Cx)(sts:List Stmt)(f:AR):Prop where
 un:MB X sts f
structure ZG(X:Cx)(tg:Expr)(gt:AS):Prop where
 un:MG X tg gt
structure gc(X:Cx)(K:W7)(ifs:AK)(f:AT):Prop where
 un:d4 X ifs (tTof K f)
structure ZO(X:Cx)(e:Option Expr)(f:Option AU):Prop where
 un:PO X e (tO X.K f)
structure ZP(X:Cx)(pos:Pos)(keys:List (Option Expr))(values:AK)(ks:AJ)(fs:List AU):Prop where
 un:MP X pos keys values ks fs
section
variable {K:W7}{X:Cx}{H0 G0 H G:Hp}{σ:L2.St}{ρ:Ro}{a b c e:Expr}{es:AK}{fa fb fc f:AU}{ga:AV}{pos:Pos}
def Yo(h:ZE X e f):ZC X e f:=⟨ME.mc h.un⟩
theorem dA(i:Nat)(n:X.N[i]?=some x:=by rfl)(k:eW X.env.scope x:=by trivial)(l:cv x:=by decide)(g:fR x:=by decide):ZE X (.Name x pos) (ab i):=⟨
 PE.imp (gA n k l g) λc H Q j=>by
  obtain⟨f,d,b,a,G,e,s,h⟩:=j;obtain⟨v,o,m⟩:=s.sh i d (Lv e)
  exact⟨v,o,h v H G (.refl s.seen) m⟩⟩
theorem Yi(i:Nat)(r:X.N[i]?=some x:=by rfl)(w:eW X.env.scope x:=by trivial)(z:cv x:=by decide)(m:fR x:=by decide):ZC X (.Name x pos) (aa i):=⟨
 PE.imp (gA r w z m) λD H Q o=>by
  obtain⟨E,d,F,B,G,e,s,h⟩:=o;unfold aa at e
  split at e
  .rename_i C k
   cases e;obtain⟨v,g,j⟩:=s.sh i _ k;exact⟨v,g,h v H G (.refl s.seen) (.of s.seen j)⟩
  .rename_i l n
   cases e;obtain⟨a,c,g,j,y,p,q⟩:=s.ow i l n;exact⟨_,g,h _ H G (.refl s.seen) (⟨a,c,rfl,.inl p,q⟩)⟩
  .rename_i t f b n
   cases e;obtain⟨a,u,A,g,j,y,p,q⟩:=s.od i t f b n;exact⟨_,g,h _ H G (.refl s.seen) (by rw[Ct];grind)⟩
  .cases e⟩
def dB{j}:ZE X (.Constant (.int i) j pos) (kD (.int i)):=⟨nP⟩
def uY{j}:ZE X (.Constant (.bool k) j pos) (kD (.bl k)):=⟨AZ⟩
def My{j}:ZE X (.Constant .none j pos) (kD .non):=⟨A0⟩
theorem i4{j}(g:PyData.strOk x=true:=by decide +kernel):ZE X (.Constant (.str x) j pos) (kD (.str x)):=⟨nO mN (λ_ _ _ q=>q) λ_=>by rw[Rp];grind⟩
def uZ(d:ZC X a fa)(c:ZC X b fb):ZE X (.BinOp a .Sub b pos) (b2 fa fb eZ):=⟨have d:=d.un;have c:=c.un;lJ zc Lx d c⟩
def Dk(d:ZC X a fa)(c:ZC X b fb):ZE X (.BinOp a .Mult b pos) (b2 fa fb fY):=⟨have d:=d.un;have c:=c.un;lJ zd (uA λi j h=>by
 simp only[Bool.or_eq_true,Qe,wj]at h
 exact h) d c⟩
def u3(d:ZC X a fa)(c:ZC X b fb):ZE X (.BinOp a .FloorDiv b pos) (b2 fa fb de):=⟨have d:=d.un;have c:=c.un;lJ ze (uA λi j h=>by
 simp [wj]at h
 exact h) d c⟩
def gg(d:ZC X a fa)(c:ZC X b fb):ZE X (.BinOp a .Mod b pos) (b2 fa fb a7):=⟨have d:=d.un;have c:=c.un;lJ zf (uA λi j h=>wq h) d c⟩
def Dl(d:ZC X a fa)(c:ZC X b fb):ZE X (.Compare a [.GtE] [b] pos) (mB (b2 fa fb A5)):=⟨have d:=d.un;have c:=c.un;jQ zk nR d c (fU _)⟩
def Dm(d:ZC X a fa)(c:ZC X b fb):ZT X (.Compare a [.Lt] [b] pos) (b2 fa fb hB):=⟨have d:=d.un;have c:=c.un;eP mY nR d c (fU _)⟩
def Dn(d:ZC X a fa)(c:ZC X b fb):ZT X (.Compare a [.Gt] [b] pos) (b2 fa fb A4):=⟨have d:=d.un;have c:=c.un;eP zj nR d c (fU _)⟩
def o_(g:X.A.units+64<cLine)(d:ZC X a fa)(c:ZC X b fb):ZE X (.Compare a [.Eq] [b] pos) (mB (b2 fa fb (aI false))):=⟨have d:=d.un;have c:=c.un;jQ (nU g) uB d c (fU _)⟩
def Do(g:X.A.units+64<cLine)(d:ZC X a fa)(c:ZC X b fb):ZE X (.Compare a [.NotEq] [b] pos) (mB (b2 fa fb (aI true))):=⟨have d:=d.un;have c:=c.un;jQ (nV g) uB d c (fU _)⟩
def gG(g:X.A.units+64<cLine)(d:ZC X a fa)(c:ZC X b fb):ZT X (.Compare a [.Eq] [b] pos) (b2 fa fb (aI false)):=⟨have d:=d.un;have c:=c.un;eP (nU g) uB d c (fU _)⟩
def Dp(g:X.A.units+64<cLine)(d:ZC X a fa)(c:ZC X b fb):ZT X (.Compare a [.NotEq] [b] pos) (b2 fa fb (aI true)):=⟨have d:=d.un;have c:=c.un;eP (nV g) uB d c (fU _)⟩
def Dq(g:X.A.units+64<cLine)(d:ZC X a fa)(c:ZC X b fb)(h:behindInMarks .In b=false:=by with_unfolding_all rfl):ZE X (.Compare a [.In] [b] pos) (mB (b2 fa fb (dU false))):=⟨have d:=d.un;have c:=c.un;jQ (nW g) A9 d c h⟩
def Ds(g:X.A.units+64<cLine)(d:ZC X a fa)(c:ZC X b fb)(h:behindInMarks .In b=false:=by with_unfolding_all rfl):ZT X (.Compare a [.In] [b] pos) (b2 fa fb (dU false)):=⟨have d:=d.un;have c:=c.un;eP (nW g) A9 d c h⟩
def Mz(g:X.A.units+64<cLine)(d:ZC X a fa)(c:ZC X b fb)(h:behindInMarks .NotIn b=false:=by with_unfolding_all rfl):ZT X (.Compare a [.NotIn] [b] pos) (b2 fa fb (dU true)):=⟨have d:=d.un;have c:=c.un;eP (Se g) A9 d c h⟩
end
section
variable {K:W7}{X:Cx}{a b c e tg elt iter ie ke:Expr}{es rest ifs elts:AK}{fa fb f fe fk:AU}{fc fd:AT}{ga gl:AV}{pos p pos' pt p2 pos2 px dpos:Pos}{x:Str}{id T:String}{r:AM->Hp->VK->Prop}{g:AN->Option D}{gf:AN->Option AN}{st:Stmt}{sts:List Stmt}{fs gs:AR}{scope:Scope}{N:AJ}{src:List AL}{gt:AS}{P:P7}{w:World}{mg:AD}{base:Heap}{x1:Nat}{ta:TA}
def Dt(j:ZC X a fa)(o:∀i,isTrue a X.env i=(do let v <-i;standAt a.pos;holding [v] (truthy v)):=by intro _;rfl):ZT X a (b1 fa aQ):=⟨have j:=j.un;
 PT.imp (Rg j o) λc H Q l=>by
  obtain⟨b,k,A,B,G,e,s,h⟩:=l;obtain⟨d,t,u⟩:=dS e
  exact tCof.at t s λv y m n q z=>⟨k,A_ u q,h y m n⟩⟩
def Du(d:ZT X a fc):ZW X (.BoolOp .And [a] pos) fc:=⟨have d:=d.un;yt d⟩
def Dv(d:ZT X a fc):ZW X (.BoolOp .Or [a] pos) fc:=⟨have d:=d.un;yu d⟩
def Dw(d:ZT X a fc)(c:ZW X (.BoolOp .And (b::rest) pos) fd):ZW X (.BoolOp .And (a::b::rest) pos) (b9 fc fd):=⟨have d:=d.un;have c:=c.un;PW.imp (yv d c) λ_ _ _ h=>Ba h⟩
def pa(d:ZT X a fc)(c:ZW X (.BoolOp .Or (b::rest) pos) fd):ZW X (.BoolOp .Or (a::b::rest) pos) (fZ fc fd):=⟨have d:=d.un;have c:=c.un;PW.imp (yw d c) λ_ _ _ h=>Bb h⟩
def Dx(i:ZT X a fc):ZT X (.UnaryOp .Not a pos) (d7 fc):=⟨have i:=i.un;PT.imp (yx i) λc H Q d=>by
 obtain⟨b,k,t,q,G,e,s,h⟩:=d;obtain⟨o,j,rfl⟩:=qc e
 exact tTof.at j s λm n l _=>h m n l⟩
def Dy(d:ZE X a fa):ZE X (.BoolOp .And [a] pos) fa:=⟨have d:=d.un;yA d⟩
def Dz(j:ZE X a fa)(c:ZE X (.BoolOp .And (b::rest) pos) fb):ZE X (.BoolOp .And (a::b::rest) pos) (eu fa fb):=⟨have j:=j.un;have c:=c.un;PE.imp (yB j c) λg H Q i=>by
 obtain⟨f,d,F,I,G,e,s,h⟩:=i;obtain⟨k,A,e⟩:=qa e;obtain⟨E,y,q⟩:=dS A;cases Lz q
 refine tOf.at y s λv C m l t n=>⟨k,t,?_⟩
 cases k with
 | true=>
   exact tOf.at e n λw u B z o _=>h w u B (l.trans z) o
 | false=>
   cases e
   exact h _ C m l (by rw[Rp])⟩
def DA(j:ZE X a fa):ZE X (.UnaryOp .Not a pos) (hP fa):=⟨have j:=j.un;PE.imp (yC j) λc H Q i=>by
 obtain⟨b,d,y,B,G,e,s,h⟩:=i;obtain⟨k,u,rfl⟩:=qc e;obtain⟨A,q,m⟩:=dS u;cases Lz m
 exact tOf.at q s λv t l n o z=>⟨k,o,h _ t l n (by rw[Rp])⟩⟩
def DB(m:ZT X c fc)(i:ZE X a fa)(f:ZE X b fb):ZE X (.IfExp c a b pos) (iU fc fa fb):=⟨have m:=m.un;have i:=i.un;have f:=f.un;PE.imp (Q3 m i f) λp H Q q=>by
 obtain⟨g,d,y,B,G,e,s,h⟩:=q;obtain⟨k,v,e⟩:=qa e;refine tTof.at v s λz A u t=>?_
 cases k with
 | true=>
   exact tOf.at e t λw j n o l _=>h w j n (u.trans o) l
 | false=>
   exact tOf.at e t λw j n o l _=>h w j n (u.trans o) l⟩
def DC(d:ZC X a fa)(c:ZC X b fb):ZE X (.Compare a [.IsNot] [b] pos) (mB (b2 fa fb (bU true))):=⟨have d:=d.un;have c:=c.un;jQ Kw LB d c (fU _)⟩
def DE(d:ZC X a fa)(c:ZC X b fb):ZT X (.Compare a [.Is] [b] pos) (b2 fa fb (bU false)):=⟨have d:=d.un;have c:=c.un;eP zl Bc d c (fU _)⟩
def DF(d:ZC X a fa)(c:ZC X b fb):ZT X (.Compare a [.IsNot] [b] pos) (b2 fa fb (bU true)):=⟨have d:=d.un;have c:=c.un;eP Kw LB d c (fU _)⟩
def kr(c:ZC X a fa)(d:ZC X b fb)(hs:jI b:=by intro _ _;rfl):ZE X (.Subscript a b pos) (b2 fa fb ao):=⟨LC c.un d.un hs⟩
def MD{lo A:Option Expr}(y:ZC X a fa)(k:ZO X lo fl)(o:ZO X A fh):ZF X (.Subscript a (.Slice lo A none p2) pos) (uC fa fl fh):=⟨have y:=y.un;have k:=k.un;have o:=o.un;
 PE.imp (K5 K8 y k o) λD H Q m=>by
  obtain⟨c,l,f,U,G,e,s,h⟩:=m;obtain⟨W,L,e⟩:=qa e;obtain⟨i,O,e⟩:=qa e;obtain⟨j,F,e⟩:=qa e;cases e;obtain⟨d,J,S⟩:=dS L;refine tCof.at J s λv w Y B R E=>uD O E λZ r t M=>uD F M λx I u C=>?_;obtain⟨p,b,rfl,g,z⟩:=LD S ((R.grow t).grow u);refine⟨p,b,rfl,g,λq n=>h q _ _ I (((B.trans t).trans u).trans (.hid C.seen n _)) (B.h.free (t.h.free (u.h.free n))) (C.seen.free n) Yg ?_⟩;unfold bN ej;rw[z.length]
  exact(z.drop _).take _⟩
def pb :ZO X none none:=⟨Bf⟩
def pd(h:ZC X e f):ZO X (some e) (some f):=⟨have h:=h.un;zY h⟩
def ku{g:AV}(h:ZF X e g):ZE X e (lF g):=⟨MF.me h.un⟩
def dW :ZA X [] ae:=⟨Bg⟩
def Ym(d:ZE X e f)(h:ZA X es ga)(hs:starEach (e::es) X.env=(false,eval e X.env)::starEach es X.env:=by rfl):ZA X (e::es) (Yb f ga):=⟨Bh d.un h.un hs⟩
def fy :i3 X [] ae:=⟨iV⟩
def eR(d:ZC X e f)(h:i3 X es ga)(hs:starEach (e::es) X.env=(false,eval e X.env)::starEach es X.env:=by rfl):i3 X (e::es) (Yb f ga):=⟨iW d.un h.un hs⟩
theorem pe{x1}(h:ZA X es ga):ZE X (.Tuple es x1 pos) (ar ga):=⟨have h:=h.un;PE.imp (zB h) λb H Q i=>by
 obtain⟨c,d,u,t,G,e,s,h⟩:=i;obtain⟨l,n,e⟩:=qa e
 split at e
 .cases e
  exact tAof.at n s λa q v o j k=>⟨by rw[j.length];exact f6 (by assumption),λp m=>h _ _ _ (o.trans (.new k.seen m _)) (⟨p,a,rfl,Yg,j.mono (Gr.new k.seen m _).g⟩)⟩
 .cases e⟩
def MH(h:ZA X es ga):ZF X (.List es pos) (bF ga):=⟨nX h.un⟩
theorem i5(l:dz X (.builtin id) r)(q:dJ X.K r g)(m:Gl X x)(n:X.mg x=none)(k:bootBuiltins x=some (.builtin id))(j:i3 X (e::es) ga)(o:x≠"__name__":=by decide)(d:cv x:=by decide)(s:starEach (e::es) X.env=(false,eval e X.env)::starEach es X.env:=by rfl)(i:(backTo pos (starEach es X.env)).any (·.1)=false:=by rfl):ZE X (.Call (.Name x p) (e::es) [] pos) (cC ga g):=⟨have j:=j.un;
 PE.imp (nt l m n k j o d s i) λ_ _ _ h=>nY q h⟩
theorem lZ(l:dz X (.builtin id) r)(q:er X.K r gf)(m:Gl X x)(n:X.mg x=none)(k:bootBuiltins x=some (.builtin id))(j:i3 X (e::es) ga)(o:x≠"__name__":=by decide)(d:cv x:=by decide)(s:starEach (e::es) X.env=(false,eval e X.env)::starEach es X.env:=by rfl)(i:(backTo pos (starEach es X.env)).any (·.1)=false:=by rfl):ZF X (.Call (.Name x p) (e::es) [] pos) (cF ga gf):=⟨have j:=j.un;
 PE.imp (nt l m n k j o d s i) λ_ _ _ h=>LF q h⟩
theorem pf(l:dz X (.type T) r)(q:dJ X.K r g)(m:Gl X x)(n:X.mg x=none)(k:bootBuiltins x=some (.type T))(j:i3 X (e::es) ga)(o:x≠"__name__":=by decide)(d:cv x:=by decide)(s:starEach (e::es) X.env=(false,eval e X.env)::starEach es X.env:=by rfl)(i:(backTo pos (starEach es X.env)).any (·.1)=false:=by rfl):ZE X (.Call (.Name x p) (e::es) [] pos) (cC ga g):=⟨have j:=j.un;
 PE.imp (iQ l m n k j o d s i) λ_ _ _ h=>nY q h⟩
theorem MJ(l:dz X (.type T) r)(q:er X.K r gf)(m:Gl X x)(n:X.mg x=none)(k:bootBuiltins x=some (.type T))(j:i3 X (e::es) ga)(o:x≠"__name__":=by decide)(d:cv x:=by decide)(s:starEach (e::es) X.env=(false,eval e X.env)::starEach es X.env:=by rfl)(i:(backTo pos (starEach es X.env)).any (·.1)=false:=by rfl):ZF X (.Call (.Name x p) (e::es) [] pos) (cF ga gf):=⟨have j:=j.un;
 PE.imp (iQ l m n k j o d s i) λ_ _ _ h=>LF q h⟩
def i6 :ZB X [] aw:=⟨Bm⟩
def fI(l:ZS X st fs)(m:ZB X sts gs):ZB X (st::sts) (ag fs gs):=⟨have l:=l.un;have m:=m.un;PSs.imp (Kn l m) λF r H n=>by
 obtain⟨b,c,i,j,G,e,s,h⟩:=n;obtain⟨o,k,e⟩:=qa e
 cases o with
 | nx a=>exact⟨b,.nx a,i,j,G,k,s,λf q p g=>⟨a,c,i,j,p,e,g,h⟩⟩
 | rt d=>cases e;exact⟨b,.rt d,i,j,G,k,s,h⟩
 | bk a=>cases e;exact⟨b,.bk a,i,j,G,k,s,h⟩
 | ct a=>cases e;exact⟨b,.ct a,i,j,G,k,s,h⟩⟩
def gH(d:ZS X st fs):ZB X [st] fs:=⟨have d:=d.un;Ko d⟩
def MK(i:AE)(h:ZS X st fs):ZS X st (wF i fs):=⟨have h:=h.un;PS.imp h λF g H d=>by
 obtain⟨b,a,k,j,G,e,s,h⟩:=d;obtain⟨f,c⟩:=SR.frz i s
 exact⟨frz i b,a,k,j,f,e,c,h⟩⟩
theorem gI(i:Nat)(a:X.N.Nodup)(g:ZE X e f)(c:X.N[i]?=some x:=by rfl)(b:c9 X.env.scope x:=by trivial)(hs:swapsWith e (some (.Name x pos')) pos.line X.env=pure false:=by rfl)(d:X.fn x=true\/X.env.scope.names.lookup x=some .local:=by trivial):ZS X (.Assign [.Name x pos'] e pos) (aq i f):=⟨n4 i a g.un c b hs d⟩
theorem DG(i:Nat)(j:X.N.Nodup)(d:ZF X e gl)(k:X.N[i]?=some x:=by rfl)(m:c9 X.env.scope x:=by trivial)(hs:swapsWith e (some (.Name x pos')) pos.line X.env=pure false:=by rfl)(l:X.fn x=true\/X.env.scope.names.lookup x=some .local:=by trivial):ZS X (.Assign [.Name x pos'] e pos) (bb i gl):=⟨have d:=d.un;PS.imp (jC j k m d hs l) λ_ _ _ h=>Bo h⟩
def l3(j:ZE X e f):ZS X (.Return (some e) pos) (ah f):=⟨have j:=j.un;PS.imp (mP j) λF c H i=>by
 obtain⟨b,a,q,u,G,e,s,h⟩:=i;obtain⟨d,l,rfl⟩:=qc e
 exact tOf.at l s λv o k t n m=>h v o k m.gr n⟩
def i7{a b:List Stmt}(d:ZT X c fc)(i:ZB X a fs)(g:ZB X b gs):ZS X (.If c a b pos) (aT fc fs gs):=⟨have d:=d.un;have i:=i.un;have g:=g.un;PS.imp (mQ d i g) λF r H j=>by
 obtain⟨p,f,l,n,G,e,s,h⟩:=j;obtain⟨k,q,e⟩:=qa e;refine tTof.at q s λt o u m=>?_
 cases k with
 | true=>
   exact⟨p,f,l,n,o,e,m,h⟩
 | false=>
   exact⟨p,f,l,n,o,e,m,h⟩⟩
theorem DH(i:Nat)(d:X.N.Nodup)(a:ZC X e f)(m:X.N[i]?=some x:=by rfl)(w:c9 X.env.scope x:=by trivial)(I:X.fn x=true\/X.env.scope.names.lookup x=some .local:=by trivial):ZS X (.AugAssign (.Name x pos') .Add e pos) (jW i f):=⟨have a:=a.un;PS.imp (yS d m w a yT) λF E H b=>by
 obtain⟨K,A,D,L,G,e,s,h⟩:=b;obtain⟨c,n,e⟩:=qa e;obtain⟨o,C,e⟩:=qa e;obtain⟨y,g,rfl⟩:=qc e;obtain⟨v,j,B⟩:=s.sh i c (Lv n);refine⟨v,j,tCof.at C s λu z t J k r=>?_⟩
 have l:∃p q,c=.int p/\o=.int q/\y=.int (p+q):=by
  unfold i2 at g;grind
 obtain⟨p,q,rfl,rfl,rfl⟩:=l
 exact⟨p,q,B,k,h _ z t (r.set_sh i (by rw[Rp]))⟩⟩
abbrev pj(X:Cx)(c:Pos)(l:AK):Prop:=((backTo c (starEach l X.env)).all (λx=>!x.1)&&(backToKw c (keywordEach [] X.env)).all (λx=>x.1.isSome)&&decide (l.length+([]:List Keyword).length+(if ([]:List Keyword).isEmpty then 0 else 1)<30))=true
theorem ML(i:Nat){o k j:Pos}(y:ZE X e f)(W:X.N[i]?=some x:=by rfl)(S:eW X.env.scope x:=by trivial)(Q:cv x:=by decide)(A:fR x:=by decide)(z:swapsWith (.Call (.Attribute (.Name x o) "append" k) [e] [] j) none pos.line X.env=pure false:=by rfl)(hs:starEach [e] X.env=[(false,eval e X.env)]:=by rfl)(q:pj X j [e]:=by rfl)(n:(k.endLine==j.line)=true:=by rfl)(m:attributeBase (.Name x o) "append" X.env (eval (.Name x o) X.env)=eval (.Name x o) X.env:=by rfl):ZS X (.Expr (.Call (.Attribute (.Name x o) "append" k) [e] [] j) pos) (cW i f b_):=⟨have y:=y.un;
 PS.imp (lA (nE PySem.F.plainAttrs_list PySem.F.slot_list_append PySem.F.type_list_append Ag (gA W S Q A) (fW y fV hs) m q n hs rfl) z) λF g H u=>by
  obtain⟨K,p,D,r,G,e,s,h⟩:=u;obtain⟨l,C,e⟩:=qa e;obtain⟨d,R,e⟩:=qa e;obtain⟨w,t,rfl⟩:=qc e;unfold b_ at t
  split at t
  .rename_i U
   cases t;obtain⟨a,c,E,I,B,Y⟩:=n5 s C;refine⟨_,E,.inl ⟨rfl,c,.of I⟩,tOf.at R s λv Z O J M L=>⟨a,c,v,rfl,rfl,J.h _ _ I,?_,h g _ O (L.mut (AY C) E ((B.mono J.g).append (.one M)))⟩⟩;rw[B.length];exact Qi U (f6 (qv _))
  .cases t⟩
theorem DI(C:ZE X l f):ZI X tg l (b1 f Yc):=⟨have C:=C.un;PI.imp (Bq C) λK H R F=>by
 obtain⟨D,N,Q,S,G,e,s,h⟩:=F;obtain⟨c,M,O⟩:=dS e;refine tOf.at M s λv B o z A E=>?_;rcases y8 O with rfl|rfl|⟨w,rfl,rfl⟩
 .obtain⟨p,r,rfl,g,j⟩:=A
  refine⟨p,r,rfl,.inr ⟨.inl (.inl (E.seen _ _ g)),λu=>h _ B o z (n6 (by rwa [<-j.length]) λi L J a b=>⟨λd n=>?_,λt=>⟨r,.inl (.inl (b _ _ (a _ _ g))),by rwa [j.length]⟩⟩)⟩⟩;obtain⟨x,k,m⟩:=j.get n;refine⟨⟨r,x,.inl (.inl (b _ _ (a _ _ g))),k⟩,λy I q=>⟨q.1,?_⟩⟩;have:=q.2 r (.inl (.inl (b _ _ (a _ _ g))));rw[k]at this;cases this;exact m.mono a
 .obtain⟨p,r,rfl,g,j⟩:=A
  refine⟨p,r,rfl,.inl ⟨.inl (dI E.seen g),λu=>h _ B o z (n6 (by rwa [<-j.length]) λi L J a b=>⟨λd n=>?_,λt=>⟨r,.inl (dI b (dI a g)),by rwa [j.length]⟩⟩)⟩⟩;obtain⟨x,k,m⟩:=j.get n;refine⟨⟨r,x,.inl (dI b (dI a g)),k⟩,λy I q=>⟨q.1,?_⟩⟩;have:=q.2 r (.inl (dI b (dI a g)));rw[k]at this;cases this;exact m.mono a
 .obtain⟨p,rfl,g⟩:=A
  have j:RpL X.K o _ _:=.ints w;refine⟨p,_,rfl,.inl ⟨E.seen.seq g,λu=>h _ B o z (n6 (by grind) λi L J a b=>⟨λd n=>?_,λt=>⟨_,b.seq (a.seq g),by grind⟩⟩)⟩⟩;obtain⟨x,k,m⟩:=j.get n;refine⟨⟨_,x,b.seq (a.seq g),k⟩,λy I q=>⟨q.1,?_⟩⟩;have:=q.2 _ (b.seq (a.seq g));rw[k]at this;cases this
  exact m.mono a⟩
theorem u4(q:Gl X "range")(z:X.mg "range"=none)(i:ZA X [a] ga)(hs:starEach [a] X.env=[(false,eval a X.env)]:=by rfl):ZI X tg (.Call (.Name "range" p) [a] [] pos) (cF ga dg):=⟨have i:=i.un;
 PI.imp (Q9 q z i hs) λg H R d=>by
  obtain⟨b,c,F,E,G,e,s,h⟩:=d;obtain⟨l,t,y⟩:=qa e;refine tAof.at t s λf k j o u C=>?_;obtain⟨n,rfl,A,B,rfl⟩:=Sg y;obtain⟨v,rfl,m⟩:=lM u;subst m;have:=h _ k j o (n7 (f6 (by unfold ax;lia)))
  grind⟩
theorem TK(v:Gl X "range")(A:X.mg "range"=none)(i:ZA X [a,b] ga)(hs:starEach [a,b] X.env=[(false,eval a X.env),(false,eval b X.env)]:=by rfl)(d:starEach [b] X.env=[(false,eval b X.env)]:=by rfl):ZI X tg (.Call (.Name "range" p) [a,b] [] pos) (cF ga fg):=⟨have i:=i.un;
 PI.imp (Q_ v A i hs d) λw H R k=>by
  obtain⟨c,f,J,I,G,e,s,h⟩:=k;obtain⟨l,u,m⟩:=qa e;refine tAof.at u s λg o z t j L=>?_;obtain⟨a,n,rfl,E,M,F,C,rfl⟩:=Sh m;obtain⟨x,r,rfl,q,j⟩:=j;obtain⟨y,rfl,B⟩:=lM j;subst q B
  exact⟨a,n,rfl,⟨by lia,by lia,by lia,by lia⟩,h _ o z t (n7 (Qg (by lia:(n-a).toNat<=2000000) (by decide)))⟩⟩
theorem u5(i:Nat)(m:X.N.Nodup)(l:X.N[i]?=some x:=by rfl)(n:c9 X.env.scope x:=by trivial)(k:X.fn x=true\/X.env.scope.names.lookup x=some .local:=by trivial):ZG X (.Name x pos) (ai i):=⟨
 PG.imp (yK m l n k) λv c H Q j=>by
  obtain⟨d,b,a,q,o,G,e,s,r,h⟩:=j;cases e
  exact h _ (s.set_sh i r)⟩
theorem DJ(i j:Nat){x y:Str}{px B:Pos}{k:Nat}(E:X.calm=true)(q:X.N.Nodup)(I:X.N[i]?=some x:=by rfl)(C:X.N[j]?=some y:=by rfl)(z:c9 X.env.scope x:=by trivial)(t:c9 X.env.scope y:=by trivial)(A:X.fn x=true\/X.env.scope.names.lookup x=some .local:=by trivial)(n:X.fn y=true\/X.env.scope.names.lookup y=some .local:=by trivial):ZG X (.Tuple [.Name x px,.Name y B] k pos) (ew i j):=⟨
 PG.imp (yP (n:=2) E (Kr (yK q I z A) (Kr (yK q C t n) yN))) λv M H Q o=>by
  obtain⟨d,f,c,J,L,G,e,s,r,h⟩:=o
  match d,e,r with
  | .tup [a,b],e,r=>
    cases e;obtain⟨p,D,rfl,g,l⟩:=r;obtain⟨u,K,rfl,F,l⟩:=l;obtain⟨w,rfl,m⟩:=lM l
    exact⟨p,[u,w],rfl,.inl (.inl (s.seen _ _ g)),rfl,u,[w],rfl,w,[],rfl,rfl,h _ ((s.set_sh i F).set_sh j m)⟩⟩
theorem MM(K:PassesOwn (mZ X.prog X.w) X.A X.env X.xe)(hc:X.calm=true)(O:ZI X tg iter gl)(R:ZG X tg gt)(w:ZB X C fs)(hs:∀x,foldedSetIterable iter X.env x=pure x:=by intro _;rfl):ZS X (.For tg iter C [] pos) (a9 gl gt fs):=⟨have O:=O.un;have R:=R.un;have w:=w.un;
 PS.imp (mW K hc O R w hs) λF σ H Q=>by
  obtain⟨D,p,H0,G0,G,e,s,h⟩:=Q;obtain⟨c,N,h2⟩:=qa e;refine⟨D,c,H0,G0,G,N,s,λJ H1 E g1 wk=>?_⟩;obtain⟨M,Z,k⟩:=(s.grow g1).rebase;refine⟨λi m b f=>m=c.length-i/\i<=c.length/\∃a g,SR X.K M E b f g a/\forM gt fs (c.drop i) a=some p,⟨_,rfl,Qh _,D,E,Z,h2⟩,?_⟩;rintro i m b f ⟨rfl,O,a,g,r,j⟩;have W:=wk.2 i f g r.gr.g r.seen;by_cases u:i<c.length
  .obtain⟨go,T⟩:=W.1 _ (qr u)
   rw[List.drop_eq_getElem_cons u]at j;obtain⟨L,e1,j⟩:=qa j;obtain⟨o,e2,j⟩:=qa j;refine .inr ⟨go,λb f=>i+1<=c.length/\∃a g,SR X.K M E b f g a/\forM gt fs _ a=some p,λY U q=>⟨c.length-(i+1),by lia,rfl,q.1,q.2⟩,λx U y=>?_⟩;obtain⟨S,g2,r2⟩:=T x U y;refine⟨_,a,L,M,E,S,e1,r.grow g2,r2,λσ3 s3=>⟨L,o,M,E,S,e2,s3,?_⟩⟩
   cases o with
   | nx n=>exact λA B z I=>⟨u,n,z,I,j⟩
   | ct n=>exact λA B z I=>⟨u,n,z,I,j⟩
   | bk n=>
     cases j;exact λA B z I=>h A B z (k _ _ _ _ I)
   | rt d=>
     cases j;refine λv B z g4 V=>h v B z ?_ V;have:=(k [] B z [] (.mkSh g4 rfl (λi d e=>by simp at e) (λi l e=>by simp at e) (λi t ks vs e=>by simp at e))).gr;exact this
  .have ei:i=c.length:=by lia
   subst ei;rw[List.drop_length]at j;cases j
   exact .inl ⟨W.2 (qv _),h b f g (k _ _ _ _ r)⟩⟩
def TL(n:Nat)(M:PassesOwn (mZ X.prog X.w) X.A X.env X.xe)(u:ZT X c fc)(y:ZB X j fs):ZS X (.While c j [] pos) (c5 fc fs n):=⟨have u:=u.un;have y:=y.un;
 PS.imp (Q5 M u y) λF N H w=>by
  obtain⟨D,i,t,z,G,e,s,h⟩:=w;refine⟨λm b p=>∃a l,SR X.K t z b p l a/\c5 fc fs m a=some i,⟨n,D,G,s,e⟩,?_⟩;rintro m b p ⟨a,l,K,f⟩
  cases m with
  | zero=>cases f
  | succ m=>
    obtain⟨k,C,f⟩:=qa f;refine tTof.at C K λJ B O A=>?_
    cases k with
    | false=>
      cases f;exact h b J B A
    | true=>
      obtain⟨o,L,f⟩:=qa f;refine⟨λb p=>∃a l,SR X.K t z b p l a/\c5 fc fs m a=some i,λE Q q=>⟨m,Qa m,q⟩,⟨a,o,t,z,B,L,A,?_⟩⟩
      cases o with
      | nx g=>exact λr I x v=>⟨g,x,v,f⟩
      | ct g=>exact λr I x v=>⟨g,x,v,f⟩
      | bk g=>cases f;exact h
      | rt d=>cases f;exact h⟩
def MN :gc X X.K [] tY:=⟨Bs⟩
def MO(S:gB X.N X.env.scope N src scope)(o:X.calm=true)(l:ZI X tg iter gl)(m:∀h C i s H,ZG (cm X scope N h C i s H) tg gt)(q:∀h C i s H,gc (cm X scope N h C i s H) X.K ifs fc)(n:∀h C i s H,ZE (cm X scope N h C i s H) elt fe)(k:∀ρ d j,gt d (ak src ρ)=some j->Le (ak src ρ) j)(hs:∀x,foldedSetIterable iter X.env x=pure x:=by intro _;rfl):ZF X (.ListComp elt [⟨tg,iter,ifs,0⟩] scope pos) (bq gl src gt fc fe):=⟨Bu S o l.un (λh C i s H=>(m h C i s H).un) (λh C i s H=>(q h C i s H).un) (λh C i s H=>(n h C i s H).un) k hs⟩
theorem DK(i:Nat){q k:Pos}(F:X.N.Nodup)(S:gB X.N X.env.scope N src scope)(v:X.calm=true)(n:ZI X tg iter gl)(z:∀j C h s H,ZG (cm X scope N j C h s H) tg gt)(B:∀j C h s H,gc (cm X scope N j C h s H) X.K ifs fc)(A:∀j C h s H,ZE (cm X scope N j C h s H) elt fe)(o:∀ρ d l,gt d (ak src ρ)=some l->Le (ak src ρ) l)(m:swapsWith (.ListComp elt [⟨tg,iter,ifs,0⟩] scope pos) (some (.Name y q)) k.line X.env=pure true:=by rfl)(u:X.N[i]?=some y:=by rfl)(t:c9 X.env.scope y:=by trivial)(E:X.fn y=true\/X.env.scope.names.lookup y=some .local:=by trivial)(hs:∀x,foldedSetIterable iter X.env x=pure x:=by intro _;rfl):ZS X (.Assign [.Name y q] (.ListComp elt [⟨tg,iter,ifs,0⟩] scope pos) k) (bb i (bq gl src gt fc fe)):=⟨Bv i F S v n.un (λj C h s H=>(z j C h s H).un) (λj C h s H=>(B j C h s H).un) (λj C h s H=>(A j C h s H).un) o m u t E hs⟩
def DL{f:Addr}{fd:FuncData}{fb:AR}(F:Fun K x i st f fd)(S:dE N ps (aDa st))(l:N.length=n)(o:ps.length=m)(b:∀(h:Value) (A:Around) (d:List Env) (s:Shared) (H:Hp) (E:XK),Room k (A.deeper (envOfC i (aDa st) (~~~s) f h))->ZB (ck cK P w K mg base N i (aDa st) f h A d s H E).nox (aFa st) fb):FnOk P w K mg base cK (k+1) f fd ps (cx K m (aj m n fb)):=Si F S l o (λh A d s H E j=>(b h A d s H E j).un)
theorem i8(c:aN X.prog X.w X.K X.mg X.base j n x ps v)(s:Room k X.A)(q:Gl X x)(h:ZA X (e::es) ga)(u:∀ρ l,ga ρ=some l->l.length=n)(o:j<=k:=by first|exact qv _|lia)(d:cv x:=by decide)(m:starEach (e::es) X.env=(false,eval e X.env)::starEach es X.env:=by rfl)(i:(backTo pos (starEach es X.env)).any (·.1)=false:=by rfl):ZE X (.Call (.Name x p) (e::es) [] pos) (cC ga v):=⟨have h:=h.un;by
 obtain⟨a,g,F,b,t,y⟩:=c
 exact Bi F (s.mono o) q y t b h d m i u⟩
def l4(d:ZC X a fa)(c:ZC X b fb):ZE X (.BinOp a .Add b pos) (b2 fa fb cN):=⟨have d:=d.un;have c:=c.un;lJ zb Lx d c⟩
def DM(j:ZC X a fa):ZE X (.UnaryOp .USub a pos) (b1 fa dh):=⟨have j:=j.un;PE.imp (y_ zh j) λc H Q i=>by
 obtain⟨b,d,u,y,G,e,s,h⟩:=i;obtain⟨x,o,k⟩:=dS e;refine tCof.at o s λv n l q m t=>?_;cases x<;>simp[dh]at k;subst k
 exact⟨_,m,h _ n l q (by rw[Rp])⟩⟩
def DN(n:ZC X a fa)(c:ZC X b fb):ZF X (.BinOp a .Add b pos) (b2 fa fb cY):=⟨have n:=n.un;have c:=c.un;PE.imp (tD By n c) λr H Q k=>by
 obtain⟨g,l,W,Z,G,e,s,h⟩:=k;obtain⟨R,S,L,J,d⟩:=nN e;refine tCof.at L s λv w Y z E A=>tCof.at J A λu U M j B y=>?_;unfold cY at d
 split at d
 .split at d
  .rename_i C
   cases d;obtain⟨p,f,rfl,F,t⟩:=E.grow j;obtain⟨q,O,rfl,I,o⟩:=B;exact⟨p,q,f,O,rfl,rfl,F,I,by rw[t.length,o.length];exact f6 C,λm i=>h m _ _ M ((z.trans j).trans (.hid y.seen i _)) (z.h.free (j.h.free i)) (y.seen.free i) Yg (t.append o)⟩
  .cases d
 .cases d⟩
theorem MQ(A:ZC X a fa)(J:Gl X "isinstance")(t:Gl X i)(b:X.mg "isinstance"=none)(u:X.mg i=none)(y:bootBuiltins i=some (.type T))(I:uG T)(S:bootBuiltins "isinstance"=some (.builtin "isinstance"):=by decide +kernel)(o:i≠"__name__":=by decide)(q:(i==("__debug__":Str))=false:=by decide)(hs:starEach [a,.Name i j] X.env=(false,eval a X.env)::starEach [.Name i j] X.env:=by rfl)(B:starEach [.Name i j] X.env=(false,eval (.Name i j) X.env)::starEach [] X.env:=by rfl)(z:(backTo pos (starEach [.Name i j] X.env)).any (·.1)=false:=by rfl):ZE X (.Call (.Name "isinstance" p) [a,.Name i j] [] pos) (mB (b1 fa (f7 T))):=⟨have A:=A.un;
 PE.imp (nt (BB I) J b S (fW A (fW (yq t u y (v:=.ty T) rfl o q) fV B) hs) (by decide) (by decide) hs z) λc H Q n=>by
  obtain⟨f,d,U,Y,G,e,s,h⟩:=n;obtain⟨k,E,rfl⟩:=t_ e;obtain⟨x,O,m⟩:=dS E;unfold f7 at m
  split at m
  .cases m
   exact tCof.at O s λv F C R L W=>⟨v,x,C,rfl,by assumption,L,h _ F C R (by rw[Rp])⟩
  .cases m⟩
theorem TM(W:Gl X "enumerate")(D:X.mg "enumerate"=none)(L:ZE X l f)(hs:starEach [l] X.env=[(false,eval l X.env)]:=by rfl):ZI X (.Tuple elts x1 pt) (.Call (.Name "enumerate" p) [l] [] pos) (b1 f fG):=⟨have L:=L.un;
 PI.imp (BK W D (Bh L Bg hs) hs) λσ H R F=>by
  obtain⟨V,ds,H0,G0,G,e,s,h⟩:=F;obtain⟨c,Y,K⟩:=dS e;obtain⟨l,N,rfl⟩:=qc K;refine tAof.at (show Yb f _ V=some [c] by simp[Yb,ae,Y]) s λvs C B J Z I=>?_;obtain⟨v,rfl,E⟩:=lM Z;rcases y8 N with rfl|rfl|⟨T,rfl,rfl⟩
  .obtain⟨p,r,rfl,g,j⟩:=E
   refine⟨p,r,rfl,.inr ⟨.inl (.inl (I.seen _ _ g)),λo=>h _ C B J ⟨by rw[lP,<-j.length];exact o,λi U O b a=>⟨λd A=>?_,λt=>⟨r,.inl (.inl (a _ _ (b _ _ g))),by rw[j.length,<-lP l];exact t⟩⟩⟩⟩⟩;obtain⟨w,k,rfl⟩:=BM A;obtain⟨x,m,u⟩:=j.get k;refine⟨⟨r,x,.inl (.inl (a _ _ (b _ _ g))),m⟩,λy Q q=>?_⟩;obtain⟨M,S,z,n,rfl,rfl⟩:=q;have:=z r (.inl (.inl (a _ _ (b _ _ g))));rw[m]at this;cases this;exact Gr.newTup a n i (u.mono b)
  .obtain⟨p,r,rfl,g,j⟩:=E
   refine⟨p,r,rfl,.inl ⟨.inl (dI I.seen g),λo=>h _ C B J ⟨by rw[lP,<-j.length];exact o,λi U O b a=>⟨λd A=>?_,λt=>⟨r,.inl (dI a (dI b g)),by rw[j.length,<-lP l];exact t⟩⟩⟩⟩⟩;obtain⟨w,k,rfl⟩:=BM A;obtain⟨x,m,u⟩:=j.get k;refine⟨⟨r,x,.inl (dI a (dI b g)),m⟩,λy Q q=>?_⟩;obtain⟨M,S,z,n,rfl,rfl⟩:=q;have:=z r (.inl (dI a (dI b g)));rw[m]at this;cases this;exact Gr.newTup a n i (u.mono b)
  .obtain⟨p,rfl,g⟩:=E
   have j:RpL X.K B _ _:=.ints T;refine⟨p,_,rfl,.inl ⟨I.seen.seq g,λo=>h _ C B J ⟨by rw[lP,<-j.length];exact o,λi U O b a=>⟨λd A=>?_,λt=>⟨_,a.seq (b.seq g),by rw[j.length,<-lP];exact t⟩⟩⟩⟩⟩;obtain⟨w,k,rfl⟩:=BM A;obtain⟨x,m,u⟩:=j.get k;refine⟨⟨_,x,a.seq (b.seq g),m⟩,λy Q q=>?_⟩;obtain⟨M,S,z,n,rfl,rfl⟩:=q;have:=z _ (a.seq (b.seq g));rw[m]at this;cases this
   exact Gr.newTup a n i (u.mono b)⟩
theorem TN(u:X.calm=true)(w:Gl X "tuple")(l:X.mg "tuple"=none)(b:Gl X "reversed")(j:X.mg "reversed"=none)(i:ZC X e f)(hs:starEach [e] X.env=[(false,eval e X.env)]:=by rfl)(z:starEach [.Call (.Name "reversed" p2) [e] [] pos2] X.env=[(false,eval (.Call (.Name "reversed" p2) [e] [] pos2) X.env)]:=by rfl):ZE X (.Call (.Name "tuple" p) [.Call (.Name "reversed" p2) [e] [] pos2] [] pos) (λρ=>(j3 f ρ).map D.tup):=⟨have i:=i.un;
 PE.imp (SQ u w l b j (iW i iV hs) hs z) λJ H Q c=>by
  obtain⟨ρ,I,M,O,G,e,s,h⟩:=c;obtain⟨N,y,rfl⟩:=qc e;obtain⟨F,t,rfl⟩:=qc y;obtain⟨d,A,x⟩:=dS t;refine tCAof.at (show Yb f _ ρ=some [d] by simp[Yb,ae,A]) s λL K E C o k=>?_;obtain⟨v,rfl,n⟩:=eQ o;obtain⟨q,r,rfl,g,B⟩:=LD x n
  exact⟨q,r,rfl,g,λm a=>h _ _ _ (C.trans (.new k.seen a _)) (⟨m,_,rfl,Yg,B.reverse.mono (Gr.new k.seen a _).g⟩)⟩⟩
theorem TQ(i:Nat){t k j:Pos}(z:ZE X e f)(r:X.N[i]?=some x:=by rfl)(U:eW X.env.scope x:=by trivial)(W:cv x:=by decide)(A:fR x:=by decide)(u:swapsWith (.Call (.Attribute (.Name x t) "extend" k) [e] [] j) none pos.line X.env=pure false:=by rfl)(hs:starEach [e] X.env=[(false,eval e X.env)]:=by rfl)(q:pj X j [e]:=by rfl)(n:(k.endLine==j.line)=true:=by rfl)(m:attributeBase (.Name x t) "extend" X.env (eval (.Name x t) X.env)=eval (.Name x t) X.env:=by rfl):ZS X (.Expr (.Call (.Attribute (.Name x t) "extend" k) [e] [] j) pos) (cW i f eA):=⟨have z:=z.un;
 PS.imp (lA (nE PySem.F.plainAttrs_list PySem.F.slot_list_extend PySem.F.type_list_extend BU (gA r U W A) (fW z fV hs) m q n hs rfl) u) λF p H y=>by
  obtain⟨V,w,T,D,G,e,s,h⟩:=y;obtain⟨l,C,e⟩:=qa e;obtain⟨d,Q,e⟩:=qa e;obtain⟨N,o,rfl⟩:=qc e;unfold eA at o
  split at o
  .split at o
   .rename_i Y
    cases o;obtain⟨a,g,L,B,I,K⟩:=n5 s C;refine⟨_,L,.inl ⟨rfl,g,.of B⟩,tOf.at Q s λv H1 S M R J=>?_⟩;obtain⟨b,Z,rfl,O,E⟩:=R;refine⟨a,b,g,Z,rfl,rfl,M.h _ _ B,dI J.seen O,?_,h p _ S (J.mut (AY C) L ((I.mono M.g).append E))⟩;rw[I.length,E.length];exact f6 Y
   .cases o
  .cases o⟩
theorem TR(g:GD X.K X.w X.mg x j)(J:Gl X x)(z:ZC X ke fk)(hs:gY ke:=by intro _ _;rfl)(Y:cv x:=by decide):ZE X (.Subscript (.Name x px) ke pos) (b1 fk (hY j)):=⟨have z:=z.un;by
 obtain⟨p,o,c,M,K,L,A,n,i⟩:=g;intro b s T H Q I ⟨ρ,d,H0,V,G,e,D,h⟩;obtain⟨dk,W,l⟩:=dS e;refine KO PySem.F.slot_dict_getitem.lookup hs (tq I J K (az (z _ s T H (λR f=>∃k r,R=.str k/\j.lookup k=some r/\Q (.str r) f) I (tCof.at W D λv U O N F s1=>?_)) λiv s2 S=>?_) Y)
 .unfold hY at l
  split at l
  .rename_i k
   obtain⟨r,m,rfl⟩:=qc l;exact⟨k,r,F.1,m,h _ U O N (⟨rfl,oj i m⟩)⟩
  .cases l
 .obtain⟨y,Z,C,E,k,r,rfl,m,q⟩:=S
  obtain⟨t,rfl⟩:=E;have B:=C.kIn p o L;obtain⟨e',w,f1,f2⟩:=L3 (P:=X.prog) i m;refine⟨⟨o,B,A.1⟩,wpAny_getItem_of (knd:=PySem.strKind _ X.w) (k:=k) (by simp[PySem.strKind,Value.isStrOf]) ⟨o,c,M,B,A,n,?_,λ_=>rfl⟩ ?_ ⟨.str r,Z,C.tok _,⟨w,rfl⟩,q⟩⟩
  .intro u he
   exact L4 i u (by grind)
  .show(c.find? _).map _=_
   grind⟩
def DO{i:Int}(g:GI X.mg x i)(j:Gl X x)(h:cv x:=by decide):ZE X (.Name x px) (kD (.int i)):=⟨by
 obtain⟨t,d⟩:=g
 exact nO (Kk (v:=.int i) j d ⟨t,rfl⟩ h) (λ_ _ _ q=>q) λ_=>by rw[Rp]⟩
def DP{X:Cx}{pos:Pos}:ZP X pos [] [] [] []:=⟨BW⟩
theorem MR{X:Cx}{pos e:Pos}{x:Str}{j:Nat}{v:Expr}{f:AU}{b:List (Option Expr)}{a:AK}{ks:AJ}{fs:List AU}(d:ZE X v f)(c:ZP X pos b a ks fs):ZP X pos (some (.Constant (.str x) j e)::b) (v::a) (x::ks) (f::fs):=⟨have d:=d.un;have c:=c.un;⟨by simp[c.len],KW BV d c.pps,by simpa using c.all,by simp[c.kv],by simp[c.kk]⟩⟩
theorem DR(hu:X.A.units+64<cLine){j:List (Option Expr)}{c:AK}(ks:AJ)(fs:List AU)(hn:ks.Nodup)(r:ks.length<=15)(h0:ks≠[])(g:ZP X dpos j c ks fs)(t:ZC X ke fk)(hs:gY ke:=by intro _ _;rfl):ZE X (.Subscript (.Dict j c dpos) ke pos) (hZ ks fs fk):=⟨have g:=g.un;have t:=t.un;
 PE.imp (zP (by lia) (zS g.pps g.all g.kv (λz=>h0 (List.eq_nil_of_length_eq_zero (by rw[<-g.kk,z];rfl))) (by rw[g.kk];exact r)) t hs) λσ H Q y=>by
  obtain⟨Y,d,H0,G0,G,e,s,h⟩:=y;obtain⟨q,F,e⟩:=qa e;obtain⟨dk,V,e⟩:=qa e;intro p m;have A:Gr H G (upd H p (.dK [])) G:=.hid s.seen m _;refine L5 g.len F (s.grow A) λo S N w B=>?_
  have E:o.length=ks.length:=by
   rw[B.length,g.len]
   have:∀(fs:_) (q:_),uI fs Y=some q->q.length=fs.length:=λfs=>by
    induction fs with
    | nil=>intro q h;cases h;rfl
    | cons f fs M=>
      intro q h;obtain⟨d,_,h⟩:=qa h;obtain⟨l,I,rfl⟩:=qc h;simp[M l I]
   exact this fs q F
  refine⟨w.h _ _ Yg,(ks.map .inr).zip o,?_,by simp[E];exact r,?_⟩
  .apply List.ext_getElem
   .simp
   .intro i I Z
    simp[kV]
  .have n:(((ks.map .inr:List aZ).zip o).map _)=_:=List.map_fst_zip (by simp[E])
   have R:gZ [] ((ks.map .inr).zip o)=(ks.map .inr).zip o:=by
    rw[L6 (by rw[n];exact .map _ (λa b h z=>h (Sum.inr.inj z)) hn) λk _=>rfl];rfl
   rw[R];have U:=tW w Yg (s.seen.free m);have C:Gr H G (upd S p (.dK ((ks.map .inr).zip o))) N:=(A.trans w).updHid m U _;refine tCof.at V (s.grow C) λv O K u L s4=>?_
   split at e
   .rename_i k
    obtain⟨rfl,_⟩:=L;obtain⟨x,J,T⟩:=(lR k B).1 d e;refine⟨p,x,rfl,.inl ⟨_,.inr k,.inl (u.h _ _ Yg),rfl,?_⟩,h x O K (C.trans u) (T.mono u.g)⟩;rw[BX,J]
   .cases e⟩
def DS(e:X.A.units+64<cLine)(c:ZC X a fa)(d:ZC X b fb)(hs:jI b:=by intro _ _;rfl):ZE X (.Subscript a b pos) (b2 fa fb bx):=⟨have c:=c.un;have d:=d.un;jR (B1 e) B5 c d hs⟩
def DT(e:X.A.units+64<cLine)(c:ZC X a fa)(d:ZC X b fb)(f:behindInMarks .In b=false:=by with_unfolding_all rfl):ZE X (.Compare a [.In] [b] pos) (mB (b2 fa fb (cO false))):=⟨have c:=c.un;have d:=d.un;jQ (ou e) B6 c d f⟩
def DU(e:X.A.units+64<cLine)(c:ZC X a fa)(d:ZC X b fb)(f:behindInMarks .In b=false:=by with_unfolding_all rfl):ZT X (.Compare a [.In] [b] pos) (b2 fa fb (cO false)):=⟨have c:=c.un;have d:=d.un;eP (ou e) B6 c d f⟩
def DV(e:X.A.units+64<cLine)(c:ZC X a fa)(d:ZC X b fb)(f:behindInMarks .NotIn b=false:=by with_unfolding_all rfl):ZT X (.Compare a [.NotIn] [b] pos) (b2 fa fb (cO true)):=⟨have c:=c.un;have d:=d.un;eP (SU e) B6 c d f⟩
theorem DW(hu:X.A.units+64<cLine)(i:Nat){p2 m:Pos}(E:ZC X ie fb)(L:ZE X e f)(hN:X.N[i]?=some x:=by rfl)(hv:eW X.env.scope x:=by trivial)(hd:cv x:=by decide)(N:fR x:=by decide)(A:∀v,assign (.Subscript (.Name x p2) ie m) X.env v=(do
 let w <-holding [v] (eval (.Name x p2) X.env)
 let B <-holding [v,w] (eval ie X.env)
 standAt m
 holding [v,w,B] (setItem w B v)
 release [v,w,B] []):=by intro _;rfl)(hs:swapsWithSole [.Subscript (.Name x p2) ie m] e pos.line X.env=pure false:=by rfl)(S:swappedStores [.Subscript (.Name x p2) ie m] e X.env=pure none:=by rfl)(M:(assignEach [.Subscript (.Name x p2) ie m] X.env).map (·.2)=[assign (.Subscript (.Name x p2) ie m) X.env]:=by rfl):ZS X (.Assign [.Subscript (.Name x p2) ie m] e pos) (h9 i fb f):=⟨have E:=E.un;have L:=L.un;
 PS.imp (mU L (mT (gA hN hv hd N) E (B4 hu) A) hs S M) λF σ H I=>by
  obtain⟨ρ,out,H0,G0,G,e,s,h⟩:=I;obtain⟨d,M,e⟩:=qa e;obtain⟨l,h2,e⟩:=qa e;obtain⟨k,Z,e⟩:=qa e;obtain⟨l',c,rfl⟩:=qc e;obtain⟨kn,h5,c⟩:=qa c;obtain⟨z,O,c⟩:=qa c
  split at c
  case isFalse=>cases c
  rename_i t;have j:=SW h2;refine tOf.at M s λv H1 G1 g1 r1 Q=>?_;obtain⟨a0,_,_,o,_⟩:=Q.od i _ _ _ j;refine⟨_,o,tCof.at Z Q λu H2 U g2 R D=>?_⟩;obtain⟨a,kxs,vxs,A,hG,hH0,Y,C,J⟩:=D.od i _ _ _ j;rw[o]at A;cases A;obtain⟨g,q,rfl,hk⟩:=j7 D.seen Y;obtain⟨b,T,rfl,b1,b2',n⟩:=om O R;have e:=uJ h5 C hk
  have K:vxs.length<ax:=by rw[J.length];exact t
  refine⟨a0,b,g,vxs,T,z,rfl,rfl,q,b1,n,K,λep=>?_⟩;have r:=r1.mono g2.g;injection c with c;subst e;refine h _ _ U (D.mutd j o (kxs:=(cy g vxs z b v).1.map (λp=>V.ref p.2)) (vxs:=(cy g vxs z b v).2) ?_ ?_ ?_)
  .refine .inr ⟨rfl,(cy g vxs z b v).1,ep,Yg,?_,?_,rfl,?_⟩
   .unfold cy
    split
    .rw[oi];exact q.len
    .simp[q.len]
   .unfold cy
    split
    .exact q.nd
    .rw[wt,List.nodup_append]
     refine⟨q.nd,by simp,λx hx y hy z'=>?_⟩;grind
   .unfold cy
    grind
  .rw[<-c]
   unfold cy
   split
   .exact C
   .rw[wt]
    refine RpL.snoc ?_ C
    cases k with
    | tup l=>
      rw[Ct]at R;rw[Rp];grind
    | _=>cases O
  .rw[<-c]
   unfold cy
   split
   .exact uH z r J
   .exact RpL.snoc r J⟩
theorem DX(O:X.A.units+64<cLine)(i:Nat){pos' dpos:Pos}(U:X.N.Nodup)(l:ZE X ke fk)(g:ZE X ve C)(K:X.N[i]?=some x:=by rfl)(L:c9 X.env.scope x:=by trivial)(hs:swapsWith (.Dict [some ke] [ve] dpos) (some (.Name x pos')) pos.line X.env=pure false:=by rfl)(B:X.fn x=true\/X.env.scope.names.lookup x=some .local:=by trivial):ZS X (.Assign [.Name x pos'] (.Dict [some ke] [ve] dpos) pos) (j9 i fk C):=⟨have l:=l.un;have g:=g.un;
 PS.imp (jC U K L (B_ O (KW l g KU)) hs B) λF V H j=>by
  obtain⟨ρ,Q,H0,G0,G,e,s,h⟩:=j;obtain⟨k,J,e⟩:=qa e;obtain⟨v,N,e⟩:=qa e;obtain⟨n,M,rfl⟩:=qc e;intro p E f;have r:Gr H G (upd H p (d5 p [] [] E)) G:=.hid s.seen f _;refine tOf.at J (s.grow r) λY Z G1 m y A=>tOf.at N A λu R t c z s2=>?_;have o:=tW (m.trans c) Yg (s.seen.free f);have d:=y.mono c.g;obtain⟨b,D,rfl,b1,S,I⟩:=om M (.of c.s d);refine⟨(m.trans c).h _ _ Yg,b,D,n,u,rfl,b1,I,λa=>?_⟩;have T:Gr H G (upd R p (d5 p [(n,b)] [u] a)) t:=(r.trans (m.trans c)).updHid f o _;refine h _ _ t (s.set_od i T f o (.inr ⟨rfl,[(n,b)],a,Yg,rfl,by simp,rfl,λq hq=>?_⟩) (.cons d .nil) (.cons z .nil))
  grind⟩
def DY(X:Cx)(pos' pos g p2:Pos)(x:Str)(i:Nat)(es:AK)(b:Expr)(fb:AU)(ns:AF)(c:X.N.Nodup)(h:oy es=some ns)(d:X.N[i]?=some x)(e:c9 X.env.scope x)(f:X.fn x=true\/X.env.scope.names.lookup x=some .local)(hs:jI b)(a:ZC X b fb):ZS X (.Assign [.Name x pos'] (.Subscript (.List es g) b p2) pos) (aq i (b2 (lF (j_ ns)) fb ao)):=⟨have a:=a.un;
 n4 i c (LC (ME.mc (MF.me (Ca ns h))) a hs) d e rfl f⟩
end
section
variable {X:Cx}{a b c e:Expr}{fa fb fc:AU}{pos:Pos}{st:Stmt}
theorem TU(N:bp X (compareOp E) r)(J:el X.K r g)(A:bp X (compareOp i) T)(p:el X.K T g')(t:ZC X a fa)(l:ZC X b fb)(q:ZC X c fc)(R:lastMarks [E,i] [b,c]=false:=by with_unfolding_all rfl):ZE X (.Compare a [E,i] [b,c] pos) (mB (uL fa fb fc g g')):=⟨have t:=t.un;have l:=l.un;have q:=q.un;
 PE.imp (Re N A t l q R) λσ H Q h=>by
  obtain⟨ρ,d,H0,G0,G,e,s,h⟩:=h;obtain⟨k,U,rfl⟩:=t_ e;obtain⟨x,y,M,Z,f⟩:=Cb U;refine tCof.at M s λv H1 G1 K F L=>tCof.at Z L λu B m j n o=>?_;rcases f with⟨f,rfl⟩|⟨f,z,S,O⟩
  .exact J v u x y _ B m _ f o.seen (F.grow j) n ⟨false,rfl,h _ B m (K.trans j) (by rw[Rp])⟩
  .exact J v u x y _ B m _ f o.seen (F.grow j) n ⟨true,rfl,tCof.at S o λw D I C r3 Y=>p u w y z k D I _ O Y.seen (n.grow C) r3 (h _ D I ((K.trans j).trans C) (by rw[Rp]))⟩⟩
def TV :ZS X st nS:=⟨Cc⟩
end
section
variable {X:Cx}{e a b f':Expr}{f fa fb fz:AU}{fc:AT}{gl:AV}{K:W7}{pos:Pos}
def DZ(b:AE)(h:ZE X e f):ZE X e (oA b f):=⟨have h:=h.un;PE.imp h λp H Q a=>by
 obtain⟨l,d,i,n,G,e,s,h⟩:=a;obtain⟨q,o,e⟩:=qa e;unfold M.scal at e
 split at e
 .rename_i k
  cases e;obtain⟨m,j⟩:=SR.frz b s;exact⟨frz b l,_,i,n,m,o,j,λv c t g r=>h v c G (.back s.seen g) (r.scal k)⟩
 .cases e⟩
theorem TX(c:AE)(h:ZE X e f):ZE X e (gE c f):=⟨have h:=h.un;PE.imp h λC H Q t=>by
 obtain⟨y,d,n,l,G,e,s,h⟩:=t;unfold gE at e;obtain⟨D,p,e⟩:=qa e
 split at e
 case isFalse=>cases e
 rename_i x;cases e;obtain⟨i,m,w⟩:=SR.frzT c s;refine⟨frz c y,_,n,l,i,p,m,λv u j g r=>?_⟩;refine h v u (λa=>if H a=none then j a else G a) ⟨g.h,λa o e=>?_,λa o e=>?_,λa h A=>?_⟩ (r.plain (λb k e=>?_) x)
 .have B:H a≠none:=λz=>by rw[s.seen _ _ e]at z;cases z
  grind
 .by_cases z:H a=none
  .rw[if_pos z]at e;exact g.s _ _ e
  .rw[if_neg z]at e;exact g.h _ _ (s.seen _ _ e)
 .grind
 .show(if H b=none then j b else G b)=some (HO.tup k)
  by_cases z:H b=none
  .grind
  .rw[if_neg z]
   refine w b k ?_
   cases q:i b with
   | none=>exact absurd (g.n b q (by grind)) z
   | some o=>
     have:=g.g _ _ q
     grind⟩
def D0(g:X.A.units+64<cLine)(d:ZC X a fa)(c:ZC X b fb)(hs:jI b:=by intro _ _;rfl):ZE X (.Subscript a b pos) (b2 fa fb cP):=⟨have d:=d.un;have c:=c.un;jR (Cj g) Cg d c hs⟩
def D1(e:X.A.units+64<cLine)(c:ZC X a fa)(d:ZC X b fb)(f:behindInMarks .In b=false:=by with_unfolding_all rfl):ZE X (.Compare a [.In] [b] pos) (mB (b2 fa fb (dj false))):=⟨have c:=c.un;have d:=d.un;jQ (oO e) Ci c d f⟩
def D2(e:X.A.units+64<cLine)(c:ZC X a fa)(d:ZC X b fb)(f:behindInMarks .NotIn b=false:=by with_unfolding_all rfl):ZT X (.Compare a [.NotIn] [b] pos) (b2 fa fb (dj true)):=⟨have c:=c.un;have d:=d.un;eP (L9 e) Ci c d f⟩
theorem D3(i:Nat){b a:Pos}(k:X.N.Nodup)(l:X.N[i]?=some x:=by rfl)(f:c9 X.env.scope x:=by trivial)(hs:swapsWith (.Dict [] [] a) (some (.Name x b)) pos.line X.env=pure false:=by rfl)(g:X.fn x=true\/X.env.scope.names.lookup x=some .local:=by trivial):ZS X (.Assign [.Name x b] (.Dict [] [] a) pos) (lS i):=⟨
 PS.imp (jC k l f Rz hs g) λF o H d=>by
  obtain⟨m,j,n,q,G,e,s,h⟩:=d;cases e;intro p c
  exact h _ _ G (s.set_od i (.hid s.seen c _) c (s.seen.free c) (kxs:=[]) (oJ (ns:=[]) Yg .nil rfl) .nil .nil)⟩
theorem D4(hu:X.A.units+64<cLine)(i:Nat){g o:Pos}(E:ZC X m fb)(J:ZE X e f)(hN:X.N[i]?=some x:=by rfl)(hv:eW X.env.scope x:=by trivial)(hd:cv x:=by decide)(K:fR x:=by decide)(w:∀v,assign (.Subscript (.Name x g) m o) X.env v=(do
 let z <-holding [v] (eval (.Name x g) X.env)
 let D <-holding [v,z] (eval m X.env)
 standAt o
 holding [v,z,D] (setItem z D v)
 release [v,z,D] []):=by intro _;rfl)(hs:swapsWithSole [.Subscript (.Name x g) m o] e pos.line X.env=pure false:=by rfl)(T:swappedStores [.Subscript (.Name x g) m o] e X.env=pure none:=by rfl)(B:(assignEach [.Subscript (.Name x g) m o] X.env).map (·.2)=[assign (.Subscript (.Name x g) m o) X.env]:=by rfl):ZS X (.Assign [.Subscript (.Name x g) m o] e pos) (oR i fb f):=⟨have E:=E.un;have J:=J.un;
 PS.imp (mU J (mT (gA hN hv hd K) E (Cm hu) w) hs T B) λF σ H C=>by
  obtain⟨ρ,O,H0,G0,G,e,s,h⟩:=C;obtain⟨d,B,e⟩:=qa e;obtain⟨l,h2,e⟩:=qa e;obtain⟨k,h3,e⟩:=qa e;obtain⟨l',b,rfl⟩:=qc e;obtain⟨ns,R,b⟩:=qa b
  obtain⟨j,rfl⟩:∃j,k=.int j:=by
   grind
  dsimp only at b
  split at b
  case isFalse=>cases b
  rename_i p;have c:=L_ h2;refine tOf.at B s λv H1 G1 g1 r1 L=>?_;obtain⟨Y,_,_,n,_⟩:=L.od i _ _ _ c;refine⟨_,n,tCof.at h3 L λu H2 G2 N r2 M=>?_⟩;obtain⟨a,S,t,w,hG,Z,dc,y,A⟩:=M.od i _ _ _ c;rw[n]at w;cases w;obtain⟨Q,e2,r,V⟩:=gF R dc y;subst r2
  have U:t.length<ax:=by rw[A.length];exact p
  have I:(zK ns t).length<sizeLine:=by
   rw[Cd _ _ r,r,jg];have:ax=1000000:=rfl;lia
  refine⟨Y,_,rfl,DPut.k (k:=Sum.inl j) Q I,?_⟩;have q:=r1.mono N.g;injection b with b;rw[oH r e2];refine h _ _ G2 (M.mutd c n (oJ Yg ?_ ?_) ?_ ?_)
  .unfold di
   grind
  .unfold di
   split
   .rw[oi];exact r
   .simp[r]
  .rw[<-b]
   unfold di;rw[V]at y
   split
   .exact y
   .rw[wt]
    exact .snoc (by rw[Rp]) y
  .rw[<-b]
   unfold di
   split
   .exact uH j q A
   .exact .snoc q A⟩
theorem TY(hu:X.A.units+64<cLine)(t:ZC X o fa)(B:ZC X e1 fb)(g:ZE X e2 fz)(m:M2 X o "get" n e1 e2 j):ZE X (.Call (.Attribute o "get" n) [e1,e2] [] j) (b3 fa fb fz iY):=⟨have t:=t.un;have B:=B.un;have g:=g.un;
 PE.imp (RA (by lia) t B g m) λσ H Q p=>by
  obtain⟨ρ,d,H0,K,G,e,s,h⟩:=p;obtain⟨x,M,e⟩:=qa e;obtain⟨y,Y,e⟩:=qa e;obtain⟨z,T,e⟩:=qa e;obtain⟨ks,f,i,b,rfl,rfl,J,rfl⟩:=SZ e;refine tCof.at M s λv H1 G1 V I L=>?_;have q:=I;obtain⟨a,c,D,rfl,O,N,rv⟩:=q;refine⟨a,rfl,.inl ⟨_,.inl (gF J O N).1⟩,tCof.at Y L λu H2 G2 E R P=>tOf.at T P λw W U F Z s3=>?_⟩;subst R;obtain⟨a',C,l,S,r,A,k⟩:=I.grow (E.trans F);cases S;obtain⟨e1,e2,e3,e4⟩:=gF J r A;refine⟨Yn b l i,?_,h _ W U ((V.trans E).trans F) ?_⟩
  .have:=DGet.k (k:=.inl i) e1
   rwa [uM]at this
  .cases g:Yn b f i with
   | none=>
     rwa [(lR i k).2 g]
   | some d=>
     obtain⟨v,f1,f2⟩:=(lR i k).1 d g
     grind⟩
def D5(c:ZC X a fa)(d:ZC X b fb):ZE X (.BinOp a .RShift b pos) (b2 fa fb eC):=⟨have c:=c.un;have d:=d.un;lJ zg (uA (λ_ _ h=>wq h)) c d⟩
def D6(d:ZC X a fa)(c:ZC X b fb):ZT X (.Compare a [.IsNot] [b] pos) (b2 fa fb (oV true)):=⟨have d:=d.un;have c:=c.un;eP Cr Cv d c (fU _)⟩
theorem D7(y:X.calm=true)(i:Nat){c t b:Pos}(hN:X.N.Nodup)(U:Gl X "dict")(E:X.mg "dict"=none)(m:ZC X e f)(z:X.N[i]?=some x:=by rfl)(R:c9 X.env.scope x:=by trivial)(j:starEach [e] X.env=[(false,eval e X.env)]:=by rfl)(n:(backTo b (starEach [] X.env)).any (·.1)=false:=by rfl)(hs:swapsWith (.Call (.Name "dict" t) [e] [] b) (some (.Name x c)) pos.line X.env=pure false:=by rfl)(K:X.fn x=true\/X.env.scope.names.lookup x=some .local:=by trivial):ZS X (.Assign [.Name x c] (.Call (.Name "dict" t) [e] [] b) pos) (fw i f):=⟨have m:=m.un;
 PS.imp (jC hN z R (iQ (Mg y) U E (by decide +kernel) (iW m iV j) (by decide) (by decide) j n) hs K) λF σ H q=>by
  obtain⟨Z,Y,H0,G0,G,e,s,h⟩:=q;obtain⟨ps,Q,e⟩:=qa e;obtain⟨d,T,u⟩:=qa Q
  split at e
  case isFalse=>cases e
  rename_i g;cases e;refine tCAof.at (show Yb f _ Z=some [d] by simp[Yb,ae,T]) s λvs H1 S g1 M k=>?_;obtain⟨v,rfl,L⟩:=eQ M
  cases d with
  | lst l=>
    obtain⟨a,I,rfl,w,V⟩:=L;obtain⟨O,N,r⟩:=CC k.seen (u) V;refine⟨a,I,O,rfl,.inl w,N,by rw[r.length];exact g,λp o=>?_⟩;obtain⟨C,B,J,A,D⟩:=uP r List.nodup_nil rfl .nil;exact h _ _ S (k.set_od i (.hid k.seen o _) o (k.seen.free o) (oJ (by rw[<-B];exact Yg) J A) (.ints _) D)
  | _=>cases u⟩
def D8(e:X.A.units+64<cLine)(c:ZC X a fa)(d:ZC X b fb)(f:behindInMarks .In b=false:=by with_unfolding_all rfl):ZT X (.Compare a [.In] [b] pos) (b2 fa fb (cQ false)):=⟨have c:=c.un;have d:=d.un;eP (CI e) Mj c d f⟩
def D9(g:X.A.units+64<cLine)(d:ZC X a fa)(c:ZC X b fb)(h:behindInMarks .NotIn b=false:=by with_unfolding_all rfl):ZT X (.Compare a [.NotIn] [b] pos) (b2 fa fb (cQ true)):=⟨have d:=d.un;have c:=c.un;eP (CJ g) Mj d c h⟩
def TZ{lo u:Option Expr}(r:ZC X a fa)(m:ZO X lo fl)(t:ZO X u fh):ZE X (.Subscript a (.Slice lo u none O) pos) (oY fa fl fh):=⟨have r:=r.un;have m:=m.un;have t:=t.un;
 PE.imp (K5 (.or K8 (.or z0 CO)) r m t) λY H Q o=>by
  obtain⟨V,d,R,Z,G,e,s,h⟩:=o;obtain⟨M,A,e⟩:=qa e;obtain⟨i,J,e⟩:=qa e;obtain⟨j,C,e⟩:=qa e;refine tCof.at A s λv T S I B z=>uD J z λN U y K=>uD C K λE D x l=>?_;have w:=(B.grow y).grow x;have n:=(I.trans y).trans x;unfold ij at e
  split at e
  .cases e
   obtain⟨p,b,rfl,g,c⟩:=w;refine .inl ⟨p,b,rfl,.inl g,λq f=>h _ _ _ (n.trans (.new l.seen f _)) (⟨q,_,rfl,.inl Yg,?_⟩)⟩;unfold bN ej;rw[c.length];exact((c.drop _).take _).mono (Gr.new l.seen f _).g
  .cases e
   obtain⟨p,b,rfl,⟨g,F⟩,c⟩:=w;by_cases k:HT.sIx b.length 0 i=0/\HT.sIx b.length b.length j=b.length
   .refine .inr (.inr ⟨p,b,rfl,.of g,k.1,k.2,h _ E D n (⟨p,b,rfl,F,?_⟩)⟩)
    unfold bN
    rwa [<-c.length,k.1,k.2,List.drop_zero,Nat.sub_zero,c.length,List.take_length]
   .refine .inr (.inl ⟨p,b,rfl,.of g,k,λq f=>h _ _ _ (n.trans (.new l.seen f _)) (⟨q,_,rfl,Yg,?_⟩)⟩)
    unfold bN ej;rw[c.length];exact((c.drop _).take _).mono (Gr.new l.seen f _).g
  .cases e⟩
end
def D_(h:ZT X c f):gc X X.K [c] f:=⟨have h:=h.un;λb s d H Q I a=>wpAny_tests_one (h _ s d H Q I a)⟩
def Ea(h:ZW X e f):ZT X e f:=⟨PW.pt h.un⟩
section
variable {X:Cx}{e e2:Expr}{f f2:AU}{p p2 pos pos2 p3 pos3 pos4:Pos}
theorem T1(A:X.calm=true)(V:Gl X "sorted")(E:X.mg "sorted"=none)(k:Gl X "set")(i:X.mg "set"=none)(t:ZC X e f)(hs:starEach [e] X.env=[(false,eval e X.env)]:=by rfl)(y:starEach [.Call (.Name "set" p2) [e] [] pos2] X.env=[(false,eval (.Call (.Name "set" p2) [e] [] pos2) X.env)]:=by rfl)(g:(backTo pos2 (starEach [] X.env)).any (·.1)=false:=by rfl)(a:(backTo pos (starEach [] X.env)).any (·.1)=false:=by rfl):ZF X (.Call (.Name "sorted" p) [.Call (.Name "set" p2) [e] [] pos2] [] pos) (CY f):=⟨have t:=t.un;
 PE.imp (nt (Mp A) V E boot_sorted (fW (iQ (CV A) k i boot_set (iW t iV hs) (by decide) (by decide) hs g) fV y) (by decide) (by decide) y a) λZ H Q b=>by
  obtain⟨D,l,S,T,G,e,s,h⟩:=b;obtain⟨R,I,e⟩:=qa e;obtain⟨d,N,P⟩:=dS I;refine tCAof.at (show Yb f _ D=some [d] by simp[Yb,ae,N]) s λY U O B L u=>?_;obtain⟨v,rfl,J⟩:=eQ L;obtain⟨q,xs,rfl,F,K⟩:=nZ P J;unfold o5 at e
  split at e
  .rename_i M n
   split at e
   .rename_i z
    cases e;cases jX n;cases jY K;refine⟨q,M,rfl,F,z.1,λm w j C=>?_⟩;have c:=Gr.hid u.seen j (dn X.prog X.w m w);have x:=u.grow c;refine⟨m,w,rfl,Yg,by rw[C.length_eq];exact z.2,λr o=>?_⟩;rw[Mr C];refine h r _ _ O ((B.trans c).trans (.hid x.seen o _)) ((B.trans c).h.free o) (x.seen.free o) Yg (.ints _)
   .cases e
  .cases e⟩
theorem T2(B:X.calm=true)(hg:Gl X "sorted")(hm:X.mg "sorted"=none)(o:Gl X "set")(t:X.mg "set"=none)(C:ZC X e f)(g:ZC X e2 f2)(hs:starEach [e] X.env=[(false,eval e X.env)]:=by rfl)(u:starEach [e2] X.env=[(false,eval e2 X.env)]:=by rfl)(W:starEach [.BinOp (.Call (.Name "set" p2) [e] [] pos2) .BitXor (.Call (.Name "set" p3) [e2] [] pos3) pos4] X.env=[(false,eval (.BinOp (.Call (.Name "set" p2) [e] [] pos2) .BitXor (.Call (.Name "set" p3) [e2] [] pos3) pos4) X.env)]:=by rfl)(N:(backTo pos2 (starEach [] X.env)).any (·.1)=false:=by rfl)(i:(backTo pos3 (starEach [] X.env)).any (·.1)=false:=by rfl)(j:(backTo pos (starEach [] X.env)).any (·.1)=false:=by rfl):ZF X (.Call (.Name "sorted" p) [.BinOp (.Call (.Name "set" p2) [e] [] pos2) .BitXor (.Call (.Name "set" p3) [e2] [] pos3) pos4] [] pos) (uW f f2):=⟨have C:=C.un;have g:=g.un;
 PE.imp (nt (Mp B) hg hm boot_sorted (fW (tD op_xor (iQ (CV B) o t boot_set (iW C iV hs) (by decide) (by decide) hs N) (iQ (CV B) o t boot_set (iW g iV u) (by decide) (by decide) u i)) fV W) (by decide) (by decide) W j) λσ H Q T=>by
  obtain⟨ρ,l,H0,G0,G,e,s,h⟩:=T;obtain⟨l1,h1,e⟩:=qa e;obtain⟨l2,h2,e⟩:=qa e;obtain⟨d1,i1,j1⟩:=dS h1;obtain⟨d2,i2,j2⟩:=dS h2;obtain⟨a,ea,e⟩:=qa e;obtain⟨b,eb,e⟩:=qa e
  split at e
  case isFalse=>cases e
  rename_i hl;obtain⟨R,S,b3,b4,b5,b6⟩:=hl;cases e;cases jX ea;cases jX eb;refine tCAof.at (show Yb f ae ρ=some [d1] by simp[Yb,ae,i1]) s λvs H1 G1 g1 r1 U=>?_;obtain⟨v,rfl,rv⟩:=eQ r1;obtain⟨q,xs,rfl,T,rl⟩:=nZ j1 rv;cases jY rl;refine⟨q,a,rfl,T,R,λm ns K hp=>?_⟩;have M:=Gr.hid U.seen K (dn X.prog X.w m ns);have s2:=U.grow M;refine tCAof.at (show Yb f2 ae ρ=some [d2] by simp[Yb,ae,i2]) s2 λvs2 H3 G3 D r3 Y=>?_;obtain⟨v2,rfl,A⟩:=eQ r3;obtain⟨q2,xs2,rfl,E,I⟩:=nZ j2 A;cases jY I;refine⟨q2,b,rfl,E,S,λm2 ms n d=>?_⟩;have y:=Gr.hid Y.seen n (dn X.prog X.w m2 ms);have V:=Y.grow y;have O:=y.h _ _ (D.h _ _ Yg);refine⟨m,m2,ns,ms,rfl,rfl,O,Yg,λk hk=>?_,by rw[d.length_eq];exact b4,by rw[hp.length_eq];exact b3,λr Z hr L w=>?_⟩
  .have hk':k∈b:=by
    have:=d.mem_iff.mp hk;rw[eD]at this;grind
   grind
  have F:=Gr.hid V.seen hr (dn X.prog X.w r Z);have s5:=V.grow F
  have c:=(List.perm_ext_iff_of_nodup L (De a b)).mpr λx=>by
   rw[w,Mx,hp.mem_iff,d.mem_iff,eD,eD];simp
  refine⟨r,Z,rfl,Yg,by rw[c.length_eq];exact b6,λz J=>?_⟩;rw[Mr c]
  exact h z _ _ G3 (((((g1.trans M).trans D).trans y).trans F).trans (.hid s5.seen J _)) (((((g1.trans M).trans D).trans y).trans F).h.free J) (s5.seen.free J) Yg (.ints _)⟩
def Eb(a:ZE X e f)(b:swapsWith e none pos.line X.env=pure false:=by rfl):ZS X (.Expr e pos) (ko f):=⟨have a:=a.un;PS.imp (lA a b) λF p H c=>by
 obtain⟨r,q,m,o,G,e,s,h⟩:=c;obtain⟨d,i,rfl⟩:=qc e
 exact tOf.at i s λv k g n l j=>h p k g j⟩
theorem Ec(f:ZC X a F)(n:ZC X b fb):ZE X (.BinOp a .Add b pos) (b2 F fb o9):=⟨have f:=f.un;have n:=n.un;PE.imp (tD Dj f n) λS H Q g=>by
 obtain⟨T,l,L,U,G,e,s,h⟩:=g;obtain⟨V,O,J,I,c⟩:=nN e;refine tCof.at J s λv N R j x w=>tCof.at I w λu M r d z t=>?_;unfold o9 at c
 split at c
 .split at c
  .rename_i y
   cases c;obtain⟨p,E,rfl,C,k⟩:=x.grow d;obtain⟨q,K,rfl,D,i⟩:=z;refine⟨p,q,E,K,rfl,rfl,.of C.1,.of D.1,by rw[k.length,i.length];exact f6 y,λA=>?_,λ_ B=>?_,λ_ _ m o=>h _ _ _ ((j.trans d).trans (.new t.seen o _)) ?_⟩
   .subst A
    have:=List.eq_nil_of_length_eq_zero (by rw[<-k.length];rfl);refine h _ _ r (j.trans d) ?_;rw[Rp];grind
   .subst B
    have:=List.eq_nil_of_length_eq_zero (by rw[<-i.length];rfl);refine h _ _ r (j.trans d) ?_;rw[Rp];grind
   .exact⟨m,_,rfl,Yg,(k.append i).mono (Gr.new t.seen o _).g⟩
  .cases c
 .cases c⟩
end
section
variable {K:W7}
def wo(H:Hp)(p:Addr):Hp:=λa=>if a=p then none else H a
def Ed(K:W7)(j:Nat)(x:Option (Option V))(b a:Hp)(F:dD):eY->Prop
 | .nx d=>∀c e f,SR K b a c e f d->c[j]?=x->F.nx c e
 | .rt _=>False
 | .bk d=>∀c e f,SR K b a c e f d->c[j]?=x->F.bk c e
 | .ct d=>∀c e f,SR K b a c e f d->c[j]?=x->F.ct c e
def pk(K:W7)(j:Nat)(f:AR):TS:=λF d H=>∃e c b a G,f e=some c/\SR K b a d H G e/\Ed K j d[j]? b a F c
structure KS(j:Nat)(X:Cx)(st:Stmt)(f:AR):Prop where
 un:PS X st (pk X.K j f)
structure KB(j:Nat)(X:Cx)(sts:List Stmt)(f:AR):Prop where
 un:PSs X sts (pk X.K j f)
def Ee(K:W7)(j r:Nat)(fb:AR):TS:=λF h H=>∃f c l d b a G,fb f=some (.nx c)/\da j c=some l/\ab r (frz [r] c)=some d/\SR K b a h H G f/\
 ∀v e g i,SR K b a e g i (frz [r] c)->e[j]?=h[j]?->Rp K i d v->F.rt v g
structure KR(j r:Nat)(X:Cx)(sts:List Stmt)(f:AR):Prop where
 un:PSs X sts (Ee X.K j r f)
def Ef(K:W7)(c:AV)(fb:AR):TS:=λF i H=>∃g d l a b G,fb g=some (.nx d)/\c d=some l/\SR K a b i H G g/\
 ∀p h e f,Gr a b e f->a p=none->f p=none->e p=some (.lst h)->RpL K f l h->F.rt (.ref p) e
structure KL(gl:AV)(X:Cx)(sts:List Stmt)(f:AR):Prop where
 un:PSs X sts (Ef X.K gl f)
def il{us:AC}(h:us.length=1):∃a,us=[a]:=List.length_eq_one_iff.mp h
theorem gh{us:AC}(h:us.length=2):∃c b,us=[c,b]:=by
 cases us with
 | nil=>cases h
 | cons a us=>
   obtain⟨d,rfl⟩:=il (Nat.succ.inj h);grind
theorem fA{us:AC}(h:us.length=3):∃c b d,us=[c,b,d]:=by
 cases us with
 | nil=>cases h
 | cons a us=>
   obtain⟨e,b1,rfl⟩:=gh (Nat.succ.inj h);grind
theorem pq{us:AC}(h:us.length=4):∃c b e d,us=[c,b,e,d]:=by
 cases us with
 | nil=>cases h
 | cons a us=>
   obtain⟨f,b1,b2,rfl⟩:=fA (Nat.succ.inj h);grind
theorem pv{us:AC}(h:us.length=5):∃c e f d b,us=[c,e,f,d,b]:=by
 cases us with
 | nil=>cases h
 | cons a us=>
   obtain⟨g,b1,b2,b3,rfl⟩:=pq (Nat.succ.inj h);grind
theorem pz{us:AC}(h:us.length=6):∃e d g f b c,us=[e,d,g,f,b,c]:=by
 cases us with
 | nil=>cases h
 | cons a us=>
   obtain⟨j,b1,b2,b3,i,rfl⟩:=pv (Nat.succ.inj h);grind
theorem Eg{us:AC}(h:us.length=7):∃c g i f b e d,us=[c,g,i,f,b,e,d]:=by
 cases us with
 | nil=>cases h
 | cons a us=>
   obtain⟨l,b1,b2,b3,k,j,rfl⟩:=pz (Nat.succ.inj h);grind
end
end M
namespace M
open PySem L2
def nr{c:Sort _}{a b:c}(h:a=b):a=b:=h
section
variable {ρ:Ro}
@[simp] theorem Eh(a fb:AU)(g:D->D->Option b):b2 a fb g ρ=(a ρ).bind λx=>(fb ρ).bind λy=>g x y:=nr rfl
@[simp] theorem Ei(a:AU)(g:D->Option b):b1 a g ρ=(a ρ).bind g:=nr rfl
@[simp] theorem MU(d:D):kD d ρ=some d:=nr rfl
@[simp] theorem MV(f:AT):mB f ρ=(f ρ).map D.bl:=nr rfl
@[simp] theorem u6(f g:AT):b9 f g ρ=(f ρ).bind λk=>if k=true then g ρ else some false:=nr rfl
@[simp] theorem Ej(f g:AT):fZ f g ρ=(f ρ).bind λk=>if k=true then some true else g ρ:=nr rfl
@[simp] theorem u7(f:AT):d7 f ρ=(f ρ).map (!·):=nr rfl
@[simp] theorem u9(f g:AU):eu f g ρ=((f ρ).bind jU).bind λk=>if k=true then g ρ else some (.bl false):=nr rfl
@[simp] theorem u_(f:AU):hP f ρ=((f ρ).bind jU).map λk=>.bl (!k):=nr rfl
@[simp] theorem Ek(c:AT)(f g:AU):iU c f g ρ=(c ρ).bind λk=>if k=true then f ρ else g ρ:=nr rfl
@[simp] theorem MX(f:AV):lF f ρ=(f ρ).map D.lst:=nr rfl
@[simp] theorem va:ae ρ=some []:=nr rfl
@[simp] theorem pA(f:AU)(g:AV):Yb f g ρ=(f ρ).bind λd=>(g ρ).map (d::·):=nr rfl
@[simp] theorem vc(f:AV):ar f ρ=(f ρ).bind λl=>if l.length<=ax then some (.tup l)else none:=nr rfl
@[simp] theorem vf(f:AV):bF f ρ=(f ρ).bind λl=>if l.length<=ax then some l else none:=nr rfl
@[simp] theorem MY(f:AV)(g:AN->Option D):cC f g ρ=(f ρ).bind g:=nr rfl
@[simp] theorem MZ(f:AV)(g:AN->Option AN):cF f g ρ=(f ρ).bind g:=nr rfl
@[simp] theorem El(f:AU)(a b:Option AU):uC f a b ρ=((f ρ).bind e_).bind λl=>(cV a ρ).bind λi=>(cV b ρ).bind λj=>some (bN l i j):=nr rfl
@[simp] theorem vg:cV none ρ=some none:=nr rfl
@[simp] theorem vh(f:AU):cV (some f) ρ=((f ρ).bind hU).map some:=nr rfl
@[simp] theorem vi:aw ρ=some (.nx ρ):=nr rfl
@[simp] theorem Em(i:Nat)(f:AU):aq i f ρ=(f ρ).map λd=>.nx (ρ.set i (↑d)):=nr rfl
@[simp] theorem vj(i:Nat)(f:AV):bb i f ρ=(f ρ).map λl=>.nx (ρ.set i (some (.ow l))):=nr rfl
@[simp] theorem vk(f:AU):ah f ρ=(f ρ).map .rt:=nr rfl
@[simp] theorem En(c:AT)(f g:AR):aT c f g ρ=(c ρ).bind λk=>if k=true then f ρ else g ρ:=nr rfl
@[simp] theorem Eo(i:Nat)(f:AU)(g:AN->D->Option AN):cW i f g ρ=(da i ρ).bind λl=>(f ρ).bind λd=>(g l d).map λa=>.nx (ρ.set i (some (.ow a))):=nr rfl
@[simp] theorem vl(a:AV)(gt:AS)(fb:AR):a9 a gt fb ρ=(a ρ).bind λb=>forM gt fb b ρ:=nr rfl
@[simp] theorem pB(a:AV)(b:List AL)(gt:AS)(fc:AT)(fe:AU):bq a b gt fc fe ρ=(a ρ).bind λc=>cU gt fc fe (ak b ρ) c:=nr rfl
@[simp] theorem pC(a:AE)(f:AR):wF a f ρ=f (frz a ρ):=nr rfl
@[simp] theorem M0:tY ρ=some true:=nr rfl
@[simp] theorem vm(i:Nat)(d:D):ai i d ρ=some (ρ.set i (↑d)):=nr rfl
def kx(g:AR):eY->Option eY
 | .nx a=>g a
 | o=>some o
@[simp] theorem pD(g:AR)(ρ':Ro):kx g (.nx ρ')=g ρ':=nr rfl
@[simp] theorem pE(g:AR)(d:D):kx g (.rt d)=some (.rt d):=nr rfl
@[simp] theorem eS(f g:AR):ag f g ρ=(f ρ).bind (kx g):=nr rfl
def endB:eY->Option D
 | .rt d=>some d
 | .nx _=>some .non
 | _=>none
@[simp] theorem vn(d:D):endB (.rt d)=some d:=nr rfl
@[simp] theorem vo(ρ:Ro):endB (.nx ρ)=some .non:=nr rfl
def Yj(h:a.length=k):aj k n fb a=(fb (Yd n a)).bind endB:=by
 unfold aj;rw[if_pos h];rfl
@[simp] theorem pF(a:AE)(f:AU):oA a f ρ=(f (frz a ρ)).bind scal:=nr rfl
@[simp] theorem Ep(b fb fc:AU)(g a:D->D->Option Bool):uL b fb fc g a ρ=(b ρ).bind λx=>(fb ρ).bind λy=>(g x y).bind λk=>if k=true then (fc ρ).bind λz=>a y z else some false:=nr rfl
@[simp] theorem pG(i:Int):scal (.int i)=some (.int i):=nr rfl
@[simp] theorem pH:scal .non=some .non:=nr rfl
@[simp] theorem vp:frz [] ρ=ρ:=nr rfl
@[simp] theorem pI(i:Nat)(a:AE):frz (i::a) ρ=frz a (frz1 i ρ):=nr rfl
end
@[simp] theorem Er(C:Int->Int->Bool)(g:Int->Int->Int)(i j:Int):i2 C g (.int i) (.int j)=if C i j=true then some (.int (g i j))else none:=nr rfl
@[simp] theorem pJ(i j:Int):cN (.int i) (.int j)=some (.int (i+j)):=nr rfl
@[simp] theorem pK(i j:Int):eZ (.int i) (.int j)=some (.int (i-j)):=nr rfl
def Es(h:-(2^64)<i/\i<2^64):fY (.int i) (.int j)=some (.int (i*j)):=by
 simp only[fY,i2];rw[if_pos];simp only[Bool.or_eq_true,Qe,wj];exact .inl h
@[simp] theorem Et(h:0<j)(a:j<1073741824):de (.int i) (.int j)=some (.int (i/j)):=by
 simp only[de,i2];rw[if_pos];simp [wj];exact⟨h,a⟩
@[simp] theorem T3(h:0<j):a7 (.int i) (.int j)=some (.int (i%j)):=by
 simp only[a7,i2];rw[if_pos];simp [wj];exact h
@[simp] theorem vq(i j:Int):hB (.int i) (.int j)=some (decide (i<j)):=nr rfl
@[simp] theorem vr(i j:Int):Ly (.int i) (.int j)=some (decide (i<=j)):=nr rfl
@[simp] theorem vt(i j:Int):A4 (.int i) (.int j)=some (decide (j<i)):=nr rfl
@[simp] theorem vu(i j:Int):A5 (.int i) (.int j)=some (decide (j<=i)):=nr rfl
@[simp] theorem Eu(b:Bool):jU (.bl b)=some b:=nr rfl
@[simp] theorem vv(b:Bool):aQ (.bl b)=some b:=nr rfl
@[simp] theorem pL(l:AN):aQ (.lst l)=some (!l.isEmpty):=nr rfl
@[simp] theorem pM(l:AN):aQ (.tup l)=some (!l.isEmpty):=nr rfl
@[simp] theorem i9(l:AN):Yc (.tup l)=some l:=nr rfl
@[simp] theorem i_(l:AN):Yc (.lst l)=some l:=nr rfl
@[simp] theorem jh(ns:AF):Yc (.scr ns)=some (ns.map D.int):=nr rfl
@[simp] theorem pN(c:D):aV [c]=(Yc c).map λl=>.int l.length:=nr rfl
@[simp] theorem pO(c:D):a8 [c]=(Yc c).map D.tup:=nr rfl
@[simp] theorem l5(c:D):n0 [c]=Yc c:=nr rfl
@[simp] theorem Ew(c:D)(i:Int):ao c (.int i)=(Yc c).bind λl=>bE l i:=nr rfl
@[simp] theorem pP(l:AN):e_ (.lst l)=some l:=nr rfl
@[simp] theorem pQ(ns:AF):e_ (.scr ns)=some (ns.map D.int):=nr rfl
@[simp] theorem pR(i:Int):hU (.int i)=some i:=nr rfl
@[simp] theorem pS(i:Int):dh (.int i)=some (.int (-i)):=nr rfl
@[simp] theorem Ex(i j:Int):bP (.int i) (.int j)=(i==j):=by simp[bP,aE,PyData.eqv]
@[simp] theorem Ey(i j:Bool):bP (.bl i) (.bl j)=(i==j):=by simp[bP,aE,PyData.eqv]
@[simp] theorem vw(i j:Str):bP (.str i) (.str j)=(i==j):=by simp[bP,aE,PyData.eqv]
@[simp] theorem vy(l m:AN):bP (.tup l) (.tup m)=g8 l m:=by simp[bP,g8,aE,PyData.eqv]
@[simp] theorem vz:g8 [] []=true:=by simp[g8,c_,PyData.eqvAll]
@[simp] theorem pT(a b:D)(l m:AN):g8 (a::l) (b::m)=(bP a b&&g8 l m):=by simp[g8,bP,c_,PyData.eqvAll]
@[simp] theorem Ez(b:D)(m:AN):g8 (b::m) []=false:=by simp[g8,c_,PyData.eqvAll]
@[simp] theorem vA(i:Int):bj (.int i)=0:=by simp[bj]
@[simp] theorem EA(i:Bool):bj (.bl i)=0:=by simp[bj]
@[simp] theorem vB(i:Str):bj (.str i)=0:=by simp[bj]
@[simp] theorem vC:bj .non=0:=by simp[bj]
@[simp] theorem vD(l:AN):bj (.tup l)=bQ l+1:=by simp[bj]
@[simp] theorem pU:bQ []=0:=by simp[bQ]
@[simp] theorem l6(d:D)(l:AN):bQ (d::l)=max (bj d) (bQ l):=by simp[bQ]
theorem pV(h:bj d<=60)(b:bj e<=60):aI a d e=some (if a then !bP d e else bP d e):=by
 unfold aI;grind
theorem pW(b:Yc c=some l)(h:bj d<=60)(e:bQ l<=60):dU a d c=some (if a then !hJ d l else hJ d l):=by
 unfold dU;grind
theorem vE{d:Type}(enc:d->D)(p:d->Bool)(f:d->D):∀(l:List d),(∀a∈l,∃c,gt (enc a) ρ=some c/\fc c=some (p a)/\(p a=true->fe c=some (f a)))->
 cU gt fc fe ρ (l.map enc)=some ((l.filter p).map f)
 | [],_=>rfl
 | a::l,h=>by
   obtain⟨c,e,i,g⟩:=h a qh;have j:=vE enc p f l λb k=>h b (qg _ k);rw[Qd,cU];grind
@[simp] theorem pX(a:b)(l:List b):bE (a::l) 0=some a:=by
 have:=lH (xs:=a::l) (j:=0) rfl;simpa using this
@[simp] theorem vF(a b:c)(l:List c):bE (a::b::l) 1=some b:=by
 have:=lH (xs:=a::b::l) (j:=1) rfl;simpa using this
def pY{j:Nat}(a:i=(j:Int))(h:l[j]?=some v):bE l i=some v:=by
 subst a;exact lH h
theorem gJ{g:Type}(enc:g->D)(I:List g->Ro->Prop):∀(l c:List g) (ρ:Ro),I c ρ->
 (∀q a r ρ,c++l=q++a::r->I q ρ->∃f d,gt (enc a) ρ=some f/\fb f=some (.nx d)/\I (q++[a]) d)->∃ρ',M.forM gt fb (l.map enc) ρ=some (.nx ρ')/\I (c++l) ρ'
 | [],c,ρ,n,_=>⟨ρ,rfl,by grind⟩
 | a::l,c,ρ,n,m=>by
   obtain⟨f,d,o,p,j⟩:=m c a l ρ rfl n;obtain⟨ρ',h,k⟩:=gJ enc I l _ d j λq b r ρ e i=>m q b r ρ (by grind) i;refine⟨ρ',?_,by grind⟩
   rwa [Qd,M.forM,o,qd,p]
def l7(a n:Int):cX a n=(List.range (n-a).toNat).map λi=>D.int (a+(i:Nat)):=rfl
theorem pZ(h:-1000000<=n)(b:n<=1000000):dg [.int n]=some (cX 0 n):=by
 have a:ax=1000000:=by decide
 simp only[dg];rw[if_pos];simp only[Qe];lia
theorem EB(h:-1000000<=n)(e:n<=1000000)(d:-1000000<=a)(c:a<=1000000):fg [.int a,.int n]=some (cX a n):=by
 have b:ax=1000000:=by decide
 simp only[fg];grind
theorem EC(h0:0<=i)(h:i<(l.length:Int)):∃v,v∈l/\bE l i=some v:=by
 have a:i.toNat<l.length:=by lia
 exact⟨l[i.toNat],List.getElem_mem a,pY (by lia) (qr a)⟩
def l8{i:Nat}(h:i<l.length):bE l (i:Int)=some l[i]:=lH (qr h)
theorem gK(f:a->b)(l:List a)(i:Int):bE (l.map f) i=(bE l i).map f:=by
 unfold bE;rw[qf]
 cases iT _ i with
 | none=>rfl
 | some j=>
   grind
@[simp] theorem ky(x b:Nat):((x:Int)=(b:Int))↔x=b:=by lia
@[simp] theorem vG(a:Bool)(i j:Int):aI a (.int i) (.int j)=some (if a then !decide (i=j)else decide (i=j)):=by
 rfl
@[simp] theorem ED(a:Bool)(i j:Bool):aI a (.bl i) (.bl j)=some (if a then !(i==j)else i==j):=by
 rw[pV (by simp) (by simp),Ey]
@[simp] theorem vH(a:Bool):bU a .non .non=some (if a then false else true):=by cases a<;>rfl
@[simp] theorem vI(a:Bool)(i:Int):bU a (.int i) .non=some (if a then true else false):=by cases a<;>rfl
@[simp] theorem vJ(a:Bool)(l:AN):bU a (.tup l) .non=some (if a then true else false):=by cases a<;>rfl
@[simp] theorem EE(a:Bool)(l:Bool):bU a (.bl l) .non=some (if a then true else false):=by cases a<;>rfl
@[simp] theorem M3{b:Type}(f:b->Bool):∀l:List b,bO (l.map λa=>.bl (f a))=some (l.map f)
 | []=>rfl
 | a::l=>by rw[Qd,bO,M3 f l];rfl
@[simp] theorem vK{b:Type}(f:b->Int):∀l:List b,intsD (l.map λa=>.int (f a))=some (l.map f)
 | []=>rfl
 | a::l=>by rw[Qd,intsD,vK f l];rfl
@[simp] theorem l9(l:AF):intsD (l.map D.int)=some l:=by simpa using vK id l
@[simp] theorem p_(l:AN):ez [.lst l]=(bO l).map λa=>.bl (a.any id):=nr rfl
@[simp] theorem qb(l:AN):gb [.lst l]=(bO l).map λa=>.bl (a.all id):=nr rfl
@[simp] theorem vL(i:Nat)(f:AU):jW i f ρ=(ab i ρ).bind λx=>(f ρ).bind λy=>(i2 (λ_ _=>true) (λa b=>a+b) x y).map λz=>.nx (ρ.set i (↑z)):=nr rfl
@[simp] theorem qq(c:D):fG c=(Yc c).map fi:=nr rfl
@[simp] theorem vM:ax=1000000:=nr rfl
@[simp] theorem T4(d:D)(r:Ro):ab 0 (some (.sh d)::r)=some d:=nr rfl
@[simp] theorem T5(d:D)(r:Ro):aa 0 (some (.sh d)::r)=some d:=nr rfl
@[simp] theorem T6(l:AN)(r:Ro):aa 0 (some (.ow l)::r)=some (.lst l):=nr rfl
@[simp] theorem gO0(l:AN)(r:Ro):da 0 (some (.ow l)::r)=some l:=nr rfl
@[simp] theorem T7(n:Nat)(b:AQ)(r:Ro):ab (n+1) (b::r)=ab n r:=by simp[ab]
@[simp] theorem T8(n:Nat)(b:AQ)(r:Ro):aa (n+1) (b::r)=aa n r:=by simp[aa]
@[simp] theorem gOs(n:Nat)(b:AQ)(r:Ro):da (n+1) (b::r)=da n r:=by simp[da]
@[simp] theorem M4(l:AN)(r:Ro):frz1 0 (some (.ow l)::r)=some (.sh (.lst l))::r:=nr rfl
@[simp] theorem M5(d:D)(r:Ro):frz1 0 (some (.sh d)::r)=some (.sh d)::r:=nr rfl
@[simp] theorem M6(n:Nat)(b:AQ)(r:Ro):frz1 (n+1) (b::r)=b::frz1 n r:=by
 unfold frz1;rw[List.getElem?_cons_succ]
 cases h:r[n]? with
 | none=>rfl
 | some o=>
   cases o with
   | none=>rfl
   | some b=>cases b<;>rfl
def M7(h:a.length+b.length<=1000000):cY (.lst a) (.lst b)=some (a++b):=if_pos h
def vN(h:l.length<1000000):b_ l d=some (l++[d]):=if_pos h
def dC{r:Ro}{b:Type}{enc:b->D}(f:b->D){l:List b}(h:∀a∈l,fe (some (.sh (enc a))::r)=some (f a)):cU (ai 0) tY fe (none::r) (l.map enc)=some (l.map f):=by
 have:=vE (gt:=ai 0) (fc:=tY) (ρ:=none::r) enc _ f l λa c=>⟨_,rfl,rfl,λ_=>h a c⟩
 rwa [List.filter_eq_self.mpr (λ_ _=>rfl)]at this
def gL{r:Ro}{b:Type}{enc:b->D}(p:b->Bool)(f:b->D){l:List b}(e:∀a∈l,fc (some (.sh (enc a))::r)=some (p a))(d:∀a∈l,p a=true->fe (some (.sh (enc a))::r)=some (f a)):
 cU (ai 0) fc fe (none::r) (l.map enc)=some ((l.filter p).map f):=
 vE enc p f l λa c=>⟨_,rfl,e a c,d a c⟩
def EF{fc:AT}{fe:AU}{r:Ro}{b:Type}{e1 e2:b->D}(p:b->Bool)(f:b->D){l:List b}(e:∀a∈l,fc (some (.sh (e1 a))::some (.sh (e2 a))::r)=some (p a))(d:∀a∈l,p a=true->fe (some (.sh (e1 a))::some (.sh (e2 a))::r)=some (f a)):
 cU (ew 0 1) fc fe (none::none::r) (l.map λa=>.tup [e1 a,e2 a])=some ((l.filter p).map f):=
 vE _ p f l λa c=>⟨_,rfl,e a c,d a c⟩
def EG{a:Type}(enc:a->D)(d:a)(l:List a):fi (l.map enc)=(List.range l.length).map λi=>.tup [.int i,enc (l.getD i d)]:=by
 unfold fi;rw[qf];refine Qq λi b=>?_;simp[Qb b]
end M
namespace Bk
open PySem L2 M
abbrev aC:=Nat×Bool
abbrev AX:=List aC
abbrev AW:=List AX
inductive Kd where
 | e|s|i|n
 deriving DecidableEq
inductive Rl where
 | ei (l:AX)
 | su (b:AE) (o:Bool)
 | im (b:AE) (h:AL)
 deriving DecidableEq
def kS:Kd->Str
 | .e=>.ofString "eithers"
 | .s=>.ofString "sums"
 | .i=>.ofString "ifs"
 | .n=>.ofString "nots"
def br(k:Kd):D:=.str (kS k)
abbrev nD(n:Nat):D:=.int n
def af(s:aC):D:=.tup [.int s.1,.bl s.2]
def av:AL->D
 | none=>.non
 | some n=>.int n
def aL:Rl->D
 | .ei l=>.tup (l.map af)
 | .su b o=>.tup [.tup (b.map nD),.bl o]
 | .im b h=>.tup [.tup (b.map nD),av h]
def Yl(k:Kd)(R:List Rl):D:=.tup [br k,.tup (R.map aL)]
@[simp] theorem EH(k:Kd):bj (br k)=0:=by simp[br]
@[simp] theorem vO(s:aC):bj (af s)=1:=by simp[af]
@[simp] theorem vP(h:AL):bj (av h)=0:=by cases h<;>simp[av]
theorem EI:∀{k j:Kd},kS k=kS j->k=j:=by
 intro k j
 cases k<;>cases j<;>first|grind|(exact λh=>absurd h (by decide +kernel))
@[simp] theorem EJ(k j:Kd):bP (br k) (br j)=decide (k=j):=by
 rw[br,br];by_cases h:k=j
 .simp[h]
 .have a:¬_:=λe=>h (EI e)
  simp[h,a]
def vQ(a:Bool)(k j:Kd):aI a (br k) (br j)=some (if a then !decide (k=j)else decide (k=j)):=by
 rw[pV (by simp) (by simp),EJ]
@[simp] theorem M8(a:Bool)(k:Kd):aI a (br k) (.str (Str.ofString "eithers"))=some (if a then !decide (k=.e)else decide (k=.e)):=vQ a k .e
@[simp] theorem M9(a:Bool)(k:Kd):aI a (br k) (.str (Str.ofString "sums"))=some (if a then !decide (k=.s)else decide (k=.s)):=vQ a k .s
@[simp] theorem M_(a:Bool)(k:Kd):aI a (br k) (.str (Str.ofString "ifs"))=some (if a then !decide (k=.i)else decide (k=.i)):=vQ a k .i
@[simp] theorem Na(a:Bool)(k:Kd):aI a (br k) (.str (Str.ofString "nots"))=some (if a then !decide (k=.n)else decide (k=.n)):=vQ a k .n
@[simp] theorem qA(a b:Nat):bP (nD a) (nD b)=decide (a=b):=by
 rw[Ex];grind
@[simp] theorem Nb(s t:aC):bP (af s) (af t)=decide (s=t):=by
 obtain⟨a,p⟩:=s;obtain⟨b,q⟩:=t;have:=qA a b;simp [af,this];by_cases d:a=b<;>by_cases c:p=q<;>simp[c]
theorem EK{c:Type}[DecidableEq c]{enc:c->D}(e:∀a b,bP (enc a) (enc b)=decide (a=b))(s:c):∀l:List c,hJ (enc s) (l.map enc)=decide (s∈l)
 | []=>by simp[hJ]
 | t::l=>by
   have d:=EK e s l;unfold hJ at d ⊢;grind
theorem EL:∀{l:AN},(∀d∈l,bj d<=n)->bQ l<=n
 | [],_=>by simp
 | d::l,h=>Nat.max_le.mpr ⟨h d qh,EL λe a=>h e (qg _ a)⟩
theorem qC(s:aC)(l:AX)(a:Bool)(e:Yc c=some (l.map af)):dU a (af s) c=some (if a then !decide (s∈l)else decide (s∈l)):=by
 rw[pW e (by simp) (EL λd b=>by obtain⟨x,_,rfl⟩:=qy b;simp),EK Nb];grind
def eE(s:Nat)(l:AE)(a:Bool)(e:Yc c=some (l.map nD)):dU a (nD s) c=some (if a then !decide (s∈l)else decide (s∈l)):=by
 rw[pW e (by simp) (EL λd b=>by obtain⟨x,_,rfl⟩:=qy b;simp),EK qA]
@[simp] theorem vR(s:aC):(Yc (af s)).bind (λl=>bE l 0)=some (.int s.1):=by simp[af]
@[simp] theorem vS(s:aC):(Yc (af s)).bind (λl=>bE l 1)=some (.bl s.2):=by simp[af]
@[simp] theorem qD(l:AX):Yc (aL (.ei l))=some (l.map af):=nr rfl
@[simp] theorem qE(b:AE)(o:Bool):Yc (aL (.su b o))=some [.tup (b.map nD),.bl o]:=nr rfl
@[simp] theorem qF(b:AE)(h:AL):Yc (aL (.im b h))=some [.tup (b.map nD),av h]:=nr rfl
@[simp] theorem kz(k:Kd)(R:List Rl):Yc (Yl k R)=some [br k,.tup (R.map aL)]:=nr rfl
def at'(ev:AG)(n:Nat):Bool:=ev.getD n false
def ip{ev:AG}(h:n<ev.length):bE (ev.map D.bl) (n:Int)=some (.bl (at' ev n)):=by
 rw[gK,l8 h];simp[at',h]
def In(k:Kd)(n:Nat):Rl->Prop
 | .ei l=>k=.e/\∀s∈l,s.1<n
 | .su b _=>k=.s/\∀x∈b,x<n
 | .im b h=>(k=.i\/k=.n)/\(∀x∈b,x<n)/\∀x,h=some x->x<n
def vT(s t:aC):Prop:=s.1<t.1\/(s.1=t.1/\s.2=false/\t.2=true)
def gi:Rl->Prop
 | .ei l=>l.length<=2/\l.Pairwise vT
 | .su b _=>b.Pairwise (·<·)
 | .im b _=>b.Pairwise (·<·)
def hd(ev:AG)(w:Bool):AL->Bool
 | none=>false
 | some x=>at' ev x==w
def iq(R:List Rl)(i:Nat):Rl:=R.getD i (.ei [])
def Nc{R:List Rl}{i:Nat}(h:i<R.length):iq R i∈R:=by simp[iq,h]
def EM(R:List Rl):fi (R.map aL)=(List.range R.length).map λi:Nat=>.tup [.int (i:Int),aL (iq R i)]:=EG aL _ R
def so(k:Kd)(ev:AG):Rl->Bool
 | .ei l=>l.any λs=>at' ev s.1==s.2
 | .su b o=>decide ((b.filter (at' ev)).length%2=1)==o
 | .im b h=>(b.any λx=>at' ev x != decide (k=.i))||hd ev (decide (k=.i)) h
end Bk
namespace Bk
def brk(k:Kd)(ev:AG)(R:List Rl):AE:=(List.range R.length).filter λi=>!so k ev (iq R i)
end Bk
namespace Bk
open PySem L2 M
def wo(b:Nat)(l:AE):AE:=l.filter λx=>!decide (x=b)
def qG(b:Nat)(l:AX):AX:=l.filter λs=>!decide (s.1=b)
def T9(k:Kd)(R:List Rl):D.tup [br k,.tup (R.map aL)]=Yl k R:=rfl
def Nd(l:AX):D.tup (l.map af)=aL (.ei l):=rfl
def Nf(l:AE)(h:AL):D.tup [.tup (l.map nD),av h]=aL (.im l h):=rfl
def EN(l:AE):D.tup [.tup (l.map nD),.non]=aL (.im l none):=rfl
def bD(k:Kd)(b:Nat)(a:Bool):Rl->Option Rl
 | .ei l=>if (b,a)∈l then none else some (.ei (qG b l))
 | .su l o=>if b∈l then (if wo b l=[]/\o=a then none else some (.su (wo b l) (o != a)))else some (.su l o)
 | .im l h=>if (h=some b/\a=decide (k=.i))\/(b∈l/\¬a=decide (k=.i))then none else some (.im (wo b l) (if h=some b then none else h))
def bR:Option Rl->D
 | none=>.non
 | some r=>aL r
@[simp] theorem EO(a:Bool)(r:Rl):bU a (aL r) .non=some (if a then true else false):=by cases r<;>cases a<;>rfl
@[simp] theorem vU(a:Bool)(h:AL)(b:Nat):aI a (av h) (.int (b:Int))=some (if a then !decide (h=some b)else decide (h=some b)):=by
 cases h with
 | none=>
   rw[pV (by simp) (by simp)]
   have:bP (av none) (.int b)=false:=by simp[av,bP,aE,PyData.eqv]
   rw[this];simp
 | some x=>
   show aI a (.int x) _=_;simp
theorem kA:∀Q:List (Option Rl),((Q.filter λo=>o.isSome).map bR)=(Q.filterMap id).map aL
 | []=>rfl
 | none::Q=>by
   have:=kA Q;simpa using this
 | some r::Q=>by
   have:=kA Q;simp[this,bR]
def sz:Rl->Nat
 | .ei l=>l.length
 | .su b _=>b.length
 | .im b _=>b.length
theorem Ng{n:Nat}:∀{l:AE}{a:Nat},l.Pairwise (·<·)->(∀x∈l,a<=x/\x<n)->l.length<=n-a
 | [],_,_,_=>Qh _
 | x::l,a,h,d=>by
   have e:=d x qh;have c:=List.pairwise_cons.mp h
   have f:=Ng c.2 λy b=>⟨c.1 y b,(d y (qg _ b)).2⟩
   rw[qt];lia
def ER{n:Nat}{l:AE}(h:l.Pairwise (·<·))(a:∀x∈l,x<n):l.length<=n:=Ng h λx b=>⟨Qh _,a x b⟩
theorem ir{k:Kd}{n:Nat}{r:Rl}(a:In k n r)(hs:gi r):sz r<=n+2:=by
 cases r with
 | ei l=>exact Qg hs.1 (by lia)
 | su b o=>exact Qg (ER hs a.2) (by lia)
 | im b o=>exact Qg (ER hs a.2.1) (by lia)
end Bk
namespace Bk
def bV:Rl->AE
 | .ei l=>l.map (·.1)
 | .su b _=>b
 | .im b none=>b
 | .im b (some x)=>b++[x]
def ES{b:Nat}{l:AE}(h:b∉l):wo b l=l:=List.filter_eq_self.mpr λx a=>by
 have:¬x=b:=λe=>h (e ▸ a);simp[this]
theorem T_{k:Kd}{b:Nat}{d:Bool}{r:Rl}(h:b∉bV r):bD k b d r=some r:=by
 cases r with
 | ei l=>
   have a:_∉l:=λe=>h (List.mem_map.mpr ⟨(b,d),e,rfl⟩)
   have c:qG b l=l:=List.filter_eq_self.mpr λs f=>by
    have:¬_:=λe=>h (List.mem_map.mpr ⟨s,f,e⟩);simp[this]
   simp[bD,a,c]
 | su l o=>simp[bD,show b∉l from h]
 | im l o=>
   cases o with
   | none=>
     have a:b∉l:=h;simp[bD,a,ES a]
   | some x=>
     have a:b∉l:=λe=>h (by simp[bV,e]);have c:¬x=b:=λe=>h (by simp[bV,e]);simp[bD,a,c,ES a]
end Bk
namespace Bk
open PySem L2 M
def mem_wo{b x:Nat}{l:AE}:x∈wo b l↔x∈l/\x≠b:=by simp[wo]
def mem_woS{b:Nat}{s:aC}{l:AX}:s∈qG b l↔s∈l/\s.1≠b:=by simp[qG]
def qH{k:Kd}{n:Nat}{r:Rl}(h:In k n r):∀x∈bV r,x<n:=by
 cases r with
 | ei l=>
   intro x a;obtain⟨s,c,rfl⟩:=qy a;exact h.2 s c
 | su b o=>exact h.2
 | im b o=>
   intro x a
   cases o with
   | none=>exact h.2.1 x a
   | some y=>
     rcases qw a with a|a
     .exact h.2.1 x a
     .rw[List.mem_singleton.mp a];exact h.2.2 y rfl
theorem Ua{k:Kd}{n:Nat}{ev:AG}{b:Nat}{r:Rl}(v:In k n r)(hs:gi r)(h:bD k b (at' ev b) r=none):so k ev r=true:=by
 cases r with
 | ei l=>
   rw[bD]at h
   split at h
   .rename_i f
    rw[so,List.any_eq_true];exact⟨_,f,by simp⟩
   .cases h
 | su l o=>
   rw[bD]at h
   split at h
   .rename_i f
    split at h
    .rename_i j
     obtain⟨g,q⟩:=j
     have d:=λx t=>Classical.byContradiction λi=>by
      have:x∈wo b l:=mem_wo.mpr ⟨t,i⟩;rw[g]at this;cases this
     have s:l=[b]:=by
      have p:=hs
      match l,d,p,f with
      | [],_,_,f=>cases f
      | [a],d,_,_=>rw[d a qh]
      | a::c::l,d,p,_=>
        have u:=d a qh;have w:=d c (qg _ qh);have:=(List.pairwise_cons.mp p).1 c qh;lia
     subst s;rw[so,q];cases m:at' ev b<;>simp[m]
    .cases h
   .cases h
 | im l o=>
   rw[bD]at h
   split at h
   .rename_i j
    rcases j with⟨rfl,g⟩|⟨f,g⟩
    .rw[so,hd,g]
     simp
    .rw[so]
     have:(l.any λx=>at' ev x != decide (k=.i))=true:=by
      rw[List.any_eq_true];exact⟨b,f,by simpa [bne_iff_ne]using g⟩
     rw[this];rfl
   .cases h
theorem qI{b:Nat}{ev:AG}:∀{l:AE},l.Pairwise (·<·)->b∈l->(l.filter (at' ev)).length=((wo b l).filter (at' ev)).length+if at' ev b=true then 1 else 0
 | [],_,h=>by cases h
 | a::l,i,h=>by
   have d:=List.pairwise_cons.mp i;by_cases e:a=b
   .subst e
    have g:wo a (a::l)=l:=by
     have:=ES (λf=>Nat.lt_irrefl _ (d.1 a f));simpa [wo]using this
    rw[g];cases c:at' ev a<;>simp[c]
   .have f:b∈l:=by
     rcases qu h with z|z
     .exact absurd z.symm e
     .exact z
    have g:wo b (a::l)=a::wo b l:=by simp[wo,e]
    rw[g];cases c:at' ev a<;>simp[c,qI d.2 f];lia
theorem vV{k:Kd}{n:Nat}{ev:AG}{b:Nat}{r q:Rl}(i:In k n r)(hs:gi r)(h:bD k b (at' ev b) r=some q):
 so k ev q=so k ev r/\(∀x∈bV q,x∈bV r/\x≠b)/\(r≠.su [] false->q≠.su [] false)/\In k n q/\gi q/\sz q<=sz r:=by
 cases r with
 | ei l=>
   rw[bD]at h
   split at h
   .cases h
   .rename_i t
    cases h;refine⟨?_,λx a=>?_,λ_ z=>(by cases z),⟨i.1,λs g=>i.2 s (mem_woS.mp g).1⟩,⟨Qg (Qn _ _) hs.1,hs.2.filter _⟩,Qn _ _⟩
    .rw[so,so,Bool.eq_iff_iff,List.any_eq_true,List.any_eq_true]
     refine⟨λ⟨s,f,c⟩=>⟨s,(mem_woS.mp f).1,c⟩,λ⟨s,f,c⟩=>⟨s,mem_woS.mpr ⟨f,λe=>t ?_⟩,c⟩⟩
     have:at' ev b=s.2:=by rw[<-e];simpa using c
     rw[this,<-e];exact f
    .obtain⟨s,g,rfl⟩:=qy a
     exact⟨List.mem_map.mpr ⟨s,(mem_woS.mp g).1,rfl⟩,(mem_woS.mp g).2⟩
 | su l o=>
   rw[bD]at h
   split at h
   .rename_i t
    split at h
    .cases h
    .rename_i u
     cases h;have v:l.Pairwise (·<·):=hs;have p:=qI (ev:=ev) v t;refine⟨?_,λx a=>mem_wo.mp a,λ_ z=>u ?_,⟨i.1,λx a=>i.2 x (mem_wo.mp a).1⟩,v.filter _,Qn _ _⟩
     .rw[so,so,p]
      generalize ((wo b l).filter (at' ev)).length=m
      cases at' ev b with
      | false=>cases o<;>simp
      | true=>
        by_cases C:m%2=1
        .have c:¬(m+1)%2=1:=by lia
         cases o<;>simp[C,c]
        .have c:(m+1)%2=1:=by lia
         have E:m%2=0:=by lia
         cases o<;>simp[E,c]
     .injection z with D F
      exact⟨D,by cases o<;>cases w:at' ev b<;>simp[w]at F ⊢⟩
   .rename_i t
    cases h;exact⟨rfl,λx a=>⟨a,λe=>t (e ▸ a)⟩,λz=>z,i,hs,qv _⟩
 | im l o=>
   rw[bD]at h
   split at h
   .cases h
   .rename_i u
    cases h;have v:l.Pairwise (·<·):=hs;have A:=λe z=>u (.inl ⟨e,z⟩);have B:=λe=>Classical.byContradiction λz=>u (.inr ⟨e,z⟩);refine⟨?_,λx a=>?_,λ_ z=>(by cases z),⟨i.1,λx a=>i.2.1 x (mem_wo.mp a).1,λx a=>?_⟩,v.filter _,Qn _ _⟩
    .rw[so,so]
     have H:((wo b l).any λx=>at' ev x != decide (k=.i))=l.any λx=>at' ev x != decide (k=.i):=by
      rw[Bool.eq_iff_iff,List.any_eq_true,List.any_eq_true];refine⟨λ⟨x,f,c⟩=>⟨x,(mem_wo.mp f).1,c⟩,λ⟨x,f,c⟩=>⟨x,mem_wo.mpr ⟨f,λe=>?_⟩,c⟩⟩;rw[e]at f c;rw[B f]at c;simp at c
     rw[H];by_cases d:o=some b
     .have:=A d
      rw[if_pos d,d,hd,hd]
      have:(at' ev b==decide (k=.i))=false:=by simpa using this
      rw[this]
     .rw[if_neg d]
    .have G:x∈wo b l\/(o≠some b/\o=some x):=by
      by_cases d:o=some b
      .rw[if_pos d]at a
       exact .inl a
      .rw[if_neg d]at a
       cases o with
       | none=>exact .inl a
       | some y=>
         rcases qw a with a|a
         .exact .inl a
         .rw[List.mem_singleton.mp a];exact .inr ⟨d,rfl⟩
     rcases G with a|⟨d,a⟩
     .have:=mem_wo.mp a
      refine⟨?_,this.2⟩
      cases o with
      | none=>exact this.1
      | some y=>exact List.mem_append_left _ this.1
     .subst a
      exact⟨Qr _ qh,λe=>d (by rw[e])⟩
    .split at a
     .cases a
     .exact i.2.2 x a
def vd:Kd->Rl
 | .e=>.ei []
 | .s=>.su [] true
 | _=>.im [] none
end Bk
namespace M
open PySem PySem.Spec PyProof.Rows L2
section
variable {K:W7}
end
section
variable {K:W7}
section
variable {prog:P7}{w:World}{A:Around}{E:AA}{s:Shared}{X:Cx}{a e:Expr}{fa f:AU}{pos:Pos}
theorem Ub(u:s.heap.IsList l vs.toArray)(b:IntsAre vs ns)(x:ns.length<=2^24)(o:k∈ns)(h:Q (.int (ns.idxOf k:Nat) s.toks) { s with toks:=s.toks+1 }):
 wpAny (mZ prog w) A (call (.builtin "list.index") [.ref l,.int k t]) Q E s:=by
 obtain⟨⟨v,q,d,r⟩,g,f,n,e⟩:=id u;simp at f e;subst f e;have i:=b.length;have p:=List.idxOf_lt_length_iff.mpr o
 refine call_meets PySem.F.slot_list_index ⟨_,g,rfl⟩ PySem.F.entry_list_index (PySem.F.args_list_index_2 _ _)
  (PySem.SeqAt.list_indexAt l _ n q r _ _ _ (by grind) (by lia) ?_ ?_) ⟨g,λy z=>(eq_isInt k t b y (by grind)).at _ _,h⟩
 .show isInt k vs[ns.idxOf k]=true
  rw[isInt_at k b _ (by lia) p];grind
 .intro j m c
  show isInt k vs[j]=_;rw[isInt_at k b j (by grind) (by lia)];exact ne_of_lt_idxOf c _
def ET(K:W7):V->AM->Hp->VK->Prop:=λx b H Q=>∃(l:Addr) (a:AF) (k:Int),x=.ref l/\b=[.int k]/\SqL K H l (a.map .int)/\k∈a/\Q (.int (a.idxOf k)) H
def EU:tN X "list.index" (ET X.K):=by
 intro a s m H x n v o Q I i f h;obtain⟨l,j,k,rfl,rfl,d,b,q⟩:=h;cases i;obtain⟨u,rfl,⟨t,rfl⟩⟩:=ee f;obtain⟨g,r,e,c⟩:=I.list d;exact Ub e.isList (tL r) (by rwa [qf]at c) b ⟨.int _,H,I.tok _,⟨_,rfl⟩,q⟩
def iu:D->D->Option D
 | .lst l,.int k=>(intsD l).bind λa=>if k∈a then some (.int (a.idxOf k))else none
 | _,_=>none
theorem Uc{i b:Pos}(w:ZC X a fa)(t:ZE X e f)(hs:starEach [e] X.env=[(false,eval e X.env)]:=by rfl)(m:pj X b [e]:=by rfl)(l:(i.endLine==b.line)=true:=by rfl)(j:attributeBase a "index" X.env (eval a X.env)=eval a X.env:=by rfl):
 ZE X (.Call (.Attribute a "index" i) [e] [] b) (b2 fa f iu):=⟨have w:=w.un;have t:=t.un;
 PE.imp (nE PySem.F.plainAttrs_list PySem.F.slot_list_index PySem.F.type_list_index EU w (fW t fV hs) j m l hs rfl) λU H Q n=>by
  obtain⟨Z,d,S,G0,G,e,s,h⟩:=n;obtain⟨C,L,e⟩:=qa e;obtain⟨E,O,y⟩:=qa e
  cases C<;>try cases y
  cases E<;>try cases y
  rename_i k;obtain⟨B,M,A⟩:=qa y;by_cases z:k∈B
  .rw[if_pos z]at A
   cases A;have:=jX M;subst this;refine tCof.at L s λv T Y N K R=>?_;obtain⟨p,V,rfl,g,J⟩:=K;have:=jY J;subst this;refine⟨.inl ⟨rfl,_,.inl g⟩,tOf.at O R λu I D r F s2=>?_⟩;subst F;exact⟨p,B,k,rfl,rfl,.inl (g.imp (r.h _ _) λq=>q.imp λo q=>r.h _ _ q),z,h _ I D (N.trans r) (by rw[Rp])⟩
  grind⟩
def qJ(f g:AU):AU:=λa=>(f a).or (g a)
def EV(i:ZE X e f)(b:ZE X e g):ZE X e (qJ f g):=⟨have i:=i.un;have b:=b.un;λl s n H Q I h=>by
 obtain⟨j,d,m,k,G,a,o,q⟩:=h;unfold qJ at a
 cases c:f j with
 | some p=>
   rw[c]at a;cases a;exact i _ s n H Q I ⟨j,_,m,k,G,c,o,q⟩
 | none=>
   rw[c]at a
   exact b _ s n H Q I ⟨j,d,m,k,G,a,o,q⟩⟩
@[simp] theorem EW(f g:AU):qJ f g ρ=(f ρ).or (g ρ):=c7 rfl
@[simp] theorem EX(l:AF)(k:Int):iu (.lst (l.map D.int)) (.int k)=if k∈l then some (.int (l.idxOf k:Nat))else none:=by
 show(intsD _).bind _=_;rw[l9];rfl
end
end
section
section
variable {prog:P7}{w:World}{A:Around}{E:AA}{s:Shared}
abbrev kB:=List Int×Addr×Value
def EY(h:Heap)(u:Value)(p:kB):Prop:=∃t o n,u=.ref t/\h.get? t=some o/\o.cls=.type "tuple"/\o.data=.seq #[.ref p.2.1,p.2.2] n
def vW(h:Heap):AC->List kB->Prop
 | [],[]=>True
 | u::us,p::ps=>EY h u p/\vW h us ps
 | _,_=>False
theorem Ud{xs:List kB}(h:k∉xs.map (·.1)):atKey xs k=none:=by
 refine atKey_none_of_get λj p e=>h ?_;grind
theorem EZ{a:AC}(hu:A.units+8<cLine)(hh:A.handled=none)(hd0:h0.get? d=none)(V:h0.get? it=none)(C:d≠it)(hL:h0.IsList L a.toArray):
 ∀(ps:List kB) (i:Nat) (c:Int) (f:List kB) (s:Shared),vW h0 (a.drop i) ps->f.length+ps.length<=sizeLine->((f++ps).map (·.1)).Nodup->(∀h',OldH h0 h'->∀x∈f++ps,(tupleKind (dM prog w)).is h' x.1 x.2.1)->
 s.heap.IsListIter it L i->OldH h0 s.heap->s.heap.DictOfH (tupleKind (dM prog w)) d f->
 (∀h' tk,OldH h0 h'->h'.DictOfH (tupleKind (dM prog w)) d (f++ps)->R (.ok (.ret .none)) { s with heap:=h',toks:=tk })->
 codeAny (mZ prog w) A (.builtin "dict.update.loop" ⟨[.ref d,.ref it,.int c 0,.none],[]⟩) R s:=by
 intro ps
 induction ps with
 | nil=>
   intro i c f s k hz hnd h B D hd O;have v:s.heap.IsList L a.toArray:=let ⟨o,e,r⟩:=hL;⟨o,D _ _ e,r⟩
   have y:a.toArray[i]?=none:=by
    cases g:a.drop i with
    | nil=>simpa using g
    | cons u us=>rw[g]at k;exact k.elim
   refine wy uN ?_;rw[jc lW _];show wpAny _ A.in1 (pyNext (.ref it)>>=_) _ _ s;refine wa (wpAny_pyNext_list_end (A:=A.in1) hh B v y λh' hs=>?_);show wpAny _ A.in1 (Builtin.Dict.addKeywords d []>>=_) _ _ _;have l:OldH h0 h':=λb N q=>hs b N (λz=>by grind) (D b N q);obtain⟨o,S,Z,g1,g2,g3,Q,g5,g6⟩:=hd;rw[w6]at O h;refine wa (wc (wc (O h' s.toks l ⟨o,S,Z,hs _ _ C g1,g2,g3,Q,λx y=>h h' l x y,g6⟩)))
 | cons p ps ih=>
   intro i c f s k hz hnd h B D hd O;have v:s.heap.IsList L a.toArray:=let ⟨o,e,r⟩:=hL;⟨o,D _ _ e,r⟩
   cases g:a.drop i with
   | nil=>rw[g]at k;exact k.elim
   | cons u us=>
     rw[g]at k;obtain⟨⟨t,N,n,rfl,ht,hc,F⟩,k⟩:=k
     have y:a.toArray[i]?=some (.ref t):=by
      have:=congrArg List.head? g;simpa [List.head?_drop]using this
     have hus:us=a.drop (i+1):=by
      have:=congrArg List.tail g;simpa using this.symm
     refine wy uN ?_;rw[jc lW _];show wpAny _ A.in1 (pyNext (.ref it)>>=_) _ _ s;refine wa (wpAny_pyNext_list_item B v y λI Y J=>?_);have j:=OldH.but V D J;obtain⟨o,S,Z,g1,g2,g3,Q,g5,g6⟩:=hd
     have T:I.DictOfH (tupleKind (dM prog w)) d f:=⟨o,S,Z,by rw[J.2 d C];exact g1,g2,g3,Q,λx y=>h I j x (List.mem_append.mpr (.inl y)),g6⟩
     have H:=j _ _ ht
     have hT:(Shared.TypeIs { s with heap:=I } (.ref t) "tuple"):=⟨N,H,hc⟩
     refine wa (wd (wa (wpAny_tryCatch ?_)));unfold Builtin.Dict.pairItems;refine wa (wpAny_typeOf hT ?_);rw[if_pos (by decide)];refine wa (wpAny_seqItems H F (wc ?_));have hlen:=qt (a:=p) (as:=ps)
     have K:p.1∉f.map (·.1):=λz=>by
      grind
     refine wd (wpAny_dictSet_heap (s:={ s with heap:=I }) (knd:=tupleKind (dM prog w)) (k:=p.1) (a:=p.2.1) (xs:=f) (hsz:=by lia) (by show A.in1.units<cLine;grind) (h I j p (by simp)) T λh2 G M=>?_);rw[storedH_new (Ud K)]at G;refine wc ⟨jb lW _,?_⟩;refine ih (i+1) (c+1) _ _ (by grind) (by grind) (by grind) (λh' o'=>by grind) (IsListIter.but Y M (Ne.symm C)) (OldH.but hd0 j M) G λh' U o' d'=>O h' U o' (by grind)
theorem Ue(hu:A.units+64<cLine)(z:A.handled=none)(K:PlainL s.heap L its.toArray)(hp:vW s.heap its ps)(Y:ps.length<=sizeLine)(C:(ps.map (·.1)).Nodup)(D:∀h',OldH s.heap h'->∀x∈ps,(tupleKind (dM prog w)).is h' x.1 x.2.1)(hQ:∀h' tk,OldH s.heap h'->h'.DictOfH (tupleKind (dM prog w)) (~~~s) ps->Q (.ref (~~~s)) { s with heap:=h',toks:=tk }):
 wpAny (mZ prog w) A (call (.type "dict") [.ref L]) Q E s:=by
 generalize u:({ cls:=.type "dict",data:=.dict #[] }:Obj)=l;refine callType_codes (Q₁:=λi d=>i=.ref _/\d={ s with heap:=s.heap.push l }) F.kt_called_dict (F.kt_typeCall_dict_1 _) F.entry_dict_init (kt_code_dict_new _ ⟨rfl,by rw[u]⟩) ?_;rintro i d ⟨rfl,rfl⟩
 have a:(s.heap.push l).DictOfH (tupleKind (dM prog w)) (~~~s) []:=by rw[<-u];exact .new s.heap
 refine⟨a.typeIs,F.args_dict_init_2 _ _,?_⟩;refine wa ?_;refine wa (wpAny_notOrdered_dict a.typeIs ?_);refine wc ?_;show wpAny _ _ (Builtin.Dict.updateFrom "dict.__init__" _ (.ref L) [] .none) _ _ _;obtain⟨o,n,e,k,B,m⟩:=K;have t:(s.heap.push l).get? L=some o:=qe _ e
 have N:Shared.TypeIs { s with heap:=s.heap.push l } (.ref L) "list":=⟨o,t,k⟩
 refine wa (wpAny_typeOf N ?_);refine wa (Md t k B m (by simp[z]) λh' tk c=>?_);refine wa (wpAny_rule (wa ?_))
 have r:h'.IsList L its.toArray:=⟨o,c _ _ t,k,n,m⟩
 refine wpAny_pyIter_list (s:={ s with heap:=h',toks:=tk }) r ?_;have j:OldH s.heap h':=λb v q=>c _ _ (qe _ q);obtain⟨T,R,I,p,f⟩:=id a;have h:=c _ _ p;have g:=ql h;generalize y:({ cls:=.type "list_iterator",data:=.fields _ }:Obj)=G;refine wc ⟨jb lW _,?_⟩;refine EZ (h0:=s.heap) ?_ (by simp[z]) (Heap.get?_none_of_le (qv _)) (Heap.get?_none_of_le (Nat.le_of_lt g)) (qm g) ⟨o,e,k,n,m⟩ ps 0 0 [] _ (by grind) (by grind) (by grind) (by grind) ?_ (λb v q=>qe _ (j b v q)) ?_ λB O V Z=>?_
 .grind
 .exact⟨G,qp _ (by rw[<-y];rfl),by rw[<-y],by grind⟩
 .obtain⟨J,H,U,_,M⟩:=f
  exact⟨T,R,I,qe _ h,J,H,U,λx S=>(nomatch S),M⟩
 grind
end
abbrev vX:=(List Int×Addr)×V
def vY(H:Hp):AM->List vX->Prop
 | [],[]=>True
 | x::xs,q::qs=>(∃b ys,x=.ref b/\H b=some (.tup [.ref q.1.2,q.2])/\H q.1.2=some (.tup ys)/\dR ys=some q.1.1)/\vY H xs qs
 | _,_=>False
theorem Nh:∀{a:List vX}{ps:List kB},ps.map (λp=>(p.1,p.2.1))=a.map (·.1)->bc (a.map (·.1)) (ps.map (·.2.2))=ps
 | [],[],_=>rfl
 | q::a,p::ps,h=>by
   rw[Qd,Qd]at h;injection h with c d;have b:=Nh d;unfold bc at b ⊢;rw[Qd,Qd,List.zip_cons_cons,Qd,b,<-c]
 | [],_::_,h=>by cases h
 | _::_,[],h=>by cases h
section
variable {X:Cx}
theorem Ni{σ:L2.St}(I:Inv X pins σ H s):∀{ys:AM}{its:AC}{a:List vX},vY H ys a->Vals ys its->∃ps:List kB,vW s.heap its ps/\ps.map (λp=>(p.1,p.2.1))=a.map (·.1)/\Vals (a.map (·.2)) (ps.map (·.2.2))/\∀p∈ps,∃c,H p.2.1=some (.tup c)/\dR c=some p.1
 | [],its,[],_,r=>by
   cases r;exact⟨[],trivial,rfl,.nil,λp f=>nomatch f⟩
 | y::ys,its,q::a,h,r=>by
   obtain⟨⟨b,c,rfl,v,D,A⟩,h⟩:=h
   cases r with
   | cons j z=>
     cases j;obtain⟨ps,m,B,g,C⟩:=Ni I h z;obtain⟨d,w,⟨o,e,k,n,u⟩,_⟩:=I.tuple (.of v)
     cases w with
     | cons t x=>
       cases x with
       | cons l i=>
         cases i;cases t;refine⟨(q.1.1,q.1.2,_)::ps,⟨⟨b,o,n,rfl,e,k,u⟩,m⟩,by grind,.cons l g,λp f=>?_⟩;grind
 | [],_,_::_,h,_=>h.elim
 | _::_,_,[],h,_=>h.elim
def E1(K:W7):AM->Hp->VK->Prop:=λe H Q=>∃a d b,e=[.ref a]/\SqL K H a d/\vY H d b/\b.length<ax/\(b.map (·.1.1)).Nodup/\∀p f,H p=none->Q (.ref p) (upd H p (d5 p (b.map (·.1)) (b.map (·.2)) f))
theorem Ug(E:X.A.units+64<cLine)(t:X.calm=true):dz X (.type "dict") (E1 X.K):=by
 intro l s T H U Z Q I r h;obtain⟨a,N,k,rfl,A,z,O,C,q⟩:=h;obtain⟨u,rfl,y⟩:=ee r;cases y;obtain⟨M,p,v,R⟩:=I.list A;obtain⟨f,F,g,G,D⟩:=Ni I z p;have m:ax=1000000:=rfl
 have n:f.length=k.length:=by
  have:=congrArg List.length g;grind
 have i:f.length<=sizeLine:=by rw[jg];lia
 have Y:f.map (·.1)=k.map (·.1.1):=by
  have:=congrArg (List.map Prod.fst) g
  rwa [Qf,Qf]at this
 refine Ue E (I.ok.hd t) v F i (by grind) (λw c x L=>?_) λw S c j=>?_
 .obtain⟨V,J,K⟩:=D x L
  exact jZ (I.kept (t':=s.toks) λb o e=>c b o e).hok J K
 .rw[<-Nh g]at j
  obtain⟨B,d⟩:=ox (beq_eq_false_iff_ne.mpr (.symm (qm I.big))) G j;exact⟨.ref _,_,I.laid (λb o e=>c b o e) (qv _) (d _),rfl,q _ B (I.hok.fresh (qv _))⟩
end
def l_:AN->Option (List (D×D))
 | []=>some []
 | .tup [k,v]::l=>(l_ l).map ((k,v)::·)
 | _=>none
def E3:D->Option (List (D×D))
 | .lst l=>l_ l
 | _=>none
variable {K:W7}
theorem Nj(s:Same G H):∀{l:AN}{ps:List (D×D)}{g:List AF}{xs:AM},l_ l=some ps->fj (ps.map (·.1))=some g->RpL K G l xs->
 ∃a:List vX,vY H xs a/\a.map (·.1.1)=g/\RpL K G (ps.map (·.1)) (a.map λq=>V.ref q.1.2)/\RpL K G (ps.map (·.2)) (a.map (·.2))/\a.length=ps.length/\∀q∈a,∃ys,G q.1.2=some (.tup ys)/\dR ys=some q.1.1
 | [],ps,g,xs,e,f,r=>by
   cases e;cases f;subst r;exact⟨[],trivial,rfl,.nil,.nil,rfl,λq k=>nomatch k⟩
 | d::l,ps,g,xs,e,f,r=>by
   unfold l_ at e
   split at e
   case h_1 he=>cases he
   case h_2 k v l' he=>
    injection he with j i;subst j i;obtain⟨o,y,rfl⟩:=qc e;obtain⟨x,R,rfl,p,t⟩:=r;obtain⟨n,L,f⟩:=qa f;obtain⟨A,h,rfl⟩:=qc f;obtain⟨a,F,Q,u,J,N,T⟩:=Nj s y h t;obtain⟨b,ys,rfl,I,c⟩:=p;obtain⟨O,v,rfl,m,c⟩:=c;obtain⟨C,v,rfl,B,c⟩:=c;subst c;obtain⟨z,M,rfl,E,S,w⟩:=om L (.of s m);refine⟨((n,z),C)::a,⟨⟨b,M,rfl,s _ _ I,E,w⟩,F⟩,by grind,.cons m u,.cons B J,by grind,λq k=>?_⟩;grind
   grind
section
variable {X:Cx}{e:Expr}{f:AU}{pos:Pos}
def iv(i:Nat)(f:AU):AR:=λb=>((f b).bind E3).bind λa=>(fj (a.map (·.1))).bind λc=>if a.length<ax/\c.Nodup then some (.nx (b.set i (some (.od true (a.map (·.1)) (a.map (·.2))))))else none
@[simp] theorem Nk(i:Nat):iv i f ρ=((f ρ).bind E3).bind λps=>(fj (ps.map (·.1))).bind λa=>if ps.length<ax/\a.Nodup then some (.nx (ρ.set i (some (.od true (ps.map (·.1)) (ps.map (·.2))))))else none:=c7 rfl
theorem E4(T:X.A.units+64<cLine)(J:X.calm=true)(i:Nat){c w b:Pos}(Y:X.N.Nodup)(U:Gl X "dict")(I:X.mg "dict"=none)(k:ZC X e f)(R:X.N[i]?=some x:=by rfl)(z:c9 X.env.scope x:=by trivial)(g:starEach [e] X.env=[(false,eval e X.env)]:=by rfl)(o:(backTo b (starEach [] X.env)).any (·.1)=false:=by rfl)(hs:swapsWith (.Call (.Name "dict" w) [e] [] b) (some (.Name x c)) pos.line X.env=pure false:=by rfl)(K:X.fn x=true\/X.env.scope.names.lookup x=some .local:=by trivial):ZS X (.Assign [.Name x c] (.Call (.Name "dict" w) [e] [] b) pos) (iv i f):=⟨have k:=k.un;
 PS.imp (jC Y R z (iQ (Ug T J) U I (by decide +kernel) (iW k iV g) (by decide) (by decide) g o) hs K) λF σ H m=>by
  obtain⟨V,O,Z,G0,G,e,s,h⟩:=m;obtain⟨ps,Q,e⟩:=qa e;obtain⟨kn,n,e⟩:=qa e;obtain⟨d,h2,y⟩:=qa Q
  split at e
  case isFalse=>cases e
  cases e;refine tCAof.at (show Yb f _ V=some [d] by simp_all) s λvs H1 A g1 N j=>?_;obtain⟨v,rfl,L⟩:=eQ N
  cases d with
  | lst l=>
    obtain⟨a,E,rfl,t,S⟩:=L;obtain⟨u,D,k2,C,B,k5,k6⟩:=Nj j.seen (y) n S;refine⟨a,E,u,rfl,.inl t,D,by grind,by grind,λp M r=>h _ _ A (j.set_od i (.hid j.seen r _) r (j.seen.free r) (.inr ⟨rfl,u.map _,M,Yg,by simp,by grind,by simp_all,λq t=>?_⟩) C B)⟩;grind
  | _=>cases y⟩
end
end
section
variable {prog:P7}{w:World}{A:Around}{E:AA}{s:Shared}
def DRaw(h:Heap)(d:Addr)(b:Array DictEntry)(a:Nat):Prop:=∃o,h.get? d=some o/\o.ExactDict/\o.data=.dict b a
def DRaw.typeIs(b:DRaw s.heap d f e):s.TypeIs (.ref d) "dict":=by
 obtain⟨o,a,c,_⟩:=b;exact⟨o,a,c.1⟩
theorem Nl(j:(d==sysModules)=false)(e:DRaw s.heap d f h)(g:Q (.ref (~~~s)) { s with heap:=s.heap.push { cls:=.type "dict_keyiterator",data:=.fields #[.ref d,.int 0 0,.int f.size 0,.int h 0] } }):wpAny (mZ prog w) A (pyIter (.ref d)) Q E s:=by
 have b:=e.typeIs;obtain⟨o,c,i,a⟩:=e;refine wpAny_pyIter_slot b F.slot_dict_iter (we F.slot_dict_iter b F.entry_dict_iter (wa (wa (wpAny_notOrdered_dict b ?_))) (F.args_dict_iter_1 _));show wpAny _ _ (pure (Value.ref d)) _ _ s;refine wc ?_;show wpAny _ _ (Builtin.Dict.showsAll d>>=_) _ _ s;unfold Builtin.Dict.showsAll;rw[if_neg (by grind)];refine wa (wc (wa (wpAny_dictEntries c a (wa (wpAny_dictEpoch c a (wa (wg (wc ⟨_,rfl,"dict_keyiterator",_,⟨_,qp _ rfl,rfl⟩,F.slot_dict_keyiterator_next.lookup,?_⟩))))))));simpa [rawInt]using g
theorem Nm(a:s.heap.IsKeyIter c d i f.size k)(q:DRaw s.heap d f k)(n:i<f.size)(m:∀h':Heap,h'.IsKeyIter c d (i+1) f.size k->Heap.SameBut c s.heap h'->Q (some f[i].key) { s with heap:=h' }):wpAny (mZ prog w) A (pyNext (.ref c)) Q E s:=by
 obtain⟨o,j,r,h⟩:=id a;obtain⟨t,g,p,e⟩:=q;unfold pyNext
 refine wa (jf (wpAny_callSpecial?_slot a.typeIs F.slot_dict_keyiterator_next
  (we F.slot_dict_keyiterator_next a.typeIs F.entry_dict_keyiterator_next ?_ (F.args_dict_keyiterator_next_1 _))))
 refine wa (wc ?_);refine wa ?_;refine wa ?_
 first|refine wa (wpAny_typeNameOfWhole_keyiter a.typeIs (wc ?_))|refine wa (wpAny_typeNameOf_keyiter a.typeIs (wc ?_))
 refine wa (wpAny_fieldsOf j h ?_)
 have l:Builtin.Dict_items.ownsTuple "dict_keyiterator"=false:=by decide
 show wpAny _ _ _ _ _ s;refine wa (wc ?_);refine wa (wpAny_dictEntries g e ?_);rw[if_neg (by simp)];refine wa (wc ?_);refine wa (wpAny_dictEpoch g e ?_);rw[if_neg (by simp)];refine wc ?_;simp only[if_false,w5,Array.getElem?_eq_getElem n];refine wa ?_
 first|refine wa (wpAny_typeNameOfWhole_keyiter a.typeIs (wc ?_))|refine wa (wpAny_typeNameOf_keyiter a.typeIs (wc ?_))
 refine wa (wpAny_isOneOf_keyiter a.typeIs ?_);show wpAny _ _ (setField (.ref c) 1 _>>=_) _ _ s;refine wa (wpAny_setField j h (by simp) ?_)
 have b:(s.heap.update c (Obj.mapFields (·.setIfInBounds 1 (rawInt ((i:Int)+1))))).IsKeyIter c d (i+1) f.size k:=
  ⟨_,wx _ j (Obj.isFreed_of_fields (je h _)),(Obj.cls_mapFields ..).trans r,by rw[je h];simp[rawInt]⟩
 refine wa (wd ?_);refine wa (wpAny_isOneOf_keyiter b.typeIs ?_);exact wc (wc ⟨_,rfl,wc (m _ b (wv ..))⟩)
theorem Nn(p:A.handled=none)(a:s.heap.IsKeyIter e d i h.size n)(q:DRaw s.heap d h n)(f:h.size<=i)(m:∀h',Heap.ExtBut e s.heap h'->Q none { s with heap:=h' }):wpAny (mZ prog w) A (pyNext (.ref e)) Q E s:=by
 obtain⟨o,k,r,j⟩:=id a;obtain⟨t,c,l,b⟩:=q;unfold pyNext
 refine wa (jf (wpAny_callSpecial?_slot a.typeIs F.slot_dict_keyiterator_next
  (we F.slot_dict_keyiterator_next a.typeIs F.entry_dict_keyiterator_next ?_ (F.args_dict_keyiterator_next_1 _))))
 refine wa (wc ?_);refine wa ?_;refine wa ?_
 first|refine wa (wpAny_typeNameOfWhole_keyiter a.typeIs (wc ?_))|refine wa (wpAny_typeNameOf_keyiter a.typeIs (wc ?_))
 refine wa (wpAny_fieldsOf k j ?_)
 have g:Builtin.Dict_items.ownsTuple "dict_keyiterator"=false:=by decide
 show _;refine wa (wc ?_);refine wa (wpAny_dictEntries c b ?_);rw[if_neg (by simp)];refine wa (wc ?_);refine wa (wpAny_dictEpoch c b ?_);rw[if_neg (by simp)];refine wc ?_;simp only[show ¬((i:Int)<0) from by lia,if_false,w5,Array.getElem?_eq_none f];refine wa ?_
 first|refine wa (wpAny_typeNameOfWhole_keyiter a.typeIs (wc ?_))|refine wa (wpAny_typeNameOf_keyiter a.typeIs (wc ?_))
 show wpAny _ _ (setField (.ref e) 0 .none>>=_) _ _ s;refine wa (wpAny_setField k j (by simp) ?_);refine wa ?_;refine wa (m:=firstArgMember _ _) (wpAny_of_eq (a:=Value.none) (by first|rfl|(rfl)) ?_);refine wg ?_ (by size_fits);simp only[raiseNew];refine wa (wpAny_handled ?_);rw[p];refine wa (wc (wpAny_throw ?_));refine wa (wpAny_isInstance (T:="StopIteration") (b:=true) ⟨_,qp _ rfl,rfl⟩ isSubtype_stop ?_);exact wc (m _ (((wv ..).extBut.push _).push _))
end
def Np(a:Addr)(nks:List (List Int×Addr))(vxs:AM)(b:Nat):It:=
 ⟨λi H=>H a=some (d5 a nks vxs b)/\i<nks.length,λi H x c=>c=H/\∃p,nks[i]?=some p/\x=.ref p.2,λi H=>H a=some (d5 a nks vxs b)/\nks.length<=i⟩
theorem vZ(g:HOk P w H h)(e:H a=some (d5 a nks vxs n))(s:nks.length=vxs.length):
 (a==sysModules)=false/\∃b:Array DictEntry,DRaw h a b n/\b.size=nks.length/\∀(i:Nat) (d:i<b.size) p,nks[i]?=some p->b[i].key=.ref p.2:=by
 obtain⟨⟨j,k,o,b,r,q,f,m,l⟩,_⟩:=g a _ e
 have t:k.length=nks.length:=by rw[s,r.length]
 have c:b.size=nks.length:=by
  have:=congrArg List.length l;grind
 refine⟨j,b,⟨o,q,f,m⟩,c,λi d p u=>?_⟩
 have v:b.toList[i]?=some b[i]:=by simp[d]
 grind
theorem Uh{K:W7}(L:nks.length=vxs.length)(a l:Addr):d3 P w K Z (Np a nks vxs O) [l] l (λi h=>h.IsKeyIter l a i nks.length O) where
 mem:=by simp
 obj:=λi h st b m=>by
  obtain⟨o,e,c,d⟩:=st;grind
 keep:=λi h J st k=>by
  obtain⟨o,e,r⟩:=st;exact⟨o,k l (by simp) o e,r⟩
 item:=by
  intro X S V Q F i n s R H E I p st y;obtain⟨x,G⟩:=y;obtain⟨u,U,C,f,g⟩:=vZ I.hok x L;obtain⟨q,t,Y,v,A,z⟩:=p l (by simp);have D:=qr G;rw[<-f]at st;refine Nm st C (by lia) λJ j M=>?_;have T:=I.turned (t':=s.toks) (λb o m e=>(M.2 b m).trans e) q t v A z;obtain⟨o,e,c,d⟩:=id j;rw[g i (by lia) _ D];rw[f]at j;exact⟨.ref _,rfl,ts e c d (by decide) ⟨.ref _,H,T,rfl,⟨rfl,_,D,rfl⟩,j,λb m=>(p b m).1⟩⟩
 done:=by
  intro X S V Q F i n s R H E I p st y;obtain⟨x,G⟩:=y;obtain⟨u,U,C,f,g⟩:=vZ I.hok x L;obtain⟨q,t,Y,v,A,z⟩:=p l (by simp);rw[<-f]at st
  exact Nn (I.ok.hd F) st C (by lia) λJ N=>⟨rfl,I.turned (λb o m e=>N b o m e) q t v A z⟩
 self:=λ_ _ _ _ _ st h=>wpAny_pyIter_keyiter st h
section
variable {X:Cx}{tg:Expr}
def E5(g:TE):TI:=λf H R=>g f H λx e=>∃a c b d,x=.ref a/\e a=some (d5 a c b d)/\c.length=b.length/\R (Np a c b d) e
theorem E6(r:PE X l u):PI X tg l (E5 u):=by
 intro m s B H R I h;refine az (r _ s B H _ I h) λv j g=>?_;obtain⟨x,w,d,y,n⟩:=g;obtain⟨a,z,t,C,e,A,c,q⟩:=n;subst e;cases y;obtain⟨i,E,p,f,k⟩:=vZ d.hok A c;refine Nl i p ?_;rw[f];refine⟨j.heap.objs.size,[j.heap.objs.size],_,_,w,rfl,d.kept λb o e=>qe _ e,Uh c a _,⟨_,qp _ rfl,rfl,rfl⟩,λb D=>?_,q⟩
 have e:b=j.heap.objs.size:=by grind
 subst e;exact d.fpOk (qv _) (d.hok.fresh (qv _))
end
def qK:D->Option AN
 | .dct true a _=>if a.length<=ax then some a else none
 | _=>none
section
variable {X:Cx}{tg:Expr}{f:AU}
theorem Ui(o:ZE X l f):ZI X tg l (b1 f qK):=⟨have o:=o.un;PI.imp (E6 o) λσ H R n=>by
 obtain⟨ρ,S,Z,G0,G,e,s,h⟩:=n;obtain⟨c,D,b⟩:=dS e;refine tOf.at D s λv F N O K L=>?_;unfold qK at b
 split at b
 case h_2=>cases b
 split at b
 case isFalse=>cases b
 rename_i g;cases b;obtain⟨a,I,t,rfl,Q,A,T⟩:=K;rcases Q with⟨z,_⟩|⟨_,j,J,r,M,Y,rfl,V⟩
 .cases z
 refine⟨a,j,t,J,rfl,L.seen _ _ r,M,h _ F N O (n6 (f6 g) λi H2 U m u=>⟨λd C=>?_,λhi=>⟨u _ _ (m _ _ r),?_⟩⟩)⟩
 .obtain⟨x,w,E⟩:=A.get C
  have k:i<j.length:=by
   grind
  refine⟨⟨u _ _ (m _ _ r),k⟩,λy H3 q=>⟨q.1,?_⟩⟩;obtain⟨p,B,rfl⟩:=q.2;rw[Qm,B]at w;cases w;exact E.mono m
 .have:=A.length
  grind⟩
@[simp] theorem Uj(ks vs:AN):qK (.dct true ks vs)=if ks.length<=ax then some ks else none:=c7 rfl
end
section
variable {prog:P7}{w:World}{A:Around}{E:AA}{s:Shared}{X:Cx}
def DRaw.keep(e:DRaw h d b c)(k:∀o,h.get? d=some o->h'.get? d=some o):DRaw h' d b c:=by
 obtain⟨o,a,r⟩:=e;exact⟨o,k o a,r⟩
def Uk{h h':Heap}(b:h.IsKeyIter a d i n c)(k:∀o,h.get? a=some o->h'.get? a=some o):h'.IsKeyIter a d i n c:=by
 obtain⟨o,e,r⟩:=b;exact⟨o,k o e,r⟩
theorem Ul(q:A.handled=none)(I d:Addr)(c:d≠I)(a:Array DictEntry)(p:Nat):
 Walks prog w A I [I,d] [I] a.size (λi v=>∃k:i<a.size,v=a[i].key) (λi h=>h.IsKeyIter I d i a.size p/\DRaw h d a p) where
 sub:=λb n=>by grind
 frame:=λ_ _ _ st l=>⟨Uk st.1 λo e=>l I (by simp) o e,st.2.keep λo e=>l d (by simp) o e⟩
 item:=λi s Q E k st g=>Nm st.1 st.2 k λj f m=>g _ j _ ⟨k,rfl⟩ ⟨f,st.2.keep λo e=>(m.2 d c).trans e⟩ λb o n e=>(m.2 b (by grind)).trans e
 done:=λs Q E st g=>Nn q st.1 st.2 (qv _) λj r=>g j _ λb o n e=>r b o (by grind) e
 self:=λi s Q E st h=>wpAny_pyIter_keyiter st.1 h
def E7(lo:(d==sysModules)=false):W.KdlSrc prog w "dict" d d f.size (λi v=>∃m:i<f.size,v=f[i].key) (λh=>DRaw h d f j) where
 type:=λ_ a=>a.typeIs
 there:=λ_ a=>⟨let ⟨_,c,_⟩:=a;ql c,let ⟨_,c,_⟩:=a;ql c⟩
 keep:=λ_ _ a k=>a.keep λo e=>k d (.inl rfl) o e
 notList:=by decide
 notTuple:=by decide
 hint:=λ_ _ _ _ a g=>W.kdl_hint_dict a.typeIs g
 iter:=λ_ s l a=>⟨_,_,λ_ _ g=>Nl lo a g,Ul l _ d (by obtain⟨_,c,_⟩:=a;exact qm (ql c)) f j,⟨⟨_,qp _ rfl,rfl,rfl⟩,a.keep λo e=>qe _ e⟩⟩
def qL:AM->Hp->VK->Prop:=λd H Q=>∃a b c e,d=[.ref a]/\H a=some (d5 a b c e)/\b.length=c.length/\b.length<=sizeLine/\∀l,H l=none->Q (.ref l) (upd H l (.lst (b.map λp=>.ref p.2)))
theorem Um(D:X.calm=true):dz X (.type "list") qL:=by
 intro v s J H K L Q I r h;obtain⟨a,b,w,N,rfl,t,o,B,q⟩:=h;obtain⟨u,rfl,E⟩:=ee r;cases E;obtain⟨k,F,z,m,j⟩:=vZ I.hok t o;refine W.kdl_call (E7 k) (I.ok.hd D) z (by lia) λC O d c y e g=>?_
 have A:Vals (b.map λp=>.ref p.2) d.toList:=by
  have f:d.toList=b.map λp=>.ref p.2:=by
   refine List.ext_getElem? λi=>?_;by_cases G:i<F.size
   .have l:i<d.size:=by rwa [g.1]
    obtain⟨_,M⟩:=g.2 i _ (Array.getElem?_eq_getElem l);grind
   .rw[List.getElem?_eq_none (by rw[qj,g.1];lia),List.getElem?_eq_none (by grind)]
  rw[f];clear f j t o B m q
  induction b with
  | nil=>exact .nil
  | cons p b x=>exact .cons rfl x
 exact⟨.ref _,_,I.laid y (qv _) (show ObjOk _ X.w _ C _ (.lst _) from⟨by grind,d.toList,c,A,by simpa using e⟩),rfl,q _ (I.hok.fresh (qv _))⟩
def iw:AN->Option AN
 | [.dct true a _]=>if a.length<=ax then some a else none
 | _=>none
def Uo:er X.K qL iw:=by
 intro t w l H G Q h s r q;unfold iw at h
 split at h
 case h_2=>cases h
 split at h
 case isFalse=>cases h
 rename_i c;cases h;obtain⟨v,rfl,i⟩:=eQ r;obtain⟨a,o,e,rfl,n,g,i⟩:=i;rcases n with⟨z,_⟩|⟨_,d,j,p,k,u,rfl,x⟩
 .cases z
 have b:=g.length;simp at b;exact⟨a,d,e,j,rfl,p,k,by rw[b];exact f6 c,λm f=>q m _ _ G (.hid s f _) f (s.free f) Yg g⟩
@[simp] theorem Up(ks vs:AN):iw [.dct true ks vs]=if ks.length<=ax then some ks else none:=c7 rfl
end
section
theorem Nr:∀{c:AF}{d:AM}{b:List (aZ×Value)}{a:List (aZ×V)}{vs:List (aZ×Value)},c.length=d.length->KV (zK c d) b->KV a vs->KV (fq a (c.zip d)) (merged vs b)
 | [],[],b,a,vs,_,h,r=>by
   cases h;exact r
 | m::c,x::d,b,a,vs,j,h,r=>by
   cases h with
   | cons g f=>
     rename_i q b;obtain⟨e,i⟩:=g;show KV (fq _ (c.zip d)) (merged (stored vs q.1 q.2) b);rw[e.symm];exact Nr (by grind) f (r.put _ i)
 | [],_::_,_,_,_,h,_,_=>by simp at h
 | _::_,[],_,_,_,h,_,_=>by simp at h
section
variable {X:Cx}
def E8:V->AM->Hp->VK->Prop:=λx e H Q=>∃(d o:Addr) (a:List _) (c:AF) (b:AM),x=.ref d/\e=[.ref o]/\d≠o/\H d=some (.dK a)/\H o=some (.dK (zK c b))/\c.length=b.length/\a.length+b.length<ax/\Q .non (upd H d (.dK (fq a (c.zip b))))
theorem Uq:tN X "dict.update" E8:=by
 intro k s J H x S v O Q I D A h;obtain⟨d,o,g,i,c,rfl,rfl,f,m,C,p,L,q⟩:=h;cases D;obtain⟨u,rfl,z⟩:=ee A;cases z;obtain⟨K,lo1,B,n,r⟩:=I.hok d _ m;obtain⟨M,e,t,l,y⟩:=I.hok o _ C;have N:=n.length.symm
 have G:t.length=c.length:=by
  have:=l.length;rw[Cd _ _ p]at this;lia
 have j:ax=1000000:=rfl
 have E:(i.zip c).length=c.length:=by grind
 refine call_meetsIn PySem.F.slot_dict_update r.typeIs PySem.F.entry_dict_update (PySem.F.args_dict_update_2 _ _) (meets_dict_update _ d o f e) ⟨B,t,r,y,by rw[jg];lia,λR b _ same=>?_⟩;have F:=Cz (i.zip c) g;refine⟨.non,_,lE I (by rw[m];exact .intro) same (let ⟨q,_,_,w,_⟩:=b;⟨q,w⟩) (tJ (by rw[jg];lia) lo1 (Nr p l n) b),rfl,q⟩
end
variable {K:W7}
theorem qM:∀{b:AF}{ds:AN}{a:AM},b.length=a.length->RpL K G ds a->DQ K G (b.zip ds) (b.zip a)
 | [],ds,a,c,r=>trivial
 | m::b,ds,a,c,r=>by
   cases a with
   | nil=>simp at c
   | cons x a=>
     cases ds with
     | nil=>
       cases r
     | cons d ds=>
       obtain⟨y,q,e,i,f⟩:=r;injection e with g h;subst g h;exact⟨⟨rfl,i⟩,qM (by grind) f⟩
section
variable {X:Cx}{e:Expr}{f:AU}{pos:Pos}
def ix(l:List D×AN):D->Option (List D×AN)
 | .dct false d a=>(intsD l.1).bind λb=>(intsD d).bind λc=>if l.2.length+a.length<ax then some ((ay b l.2 (c.zip a)).1.map .int,(ay b l.2 (c.zip a)).2)else none
 | _=>none
def gj(i:Nat)(f:AU):AR:=λa=>(fH i a).bind λl=>(f a).bind λd=>(ix l d).map λb=>.nx (a.set i (some (.od false b.1 b.2)))
theorem Ur(i:Nat){t g c:Pos}(I:ZE X e f)(hN:X.N[i]?=some x:=by rfl)(hv:eW X.env.scope x:=by trivial)(hd:cv x:=by decide)(E:fR x:=by decide)(A:swapsWith (.Call (.Attribute (.Name x t) "update" g) [e] [] c) none pos.line X.env=pure false:=by rfl)(hs:starEach [e] X.env=[(false,eval e X.env)]:=by rfl)(r:pj X c [e]:=by rfl)(p:(g.endLine==c.line)=true:=by rfl)(o:attributeBase (.Name x t) "update" X.env (eval (.Name x t) X.env)=eval (.Name x t) X.env:=by rfl):
 ZS X (.Expr (.Call (.Attribute (.Name x t) "update" g) [e] [] c) pos) (gj i f):=⟨have I:=I.un;
 PS.imp (lA (nE PySem.F.plainAttrs_dict PySem.F.slot_dict_update PySem.F.type_dict_update Uq (gA hN hv hd E) (fW I fV hs) o r p hs rfl) A) λF σ H w=>by
  obtain⟨ρ,out,H0,G0,G,e,s,h⟩:=w;obtain⟨l,h1,e⟩:=qa e;obtain⟨d,h2,e⟩:=qa e;obtain⟨l',k,rfl⟩:=qc e;unfold ix at k
  split at k
  case h_2=>cases k
  obtain⟨ns,O,k⟩:=qa k;obtain⟨ms,h5,k⟩:=qa k
  split at k
  case isFalse=>cases k
  cases k;have m:=L_ h1;obtain⟨a0,kx0,vx0,n,_,_,J,D,_⟩:=s.od i _ _ _ m;obtain⟨q1,_,_,_⟩:=gF O J D;refine⟨_,n,.inr (.inr (.inl ⟨rfl,.inl ⟨_,q1⟩⟩)),tOf.at h2 s λv H1 U g1 r1 u=>?_⟩;obtain⟨a,kxs,K,Q,hG,hH0,dc,rk,L⟩:=u.od i _ _ _ m;rw[n]at Q;cases Q;obtain⟨e1,Z,N,e4⟩:=gF O dc rk;obtain⟨b,kx2,y,rfl,C,B,q⟩:=r1;obtain⟨T,f2,M,f4⟩:=gF h5 C B;have hl1:=L.length;have hl2:=q.length;obtain⟨Y,S,k2,R,V⟩:=uP (qM M q) Z N L
  exact⟨a0,b,zK ns K,ms,y,rfl,rfl,λz=>by grind,e1,u.seen _ _ T,M,by rw[Cd _ _ N];lia,h σ _ U (u.mutd m n (oJ (by rw[<-S];exact Yg) k2 R) (.ints _) V)⟩⟩
@[simp] theorem Nt(i:Nat):gj i f ρ=(fH i ρ).bind λl=>(f ρ).bind λd=>(ix l d).map λa=>.nx (ρ.set i (some (.od false a.1 a.2))):=c7 rfl
end
end
section
open Sem (wp)
variable {K:W7}
end
structure kC(K:W7)(x:Str)(st:Stmt)(f:Addr)(fd:FuncData)(T:Addr):Prop where
 ex:∃(oc:Value) (od:Option Addr) (kV doc pm:Value) (an:Option Addr) (cdv ct:Value) (osl:Array (Option Value)),
  fd=W.fnOf x x (aGa st) (aFa st) (aDa st) (.ref T) kV doc pm an cdv ct/\K.lookup f=some ⟨oc,od,.func fd,osl⟩/\W.codeIn K cdv x=true
 kp:W.keepIn K (.ref f)=true
 df:∃(oc:Value) (od:Option Addr) (i:Int) (t n:Nat) (osl:Array (Option Value)),K.lookup T=some ⟨oc,od,.seq #[.int i t] n,osl⟩
section
variable {P:P7}{w:World}{K:W7}{mg:AD}{base:Heap}
theorem E9{st:Stmt}(F:kC K x st f fd T)(Z:mg x=some (.ref f))(S:dE N ps (aDa st))(hn:N.length=n)(L:ps.length=m)(p:∀(kV j I:Value) (D:Option Addr) (a ct:Value) (us:AC) (i:Int) (t:Nat),us.length=ps.length->∃c:Option (Array Value)->Sem (List (Str×Value)),bindArgs (W.fnOf x x (aGa st) (aFa st) (aDa st) (.ref T) kV j I D a ct) ⟨us,[]⟩=seqItems? (.ref T)>>=c/\c (some #[.int i t])=pure (ps.zip us))(hb:∀(a:Value) (A:Around) (b:List Env) (s:Shared) (H:Hp) (E:XK),Room k (A.deeper (envOfC x (aDa st) (~~~s) f a))->ZB (ck cK P w K mg base N x (aDa st) f a A b s H E).nox (aFa st) fb):aN P w K mg base (k+1) m x ps (aj m n fb):=by
 obtain⟨oc,od,kV,j,I,D,a,ct,osl,rfl,O,B⟩:=F.ex;refine⟨f,_,nq O B S (λM H Q E h=>by rw[h.1,L]) λA b s H M Q E U h=>?_,λs us R y=>?_,F.kp,Z⟩
 .obtain⟨y,ds,d,G,sm,r,e,q⟩:=h
  refine⟨_,(hb a A _ s H E U).un.nox,?_⟩;unfold aj at e
  split at e
  .obtain⟨o,z,l⟩:=qa e
   refine⟨Yd n ds,o,H,G,G,z,by rw[<-hn];exact .start sm r,?_⟩
   cases o with
   | rt d'=>cases l;exact λv C u g V=>q v C u g V
   | nx J=>cases l;exact λσ' C u Y=>q _ C u Y.gr (by rw[Rp])
   | bk J=>cases l
   | ct J=>cases l
  .cases e
 .rw[w6]at y ⊢
  obtain⟨_,_,i,t,_,_,ho⟩:=F.df;obtain⟨c,z,l⟩:=p kV j I D a ct us i t y;exact .of_defaults rfl (R _ _ ho) rfl z l
end
section
variable {K:W7}
def cR(c f:Str):D->Option D
 | .obj a d b=>if a=c then (d.zip b).lookup f else none
 | _=>none
def CF(K:W7)(c f:Str):Prop:=∀C,W.nsIn K mainGlobals c=some (some (.ref C))->Cls K C/\NoAttr K C f
theorem RpL.look{G:Hp}{f:Str}:∀{ks:AJ}{vs:AN}{xs:AM}{d:D},RpL K G vs xs->(ks.zip vs).lookup f=some d->∃v,(ks.zip xs).lookup f=some v/\Rp K G d v
 | [],_,_,_,_,e=>by simp at e
 | _::_,[],_,_,_,e=>by simp at e
 | k::ks,b::vs,xs,d,r,e=>by
   obtain⟨x,a,rfl,g,q⟩:=r;rw[List.zip_cons_cons,List.lookup_cons]at e ⊢
   cases h:(f==k)with
   | true=>
     rw[h]at e;cases e;exact⟨x,rfl,g⟩
   | false=>
     rw[h]at e;exact RpL.look q e
section
variable {X:Cx}{e o:Expr}{fa fo:AU}{pos apos:Pos}{c f:Str}
def gk(P:P7)(w:World)(K:W7)(d:AD)(a:Heap)(k:Nat)(c m:Str)(e:AJ)(sp:Sp):Prop:=
 ∃C f b,FnOk P w K d a cK k f b e sp/\Binds K b e []/\W.nsIn K mainGlobals c=some (some (.ref C))/\Cls K C/\eX K C m f
def cA(c m:Str)(b:AN->Option D):D->Option D
 | .obj a d e=>if a=c/\m∉d then b [.obj a d e]else none
 | _=>none
theorem E_{f:Str}:∀{ks:AJ}{xs:AM},f∉ks->(ks.zip xs).lookup f=none
 | [],_,_=>by simp
 | _::_,[],_=>by simp
 | k::ks,x::xs,h=>by
   rw[List.zip_cons_cons,List.lookup_cons]
   have a:(f==k)=false:=by
    rw[beq_eq_false_iff_ne];exact λz=>h (by rw[z];exact qh)
   rw[a];exact E_ λz=>h (qg _ z)
end
end
section
variable {K:W7}
inductive cb (τ:Type) where
 | nx (ρ:Ro) (t:τ)|rt (d:D) (t:τ)|bk (ρ:Ro) (t:τ)|ct (ρ:Ro) (t:τ)
def v3(l:Addr)(H H':Hp):Prop:=∀a,a≠l->H' a=H a
structure WR(K:W7)(l:Addr)(o:HO)(H0 G0:Hp)(σ:L2.St)(H G:Hp)(ρ:Ro):Prop where
 sr:SR K H0 G0 σ H G ρ
 g0:G0 l=none
 h0:H0 l=some o
def Fb{f:Type}(b:f->HO)(K:W7)(l:Addr)(c e:Hp)(F:dD):cb f->Prop
 | .nx i t=>∀g h j a,v3 l c a->WR K l (b t) a e g h j i->F.nx g h
 | .rt d t=>∀v h j a,v3 l c a->a l=some (b t)->Gr a e h j->Rp K j d v->F.rt v h
 | .bk i t=>∀g h j a,v3 l c a->WR K l (b t) a e g h j i->F.bk g h
 | .ct i t=>∀g h j a,v3 l c a->WR K l (b t) a e g h j i->F.ct g h
def qN{b:Type}(a:b->HO)(K:W7)(l:Addr)(f:Ro->b->Option (cb b)):TS:=λF h H=>∃g t e c d G,f g t=some e/\WR K l (a t) c d h H G g/\Fb a K l c d F e
abbrev WS{b:Type}(a:b->HO)(X:Cx)(l:Addr)(st:Stmt)(f:Ro->b->Option (cb b)):Prop:=PS X st (qN a X.K l f)
abbrev WB{b:Type}(a:b->HO)(X:Cx)(l:Addr)(c:List Stmt)(f:Ro->b->Option (cb b)):Prop:=PSs X c (qN a X.K l f)
section
variable {τ:Type}{rep:τ->HO}{X:Cx}{l:Addr}{st:Stmt}{sts:List Stmt}{fs gs:Ro->τ->Option (cb τ)}{pos:Pos}{tg:Expr}{gl:AV}
def WT(rep:τ->HO)(X:Cx)(l:Addr)(c:Expr)(f:Ro->τ->Option Bool):Prop:=PT X c λg H Q=>∃d t k b a G,f d t=some k/\WR X.K l (rep t) b a g H G d/\∀e h,Gr H G e h->Q k e
end
end
section
variable {K:W7}
abbrev wl(t:AG):HO:=.lst (t.map .bl)
abbrev qO:AJ:=["book","hands","truths"]
abbrev aW(b h x:D):D:=.obj "Watch" qO [b,h,x]
theorem Nu{G:Hp}:∀t:AG,RpL K G (t.map D.bl) (t.map V.bl)
 | []=>.nil
 | b::t=>.cons (by rw[Rp]) (Nu t)
def RpL.three{G:Hp}{a b c:D}{xs:AM}(r:RpL K G [a,b,c] xs):∃x y z,xs=[x,y,z]/\Rp K G a x/\Rp K G b y/\Rp K G c z:=by
 obtain⟨x,g,rfl,d,r⟩:=r;obtain⟨y,i,rfl,f,r⟩:=r;obtain⟨z,h,rfl,e,r⟩:=r;subst r;exact⟨x,y,z,rfl,d,f,e⟩
end
section
variable {K:W7}
end
section
variable {K:W7}
def v5(p:Prop)(a:Option eY):Option eY:=@ite _ p (Classical.propDecidable p) a none
def Nv{p:Prop}{a:Option eY}(h:p):v5 p a=a:=@if_pos p _ h _ _ _
def Fc{p:Prop}{a:Option eY}{o:eY}(e:v5 p a=some o):p/\a=some o:=by
 by_cases h:p
 .rw[Nv h]at e
  exact⟨h,e⟩
 .have:v5 p a=none:=@if_neg p _ h _ _ _
  rw[this]at e;cases e
end
abbrev Wm:=Ro->AG->Option (cb AG)
structure ZWS(X:Cx)(l:Addr)(st:Stmt)(f:Wm):Prop where
 un:WS wl X l st f
structure ZWB(X:Cx)(l:Addr)(sts:List Stmt)(f:Wm):Prop where
 un:WB wl X l sts f
structure ZWT(X:Cx)(l:Addr)(c:Expr)(f:Ro->AG->Option Bool):Prop where
 un:WT wl X l c f
section
variable {X:Cx}{l:Addr}{st:Stmt}{sts:List Stmt}{fs gs:Wm}{pos apos:Pos}{tg e o:Expr}{gl:AV}{f fa fo:AU}{c m:Str}
def Fd{f:Str}(k:CF X.K c f)(j:ZE X e fa)(D:attributeBase e f X.env (eval e X.env)=eval e X.env:=by rfl):ZE X (.Attribute e f pos) (b1 fa (cR c f)):=⟨have j:=j.un;
 PE.imp (nh j D) λL H Q p=>by
  obtain⟨K,d,I,J,G,e,s,h⟩:=p;obtain⟨x,F,b⟩:=dS e;refine tOf.at F s λv u t E A y=>?_
  cases x with
  | obj r m o=>
    change (if r=c then (m.zip o).lookup f else none)=some d at b
    by_cases i:r=c
    .rw[if_pos i]at b
     subst i;obtain⟨a,C,w,M,rfl,n,g,l,q⟩:=A;obtain⟨v,z,B⟩:=q.look b;exact⟨a,C,w,_,v,rfl,y.seen _ _ g,(k C n).1,(k C n).2,z,h v u t E B⟩
    .rw[if_neg i]at b
     cases b
  | _=>cases b⟩
theorem qP{j k:Nat}{ps:AJ}{u:AN->Option D}{pl:Sem Bool}(O:gk X.prog X.w X.K X.mg X.base j c m ps (cx X.K 1 u))(R:Room k X.A)(r:ZE X o fo)(K:j<=k:=by first|exact qv _|lia)(V:eval (.Call (.Attribute o m apos) [] [] pos) X.env=(do
  let A <-eval o X.env
  standAt apos.atName
  let (f,first) <-holding [A] (getMethod A m pl)
  callWith pos f first (backTo pos (starEach [] X.env)) (backToKw pos (keywordEach [] X.env))):=by rfl):ZE X (.Call (.Attribute o m apos) [] [] pos) (b1 fo (cA c m u)):=⟨have r:=r.un;by
 intro pins s σ H Q I i;obtain⟨ρ,d,W,G0,G,e,P,h⟩:=i;obtain⟨x,J,b⟩:=dS e
 cases x with
 | obj t ks vs=>
   change (if t=c/\m∉ks then u _ else none)=some d at b
   by_cases p:t=c/\m∉ks
   .rw[if_pos p]at b
    obtain⟨rfl,B⟩:=p;obtain⟨C,f,Y,F,hb,z,L,M⟩:=O;refine Ru r L M F (R.mono K) hb .nil tQ V _ s σ H Q I (tOf.at J P λv Z N U S w=>?_);obtain⟨a,C',y,xs,rfl,n,g,l,q⟩:=S;rw[z]at n;cases n;refine⟨a,y,_,rfl,w.seen _ _ g,E_ B,⟨rfl,[_],d,N,w.seen,.one ?_,b,λv H' G' E T=>h v H' G' (U.trans E) T⟩⟩;exact⟨a,C,y,xs,rfl,z,g,l,q⟩
   .rw[if_neg p]at b
    cases b
 | _=>cases b⟩
end
def Mq(K:W7)(c m q:Str)(st:Stmt):Prop:=∃C f b,W.nsIn K mainGlobals c=some (some (.ref C))/\Cls K C/\eX K C m f/\Fun K m q st f b
def mq_mk{K:W7}{c m q:Str}{st:Stmt}{C f:Addr}{o:Value}{s p:Option Addr}{e:Array (Option Value)}{kV g u d w:Value}(a:W.nsIn K mainGlobals c=some (some (.ref C)))(v:W.plainGet K C Str.empty=true)(r:W.hasDictIn K C=true)(j:W.plainOver K C=true)(t:W.findIn K (.ref C) "__setattr__"=some (some (.builtin "object.__setattr__")))(i:W.findIn K (.ref C) m=some (some (.ref f)))(n:W.isFn K (.ref f)=true)(l:K.lookup f=some ⟨o,s,.func (W.fnOf m q (aGa st) (aFa st) (aDa st) .none kV g u p d w),e⟩)(h:W.codeIn K d q=true)(k:W.keepIn K (.ref f)=true):Mq K c m q st:=
 ⟨C,f,_,a,⟨v,r,j,t⟩,⟨i,n,k⟩,nG l h k⟩
def Nq(K:W7)(c f:Str):Prop:=∃C,W.nsIn K mainGlobals c=some (some (.ref C))/\Cls K C/\NoAttr K C f
def nq_mk{K:W7}{c f:Str}{C:Addr}(a:W.nsIn K mainGlobals c=some (some (.ref C)))(g:W.plainGet K C Str.empty=true)(h:W.hasDictIn K C=true)(e:W.plainOver K C=true)(d:W.findIn K (.ref C) "__setattr__"=some (some (.builtin "object.__setattr__")))(n:W.findIn K (.ref C) f=some none):Nq K c f:=
 ⟨C,a,⟨g,h,e,d⟩,n⟩
def Nq.cf{K:W7}{c f:Str}(h:Nq K c f):CF K c f:=λC e=>by
 obtain⟨g,a,d,n⟩:=h;rw[a]at e;cases e;exact⟨d,n⟩
def Fe(x q:Str)(st:Stmt)(h:AJ):Prop:=∀(kV a e:Value) (d:Option _) (c f:Value) (b:List _),b.length=h.length->bindArgs (W.fnOf x q (aGa st) (aFa st) (aDa st) .none kV a e d c f) ⟨b,[]⟩=pure (h.zip b)
section
variable {P:P7}{w:World}{K:W7}{mg:AD}{base:Heap}
theorem kE{c x q:Str}{st:Stmt}{k n m:Nat}{N r:AJ}{fb:AR}(F:Mq K c x q st)(S:dE N r (aDa st))(t:∀{f:Addr}{d:Value}{A:Around}{b:List Env}{s:Shared}{H:Hp}{E:XK},Room k (A.deeper (envOfC q (aDa st) (~~~s) f d))->ZB (ck cK P w K mg base N q (aDa st) f d A b s H E).nox (aFa st) fb)(j:N.length=n:=by rfl)(h:r.length=m:=by rfl)(B:Fe x q st r:=by(intro _ _ _ _ _ _ us e;first|(obtain⟨_,rfl⟩:=il e;rfl)|(obtain⟨_,_,rfl⟩:=gh e;rfl)|(obtain⟨_,_,_,rfl⟩:=fA e;rfl))):gk P w K mg base (k+1) c x r (cx K m (aj m n fb)):=by
 obtain⟨C,f,o,a,p,i,g⟩:=F;exact⟨C,f,o,DL g S j h λ_ _ _ _ _ _ l=>t l,g.binds B,a,p,i⟩
end
section
variable {X:Cx}{a:Expr}{fa:AU}{pos px:Pos}{x:Str}{ks:AJ}
theorem Ff(r:X.A.units+64<cLine){p:Addr}{o:Obj}{its:Array Value}{n:Nat}(l:X.K.lookup p=some o)(d:o.cls=.type "tuple")(f:o.data=.seq its n)(hs:ki its.toList ks):bp X (compareOp .In) (CM p ks false):=by
 intro b s z H x y v u Q I g m h;obtain⟨k,rfl,i,rfl,q⟩:=h;cases m;obtain⟨t,rfl⟩:=g;obtain⟨w,j,c⟩:=Mm hs;refine SeqAt.in_tuple_reads (.tuple (I.kIn p o l) d f j) (.str k t) (by simpa [PyData.canLay0]using c) (by simp[PyData.canLay0,i]) ?_ ⟨.bl _,H,I,rfl,?_⟩
 .have e:(PyData.str k).depth=0:=by simp[PyData.depth]
  lia
 .rw[Mn]
  have e:decide (k∈ks)=(decide (k∈ks)!=false):=by cases decide (k∈ks)<;>rfl
  rwa [e]
theorem Fg(E:X.A.units+64<cLine)(g:GT X.K X.mg x ks)(r:Gl X x)(u:ZC X a fa)(C:behindInMarks .In (.Name x px)=false:=by with_unfolding_all rfl)(t:cv x:=by decide):ZE X (.Compare a [.In] [.Name x px] pos) (mB (b1 fa (CL false ks))):=by
 obtain⟨p,o,D,n,j,z,q,f,K⟩:=g;refine⟨PE.imp (Kx (Ff E z q f K) u.un (Kk (v:=.ref p) r j rfl t) C) λM H Q i=>?_⟩;obtain⟨L,b,F,I,G,e,s,h⟩:=i;obtain⟨k,B,rfl⟩:=t_ e;obtain⟨d,w,c⟩:=dS B;refine tCof.at w s λv y m A l J=>?_;unfold CL at c
 split at c
 .rename_i k
  cases c;exact⟨k,l.1,l.2,rfl,h _ y m A (by rw[Rp])⟩
 .cases c
end
section
variable {K:W7}
inductive HS where
 | bls (t:AG)
 | ins (c:Str) (C dx:Addr) (ks:AJ) (vs:AM) (ds:AN)
abbrev Hs:=Addr->Option HS
def HS.ho:HS->HO
 | .bls t=>.lst (t.map .bl)
 | .ins _ C a c b _=>.ins C a (c.zip b)
def HS.d:HS->D
 | .bls t=>.lst (t.map .bl)
 | .ins c _ _ b _ a=>.obj c b a
def HS.ok(K:W7)(G:Hp):HS->Prop
 | .bls _=>True
 | .ins c C _ b a d=>W.nsIn K mainGlobals c=some (some (.ref C))/\a.length=b.length/\RpL K G d a
theorem HS.ok.mono{G d:Hp}(h:Same G d):∀{s:HS},s.ok K G->s.ok K d
 | .bls _,_=>trivial
 | .ins ..,⟨a,b,c⟩=>⟨a,b,c.mono h⟩
def pt(t:Hs)(a:Addr)(s:Option HS):Hs:=λb=>if b=a then s else t b
def dt{t:Hs}{a:Addr}{s:Option HS}:pt t a s a=s:=if_pos rfl
def bZ{t:Hs}{a b:Addr}{s:Option HS}(h:b≠a):pt t a s b=t b:=if_neg h
structure HW(K:W7)(t:Hs)(H G:Hp):Prop where
 g:∀a s,t a=some s->G a=none
 h:∀a s,t a=some s->H a=some s.ho
 ok:∀a s,t a=some s->s.ok K G
structure WH(K:W7)(t:Hs)(H0 G0:Hp)(σ:L2.St)(H G:Hp)(ρ:Ro):Prop where
 sr:SR K H0 G0 σ H G ρ
 h0:∀a s,t a=some s->H0 a=some s.ho
 g0:∀a s,t a=some s->G0 a=none
 ok:∀a s,t a=some s->s.ok K G
structure OffH(t t':Hs)(H0 H1:Hp):Prop where
 keep:∀a,t' a=none->H1 a=H0 a
 grow:∀a,t' a=none->t a=none
 new:∀a,t a=none->t' a≠none->H0 a=none
def OffH.refl{t:Hs}{H:Hp}:OffH t t H H:=⟨λ_ _=>rfl,λ_ h=>h,λ_ h a=>absurd h a⟩
def OffH.trans{t c f:Hs}{H e d:Hp}(a:OffH t c H e)(b:OffH c f e d):OffH t f H d:=
 ⟨λx h=>(b.keep x h).trans (a.keep x (b.grow x h)),λx h=>a.grow x (b.grow x h),λx h g=>by
  by_cases z:c x=none
  .rw[<-a.keep x z];exact b.new x z g
  .exact a.new x h z⟩
structure Aft(K:W7)(t t':Hs)(H G H' G':Hp):Prop where
 keep:∀a o,t a=none->H a=some o->H' a=some o
 grow:∀a,t' a=none->t a=none
 new:∀a,t a=none->t' a≠none->H a=none
 hw:HW K t' H' G'
 g:Same G G'
 s:Same G' H'
 n:∀a,G a=none->G' a≠none->H a=none
section
variable {t t':Hs}{H0 G0 H G H' G':Hp}{σ:L2.St}{ρ:Ro}
def WH.no(w:WH K t H0 G0 σ H G ρ){a:Addr}{s:HS}(e:t a=some s):G a=none:=by
 cases h:G a with
 | none=>rfl
 | some u=>
   have:=w.sr.gr.n a (w.g0 a s e) (by rw[h];exact λz=>nomatch z);rw[w.h0 a s e]at this;cases this
def WH.hw(w:WH K t H0 G0 σ H G ρ):HW K t H G:=⟨λ_ _ e=>w.no e,λa s e=>w.sr.gr.h _ _ (w.h0 a s e),w.ok⟩
def WH.grow(w:WH K t H0 G0 σ H G ρ)(g:Gr H G H' G'):WH K t H0 G0 σ H' G' ρ:=⟨w.sr.grow g,w.h0,w.g0,λa s e=>(w.ok a s e).mono g.g⟩
def WH.bare(w:WH K t H0 G0 σ H G ρ):WH K t H0 G0 [] H G []:=⟨.mkSh w.sr.gr rfl (λi d e=>by simp at e) (λi l e=>by simp at e) (λi t b a e=>by simp at e),w.h0,w.g0,w.ok⟩
theorem WH.after(w:WH K t H0 G0 σ H G ρ)(a:Aft K t t' H G H' G'):∃E,OffH t t' H0 E/\WH K t' E G0 σ H' G' ρ:=by
 have s:=w.sr
 have C:∀{b:Addr},H0 b=none->t b=none:=λ{b} h=>by
  cases z:t b with
  | none=>rfl
  | some x=>have:=w.h0 b x z;rw[h]at this;cases this
 have j:∀{b:Addr}{o:HO},_->_->_->_/\_/\_:=λ{b o} F q I=>by
  refine⟨?_,a.keep b o (C F) q,?_⟩
  .refine Classical.byContradiction λz=>?_
   have:=a.new b (C F) z;rw[q]at this;cases this
  .refine Classical.byContradiction λz=>?_
   have:=a.n b I z;rw[q]at this;cases this
 refine⟨λb=>if t' b=none then H0 b else H' b,⟨λb h=>if_pos h,a.grow,λb h N=>s.gr.h.free (a.new b h N)⟩,⟨⟨λb u e=>?_,s.gr.g.trans a.g,a.s,λb h N=>?_⟩,s.len,λi d e=>?_,λi l e=>?_,s.ap,λi J R S e=>?_,s.apd⟩,λb x e=>?_,λb x e=>(s.gr.g.trans a.g).free (a.hw.g b x e),a.hw.ok⟩
 .by_cases z:t' b=none
  .simp [if_pos z]at e
   exact a.keep b u (a.grow b z) (s.gr.h b u e)
  .simp [if_neg z]at e
   exact e
 .have z:t' b=none:=by
   cases z:t' b with
   | none=>rfl
   | some x=>exact absurd (a.hw.g b x z) N
  rw[if_pos z];by_cases y:G b=none
  .exact s.gr.h.free (a.n b y N)
  .exact s.gr.n b h y
 .obtain⟨v,g,k⟩:=s.sh i d e
  exact⟨v,g,k.mono a.g⟩
 .obtain⟨b,Q,g,k,f,m,r⟩:=s.ow i l e
  obtain⟨n,p,B⟩:=j f m k;exact⟨b,Q,g,B,by rwa [if_pos n],p,r.mono a.g⟩
 .obtain⟨b,A,O,g,k,f,m,r,L⟩:=s.od i J R S e
  obtain⟨o,D,_⟩:=m.some;obtain⟨n,p,B⟩:=j f D k;exact⟨b,A,O,g,B,by rwa [if_pos n],m.mono a.g λM z=>by rw[D]at z;rwa [p],r.mono a.g,L.mono a.g⟩
 .rw[if_neg (by rw[e];exact λz=>nomatch z)]
  exact a.hw.h b x e
def WH.aft(w:WH K t' H0 G0 σ H G ρ){c d:Hp}(o:OffH t t' c H0)(g:d=G0):Aft K t t' c d H G:=by
 subst g;refine⟨λa u h e=>?_,o.grow,o.new,w.hw,w.sr.gr.g,w.sr.gr.s,λa h i=>?_⟩
 .by_cases z:t' a=none
  .exact w.sr.gr.h a u (by rwa [o.keep a z])
  .have:=o.new a h z
   rw[e]at this;cases this
 .have b:=w.sr.gr.n a h i
  by_cases z:t' a=none
  .rwa [<-o.keep a z]
  .obtain⟨x,f⟩:=Option.ne_none_iff_exists'.mp z
   rw[w.h0 a x f]at b;cases b
theorem WH.rebase(w:WH K t H0 G0 σ H G ρ):∃J,WH K t J G σ H G ρ/\∀t' v σ' H' G' ρ',OffH t t' J v->WH K t' v G σ' H' G' ρ'->∃L,OffH t t' H0 L/\WH K t' L G0 σ' H' G' ρ':=by
 classical
 have s:=w.sr
 let d:=λa=>∃(i:Nat),((∃l:AN,ρ[i]?=some (some (.ow l)))\/(∃t N O,ρ[i]?=some (some (.od t N O))))/\σ[i]?=some (some (.ref a))
 have E:∀a,d a->_/\_:=λa M=>by
  obtain⟨i,R,T⟩:=M;rcases R with⟨l,R⟩|⟨t,N,O,R⟩
  .obtain⟨b,S,c,g,k,_⟩:=s.ow i l R
   rw[T]at c;cases c;exact⟨k,g⟩
  .obtain⟨b,m,B,c,g,k,_⟩:=s.od i t N O R
   rw[T]at c;cases c;exact⟨k,g⟩
 have n:∀a,(if d a then none else H a)=none->_:=λa h=>by
  by_cases o:d a
  .exact(E a o).1
  .rw[if_neg o]at h;exact s.gr.h.free h
 refine⟨λa=>if d a then none else H a,⟨⟨⟨λb o e=>?_,.refl _,s.gr.s,λ_ h Q=>absurd h Q⟩,s.len,s.sh,λi l e=>?_,s.ap,λi t N O e=>?_,s.apd⟩,λa x e=>?_,λa x e=>w.no e,w.ok⟩,λt' v σ' H' G' ρ' f A=>?_⟩
 .by_cases z:d b
  .simp only[if_pos z]at e;cases e
  .simp [if_neg z]at e;exact e
 .obtain⟨a,S,c,g,k,p,F⟩:=s.ow i l e
  exact⟨a,S,c,g,if_pos ⟨i,.inl ⟨l,e⟩,c⟩,p,F⟩
 .obtain⟨a,m,B,c,g,k,p⟩:=s.od i t N O e
  exact⟨a,m,B,c,g,if_pos ⟨i,.inr ⟨t,N,O,e⟩,c⟩,p⟩
 .have z:¬d a:=λz=>by
   have:=(E a z).1;rw[w.h0 a x e]at this;cases this
  rw[if_neg z];exact w.hw.h a x e
 .have j:=A.sr
  have r:∀a,v a=none->(if t' a=none then H0 a else v a)=none:=λa h=>by
   by_cases z:t' a=none
   .rw[if_pos z]
    rw[f.keep a z]at h;exact n a h
   .rw[if_neg z];exact h
  refine⟨λa=>if t' a=none then H0 a else v a,⟨λa h=>if_pos h,f.grow,λa h Q=>n a (f.new a h Q)⟩,⟨⟨λb u e=>?_,s.gr.g.trans j.gr.g,j.gr.s,λb h Q=>?_⟩,j.len,j.sh,λi l e=>?_,j.ap,λi C N O e=>?_,j.apd⟩,λa x e=>?_,λa x e=>s.gr.g.free (A.g0 a x e),A.ok⟩
  .refine j.gr.h b u ?_
   by_cases z:t' b=none
   .simp [if_pos z]at e
    rw[f.keep b z]
    have I:¬d b:=λq=>by rw[(E b q).1]at e;cases e
    rw[if_neg I];exact s.gr.h b u e
   .simp [if_neg z]at e;exact e
  .by_cases z:G b=none
   .exact r b (j.gr.n b z Q)
   .have q:=s.gr.n b h z
    have I:t' b=none:=by
     cases y:t' b with
     | none=>rfl
     | some x=>exact absurd (A.g0 b x y) z
    rw[if_pos I];exact q
  .obtain⟨a,S,c,g,k,p,F⟩:=j.ow i l e
   exact⟨a,S,c,g,r a k,p,F⟩
  .obtain⟨a,m,B,c,g,k,p⟩:=j.od i C N O e
   exact⟨a,m,B,c,g,r a k,p⟩
  .rw[if_neg (by rw[e];exact λz=>nomatch z)]
   exact A.h0 a x e
end
def ContH(K:W7)(t:Hs)(c b:Hp)(F:dD):cb Hs->Prop
 | .nx g h=>∀e f i a,OffH t h c a->WH K h a b e f i g->F.nx e f
 | .rt d h=>∀v f i a,OffH t h c a->WH K h a b [] f i []->Rp K i d v->F.rt v f
 | .bk g h=>∀e f i a,OffH t h c a->WH K h a b e f i g->F.bk e f
 | .ct g h=>∀e f i a,OffH t h c a->WH K h a b e f i g->F.ct e f
def ContH.off{t t':Hs}{i h e:Hp}{F:dD}{o:cb Hs}(f:OffH t t' i e)(c:ContH K t i h F o):ContH K t' e h F o:=by
 cases o with
 | nx m b=>exact λj k l a g w=>c j k l a (f.trans g) w
 | rt d b=>exact λv k l a g w=>c v k l a (f.trans g) w
 | bk m b=>exact λj k l a g w=>c j k l a (f.trans g) w
 | ct m b=>exact λj k l a g w=>c j k l a (f.trans g) w
abbrev Hm:=Ro->Hs->(cb Hs->Prop)->Prop
abbrev He:=Ro->Hs->(D->Hs->Prop)->Prop
abbrev Ha:=Ro->Hs->(AN->Hs->Prop)->Prop
def qQ(K:W7)(f:Hm):TS:=λF d H=>∃c t b a G Q,WH K t b a d H G c/\f c t Q/\∀o,Q o->ContH K t b a F o
def Us(K:W7)(f:He):TE:=λi H Q=>∃e t c a G R,WH K t c a i H G e/\f e t R/\∀d h,R d h->∀v j g b,OffH t h c b->WH K h b a i j g e->Same G g->Rp K g d v->Q v j
def Ut(K:W7)(f:Ha):TA:=λk H Q=>∃g t c a G R,WH K t c a k H G g/\f g t R/\∀j e,R j e->∀h i d b,OffH t e c b->WH K e b a k i d g->Same G d->RpL K d j h->Q h i
def Uu(K:W7)(f:Ro->Hs->Option Bool):TT:=λe H Q=>∃c t k b a G,f c t=some k/\WH K t b a e H G c/\∀d g,Gr H G d g->Q k d
structure fJ(X:Cx)(st:Stmt)(f:Hm):Prop where
 un:PS X st (qQ X.K f)
structure fL(X:Cx)(sts:List Stmt)(f:Hm):Prop where
 un:PSs X sts (qQ X.K f)
structure ji(X:Cx)(e:Expr)(f:He):Prop where
 un:PE X e (Us X.K f)
structure ZHA(X:Cx)(es:AK)(f:Ha):Prop where
 un:PA X es (Ut X.K f)
structure Fh(X:Cx)(e:Expr)(f:Ro->Hs->Option Bool):Prop where
 un:PT X e (Uu X.K f)
def Fi(t:Hs):eY->cb Hs
 | .nx a=>.nx a t
 | .rt d=>.rt d t
 | .bk a=>.bk a t
 | .ct a=>.ct a t
def fM(f:AR):Hm:=λa t Q=>∃o,f a=some o/\Q (Fi t o)
def iy:Hm:=λa t Q=>Q (.nx a t)
def bz(f g:Hm):Hm:=λb t Q=>f b t fun
 | .nx a c=>g a c Q
 | o=>Q o
def v7(c:Ro->Hs->Option Bool)(f g:Hm):Hm:=λa t Q=>∃k,c a t=some k/\((k=true->f a t Q)/\(k=false->g a t Q))
def eF(gt:AS)(fb:Hm):AN->Hm
 | [],ρ,t,Q=>Q (.nx ρ t)
 | d::ds,ρ,t,Q=>∃c,gt d ρ=some c/\fb c t fun
   | .nx a b=>eF gt fb ds a b Q
   | .ct a b=>eF gt fb ds a b Q
   | .bk a b=>Q (.nx a b)
   | .rt d b=>Q (.rt d b)
def kF(a:AV)(gt:AS)(fb:Hm):Hm:=λb t Q=>∃c,a b=some c/\eF gt fb c b t Q
section
variable {X:Cx}{st:Stmt}{sts:List Stmt}{fs gs:Hm}{pos:Pos}{tg:Expr}{gl:AV}
theorem kG{f:AR}(h:ZS X st f):fJ X st (fM f):=⟨PS.imp h.un λF E H z=>by
 obtain⟨B,t,I,D,G,Q,w,⟨o,C,q⟩,c⟩:=z;obtain⟨A,x,u⟩:=w.rebase;have c:=c _ q;refine⟨B,o,A,G,G,C,x.sr,?_⟩;have y:=λ{σ' b j ρ'} k=>u t A σ' b j ρ' .refl ⟨k,x.h0,x.g0,λa s e=>(x.ok a s e).mono k.gr.g⟩
 cases o with
 | nx ρ'=>
   exact λσ' b j k=>by
    obtain⟨p,m,n⟩:=y k;exact c σ' b j p m n
 | rt d=>
   exact λv b j g r=>by
    obtain⟨p,m,n⟩:=y (σ':=[]) (ρ':=[]) (.mkSh g rfl (λi d e=>by simp at e) (λi l e=>by simp at e) (λi t K J e=>by simp at e));exact c v b j p m n r
 | bk ρ'=>
   exact λσ' b j k=>by
    obtain⟨p,m,n⟩:=y k;exact c σ' b j p m n
 | ct ρ'=>
   exact λσ' b j k=>by
    obtain⟨p,m,n⟩:=y k
    exact c σ' b j p m n⟩
def Nw:fL X [] iy:=⟨PSs.imp Km λF e H a=>by
 obtain⟨f,t,b,d,G,Q,w,q,c⟩:=a
 exact c _ q e H G b .refl w⟩
def v8(h:fJ X st fs):fL X [st] fs:=⟨Ko h.un⟩
def gM(h:fJ X st fs)(l:fL X sts gs):fL X (st::sts) (bz fs gs):=⟨PSs.imp (Kn h.un l.un) λF u H b=>by
 obtain⟨p,t,j,e,G,Q,w,q,c⟩:=b;refine⟨p,t,j,e,G,_,w,q,λo a=>?_⟩
 cases o with
 | nx m n=>exact λr v s k f i=>⟨m,n,k,e,s,Q,i,a,λo g=>(c o g).off f⟩
 | rt d n=>exact c _ a
 | bk m n=>exact c _ a
 | ct m n=>exact c _ a⟩
def qR{c:Expr}{a b:List Stmt}{fc:Ro->Hs->Option Bool}(j:Fh X c fc)(n:fL X a fs)(q:fL X b gs):fJ X (.If c a b pos) (v7 fc fs gs):=⟨PS.imp (mQ j.un n.un q.un) λF r H d=>by
 obtain⟨p,t,e,f,G,Q,w,⟨k,m,i,l⟩,c⟩:=d;refine⟨p,t,k,e,f,G,m,w,λo h g=>?_⟩
 cases k with
 | true=>exact Ai ⟨p,t,e,f,h,Q,w.grow g,i rfl,c⟩
 | false=>exact Ah ⟨p,t,e,f,h,Q,w.grow g,l rfl,c⟩⟩
theorem Fj{b:Expr}{g:List Stmt}{gt:AS}(hp:PassesOwn (mZ X.prog X.w) X.A X.env X.xe)(U:X.calm=true)(ua:ZI X tg b gl)(hg:ZG X tg gt)(hb:fL X g fs)(hs:∀x,foldedSetIterable b X.env x=pure x:=by intro _;rfl):fJ X (.For tg b g [] pos) (kF gl gt fs):=
 ⟨PS.imp (mW hp U ua.un hg.un hb.un hs) λF σ H M=>by
  obtain⟨ρ,t,H0,G0,G,Q,w,⟨ds,T,h2⟩,c⟩:=M;refine⟨ρ,ds,H0,G0,G,T,w.sr,λJ H1 A g1 S=>?_⟩;obtain⟨N,Z,a⟩:=(w.grow g1).rebase;refine⟨λi m σ' H'=>m=ds.length-i/\i<=ds.length/\∃K t' G' h,OffH t t' N h/\WH X.K t' h A σ' H' G' K/\eF gt fs (ds.drop i) K t' Q,⟨_,rfl,Qh _,ρ,t,A,N,.refl,Z,h2⟩,?_⟩;rintro i m σ' H' ⟨rfl,ua,K,t',G',h,fc,E,p⟩;have W:=S.2 i H' G' E.sr.gr.g E.sr.seen;by_cases e:i<ds.length
  .obtain⟨go,Y⟩:=W.1 _ (qr e)
   rw[List.drop_eq_getElem_cons e]at p;obtain⟨B,e1,p⟩:=p;refine .inr ⟨go,λσ' H'=>i+1<=ds.length/\∃K t' G' h,OffH t t' N h/\WH X.K t' h A σ' H' G' K/\eF gt fs _ K t' Q,λσ2 R q=>⟨ds.length-(i+1),by lia,rfl,q.1,q.2⟩,λx R y=>?_⟩;obtain⟨O,g2,V⟩:=Y x R y;have I:=E.grow g2;refine⟨_,K,B,h,A,O,e1,I.sr,V,λσ3 s3=>⟨B,t',h,A,O,_,⟨s3,I.h0,I.g0,I.ok⟩,p,λo L=>?_⟩⟩
   cases o with
   | nx f C=>exact λl z n r k j=>⟨e,f,C,n,r,fc.trans k,j,L⟩
   | ct f C=>exact λl z n r k j=>⟨e,f,C,n,r,fc.trans k,j,L⟩
   | bk f C=>
     exact λl z n r k j=>by
      obtain⟨He,u,s⟩:=a _ _ _ _ _ _ (fc.trans k) j;exact c _ L l z n He u s
   | rt d C=>
     exact λv z n r k j r4=>by
      obtain⟨He,u,s⟩:=a _ _ _ _ _ _ (fc.trans k) j;exact c _ L v z n He u s r4
  .have ei:i=ds.length:=by lia
   subst ei;rw[List.drop_length]at p;obtain⟨He,u,s⟩:=a _ _ _ _ _ _ fc E
   exact .inl ⟨W.2 (qv _),c _ p σ' H' G' He u s⟩⟩
end
end
section
variable {K:W7}
mutual
def aO(t:Hs):D->D
 | .non=>.non
 | .bl b=>.bl b
 | .int i=>.int i
 | .str x=>.str x
 | .tup l=>.tup (du t l)
 | .lst l=>.lst (du t l)
 | .scr ns=>.scr ns
 | .dct b ks vs=>.dct b ks vs
 | .obj c ks vs=>.obj c ks (du t vs)
 | .adr a=>match t a with
   | some s=>s.d
   | none=>.adr a
def du(t:Hs):AN->AN
 | []=>[]
 | d::l=>aO t d::du t l
end
def Nx(t:Hs):B->B
 | .sh d=>.sh (aO t d)
 | .ow l=>.ow l
 | .od b c a=>.od b c a
def d9(t:Hs)(ρ:Ro):Ro:=ρ.map (.map (Nx t))
def jj(t:Hs)(G:Hp):Hp:=λa=>match t a with
 | some s=>some s.ho
 | none=>G a
section
variable {t:Hs}{G:Hp}
def v9{a:Addr}{s:HS}(h:t a=some s):jj t G a=some s.ho:=by unfold jj;rw[h]
def kH{a:Addr}(h:t a=none):jj t G a=G a:=by unfold jj;rw[h]
def HW.same{H:Hp}(w:HW K t H G):Same G (jj t G):=λa o e=>by
 cases h:t a with
 | none=>rwa [kH h]
 | some s=>rw[w.g a s h]at e;cases e
mutual
theorem Rp.thaw{H:Hp}(w:HW K t H G):∀{d:D}{v:V},Rp K G d v->Rp K (jj t G) (aO t d) v
 | .non,_,r=>r.mono w.same
 | .bl _,_,r=>r.mono w.same
 | .int _,_,r=>r.mono w.same
 | .str _,_,r=>r.mono w.same
 | .tup l,_,r=>by
   obtain⟨a,xs,e,g,q⟩:=r;exact⟨a,xs,e,w.same _ _ g,RpL.thaw w q⟩
 | .lst l,_,r=>by
   obtain⟨a,xs,e,g,q⟩:=r;exact⟨a,xs,e,dI w.same g,RpL.thaw w q⟩
 | .scr _,_,r=>r.mono w.same
 | .dct _ _ _,_,r=>r.mono w.same
 | .obj c ks vs,_,r=>by
   obtain⟨a,C,b,xs,e,n,g,l,q⟩:=r;exact⟨a,C,b,xs,e,n,w.same _ _ g,l,RpL.thaw w q⟩
 | .adr a,_,r=>by
   subst r;rw[aO]
   cases h:t a with
   | none=>rw[Rp]
   | some s=>
     cases s with
     | bls y=>
       exact⟨a,y.map V.bl,rfl,.inl (v9 h),Nu y⟩
     | ins c C b ks vs ds=>
       obtain⟨i,f,j⟩:=w.ok a _ h;exact⟨a,C,b,vs,rfl,i,v9 h,f,j.mono w.same⟩
theorem RpL.thaw{H:Hp}(w:HW K t H G):∀{l:AN}{xs:AM},RpL K G l xs->RpL K (jj t G) (du t l) xs
 | [],_,r=>by subst r;exact .nil
 | d::l,_,r=>by
   obtain⟨x,xs,rfl,g,q⟩:=r;exact .cons (Rp.thaw w g) (RpL.thaw w q)
end
def kI{ρ:Ro}{j:Nat}{b:B}(h:(d9 t ρ)[j]?=some (some b)):∃a,ρ[j]?=some (some a)/\Nx t a=b:=by
 unfold d9 at h;rw[Qm]at h;obtain⟨o,e,d⟩:=qc h;obtain⟨a,rfl,c⟩:=qc d;exact⟨a,e,c⟩
theorem WH.thaw{E J H:Hp}{σ:L2.St}{ρ:Ro}(w:WH K t E J σ H G ρ):∃P,SR K P J σ H (jj t G) (d9 t ρ):=by
 have s:=w.sr
 have p:∀{b:Addr},E b=none->t b=none:=λ{b} h=>by
  cases z:t b with
  | none=>rfl
  | some x=>have:=w.h0 b x z;rw[h]at this;cases this
 refine⟨λa=>if t a=none then E a else none,⟨⟨λb o e=>?_,s.gr.g.trans w.hw.same,λb o e=>?_,λb h h'=>?_⟩,by unfold d9;rw[qf];exact s.len,λj d e=>?_,λj l e=>?_,λj k l V a b f c D A I=>?_,λj M ks vs e=>?_,λj k R Y S U X T a b f c D A I=>?_⟩⟩
 .by_cases z:t b=none
  .simp [if_pos z]at e;exact s.gr.h b o e
  .simp only[if_neg z]at e;cases e
 .cases z:t b with
  | none=>rw[kH z]at e;exact s.gr.s b o e
  | some x=>rw[v9 z]at e;rw[<-e];exact w.hw.h b x z
 .cases z:t b with
  | none=>
    rw[kH z]at h';exact s.gr.n b h h'
  | some x=>exact if_neg (λy=>nomatch y)
 .obtain⟨i,f,c⟩:=kI e
  cases i with
  | sh C=>
    cases c;obtain⟨v,m,n⟩:=s.sh j C f;exact⟨v,m,n.thaw w.hw⟩
  | ow l=>cases c
  | od b ks vs=>cases c
 .obtain⟨i,f,c⟩:=kI e
  cases i with
  | sh C=>cases c
  | ow L=>
    cases c;obtain⟨a,xs,m,n,g,u,B⟩:=s.ow j l f;exact⟨a,xs,m,by rwa [kH (p g)],by rwa [if_pos (p g)],u,B.mono w.hw.same⟩
  | od b ks vs=>cases c
 .obtain⟨b1,e1,e2⟩:=kI f
  obtain⟨b2,r,F⟩:=kI c;cases b1<;>cases e2;cases b2<;>cases F;exact s.ap j k _ _ a b e1 r D A I
 .obtain⟨i,f,c⟩:=kI e
  cases i with
  | sh C=>cases c
  | ow L=>cases c
  | od i O N=>
    cases c;obtain⟨a,q,Z,m,n,g,u,B,Q⟩:=s.od j M ks vs f;exact⟨a,q,Z,m,by rwa [kH (p g)],by rwa [if_pos (p g)],u.mono w.hw.same λ_ z=>z,B.mono w.hw.same,Q.mono w.hw.same⟩
 .obtain⟨b1,e1,e2⟩:=kI f
  obtain⟨b2,r,F⟩:=kI c;cases b1<;>cases e2;cases b2<;>cases F;exact s.apd j k _ _ _ _ _ _ a b e1 r D A I
end
def v_(f:AU):He:=λa t Q=>∃d,f (d9 t a)=some d/\h_ d=true/\Q d t
def wA(f:AT):Ro->Hs->Option Bool:=λa t=>f (d9 t a)
def iA(i:Nat)(f:He):Hm:=λa t Q=>f a t λd b=>Q (.nx (a.set i (↑d)) b)
def kJ(f:He):Hm:=λa t Q=>f a t λd b=>Q (.rt d b)
def Ny(f:He):Hm:=λa t Q=>f a t λ_ b=>Q (.nx a b)
section
variable {X:Cx}{e c:Expr}{es:AK}{f:AU}{fe:He}{ga:Ha}{pos p1:Pos}{st:Stmt}{fs:Hm}
def Nz(h:ZE X e f):ji X e (v_ f):=⟨PE.imp h.un λp H Q a=>by
 obtain⟨o,t,j,b,G,R,w,⟨d,i,n,q⟩,k⟩:=a;obtain⟨m,l⟩:=w.thaw
 exact⟨_,d,m,b,_,i,l,λv c s g r=>k d t q v c G j .refl (w.grow (.back w.sr.seen g)) (.refl _) (r.scal n)⟩⟩
def NA{fc:AT}(h:ZT X c fc):Fh X c (wA fc):=⟨PT.imp h.un λm H Q a=>by
 obtain⟨n,t,k,j,b,G,e,w,q⟩:=a;obtain⟨d,i⟩:=w.thaw
 exact⟨_,k,d,b,_,e,i,λf l g=>q f G (.back w.sr.seen g)⟩⟩
theorem NB(i:Nat){y:Str}(j:X.N.Nodup)(h:ji X e fe)(m:X.N[i]?=some y:=by rfl)(r:c9 X.env.scope y:=by trivial)(b:swapsWith e (some (.Name y p1)) pos.line X.env=pure false:=by rfl)(o:X.fn y=true\/X.env.scope.names.lookup y=some .local:=by trivial):fJ X (.Assign [.Name y p1] e pos) (iA i fe):=⟨PS.imp (jC j m r h.un b o) λF C H g=>by
 obtain⟨z,t,n,u,G,Q,w,q,c⟩:=g
 exact⟨z,t,n,u,G,_,w,q,λd B k v A f l s a x p=>c _ k _ A f l s ⟨a.sr.set_sh i p,a.h0,a.g0,a.ok⟩⟩⟩
def NC(h:ji X e fe):fJ X (.Return (some e) pos) (kJ fe):=⟨PS.imp (mP h.un) λF s H a=>by
 obtain⟨o,t,j,m,G,Q,w,q,c⟩:=a
 exact⟨o,t,j,m,G,_,w,q,λd r g v p f i l k n b=>c _ g v p f i l k.bare b⟩⟩
def Fl(h:ji X e fe)(b:swapsWith e none pos.line X.env=pure false:=by rfl):fJ X (.Expr e pos) (Ny fe):=⟨PS.imp (lA h.un b) λF p H a=>by
 obtain⟨f,t,j,g,G,Q,w,q,c⟩:=a
 exact⟨f,t,j,g,G,_,w,q,λd u l v s r i m k n o=>c _ l p s r i m k⟩⟩
end
def kK(K:W7)(n:Nat)(m:AN->Hs->(D->Hs->Prop)->Prop):Sp:=λa H Q _=>a.length=n/\∃c t G R,RpL K G c a/\Same G H/\HW K t H G/\m c t R/\∀d b,R d b->∀v e f,Aft K t b H G e f->Rp K f d v->Q v e
def eG(n:Nat)(g:Hm)(b:AN)(t:Hs)(R:D->Hs->Prop):Prop:=g (Yd n b) t fun
 | .rt d a=>R d a
 | .nx _ a=>R .non a
 | _=>False
section
variable {P:P7}{w:World}{mg:AD}{base:Heap}{X:Cx}{k:Nat}{m:Str}{pos apos:Pos}{e o:Expr}{es:AK}{ta:TE}{t:TA}{ι:Type}{Cf:ι->Addr}{S:ι->Sp}
theorem ND{x b:Str}{st:Stmt}{f:Addr}{r:FuncData}{N U:AJ}{k n m:Nat}{g:Hm}(F:Fun K x b st f r)(S:dE N U (aDa st))(I:N.length=n)(u:U.length=m)(Y:∀(c:Value) (A:Around) (a:List Env) (s:Shared) (H:Hp) (E:XK),Room k (A.deeper (envOfC b (aDa st) (~~~s) f c))->fL (ck cK P w K mg base N b (aDa st) f c A a s H E).nox (aFa st) g):
 FnOk P w K mg base cK (k+1) f r U (kK K m (eG n g)):=by
 refine F.ok S (λV H Q E h=>by rw[h.1,u]) λc A a s H V Q E z h=>?_;obtain⟨J,ds,t,G,R,D,C,j,e,q⟩:=h;refine⟨_,(Y c A a s H E z).un,?_⟩
 have s0:SR K H G (start N V) H G (Yd n ds):=by
  rw[<-I];exact .start C D
 refine⟨_,t,H,G,G,_,⟨s0,j.h,j.g,j.ok⟩,e,λo i=>?_⟩
 cases o with
 | rt d M=>exact λv T O B p l y=>q d M i v T O (l.aft p rfl) y
 | nx L M=>exact λZ T O B p l=>q _ M i _ T O (l.aft p rfl) (by rw[Rp])
 | bk L M=>exact i.elim
 | ct L M=>exact i.elim
theorem Fm{Z:Sem Bool}(J:PE X o ta)(C:∀i:ι,∃f j U,Cls X.K (Cf i)/\eX X.K (Cf i) m f/\FnOk X.prog X.w X.K X.mg X.base cK k f j U (S i)/\Binds X.K j U [])(D:Room k X.A)(L:PA X (e::es) t)(p:starEach (e::es) X.env=(false,eval e X.env)::starEach es X.env:=by rfl)(g:(backTo pos (starEach es X.env)).any (·.1)=false:=by rfl)(P:eval (.Call (.Attribute o m apos) (e::es) [] pos) X.env=(do
  let B <-eval o X.env
  standAt apos.atName
  let (f,first) <-holding [B] (getMethod B m Z)
  callWith pos f first (backTo pos (starEach (e::es) X.env)) (backToKw pos (keywordEach [] X.env))):=by rfl):
 PE X (.Call (.Attribute o m apos) (e::es) [] pos) (λσ H Q=>ta σ H λx b=>∃i a w n,x=.ref a/\b a=some (.ins (Cf i) w n)/\n.lookup m=none/\t σ b λvs z=>S i (x::vs) z Q E0):=by
 intro V s σ H Q I h;refine W.methodCall_KW (az (J _ s σ H _ I h) λu R c=>?_) P;obtain⟨x,b,A,M,i,a,w,n,G,O,l,q⟩:=c;subst G;obtain rfl:=M;obtain⟨f,j,U,E,y,F,Y⟩:=C i;refine KD A O E y l (W.callWith_K I.ok.mod.kin y.kp (az (L pos _ R σ b _ A q) λus T d=>?_) p g);obtain⟨vs,z,v,r,N⟩:=d;refine⟨v.kIn,zF (vs:=.ref a::vs) F D Y .nil tQ v (.cons rfl r) ?_⟩
 rwa [w6]
end
abbrev Hf:=AN->Hs->(D->Hs->Prop)->Prop
def OkTb(P:P7)(w:World)(K:W7)(d:AD)(a:Heap)(k:Nat)(m:Str){b:Type}(sp:b->Sp):List (Str×b)->Prop
 | []=>True
 | (c,e)::r=>(∃ps,gk P w K d a k c m ps (sp e))/\OkTb P w K d a k m sp r
theorem OkTb.look{P:P7}{w:World}{g:AD}{a:Heap}{k:Nat}{m:Str}{b:Type}{sp:b->Sp}{c:Str}{f:b}:∀{d:List (Str×b)},OkTb P w K g a k m sp d->d.lookup c=some f->∃n,gk P w K g a k c m n (sp f)
 | [],_,e=>by cases e
 | (l,i)::r,h,e=>by
   rw[List.lookup_cons]at e
   split at e
   .rename_i j
    cases e;rw[eq_of_beq j];exact h.1
   .exact OkTb.look h.2 e
def qS(t:Hs):D->Option (Str×AJ)
 | .obj c b _=>some (c,b)
 | .adr a=>match t a with
   | some (.ins c _ _ b _ _)=>some (c,b)
   | _=>none
 | _=>none
def kL(m:Str)(e:List (Str×Hf))(f:AU)(b:AV):He:=λg t Q=>∃x j c i a R,f g=some x/\b g=some j/\qS t x=some (c,i)/\m∉i/\e.lookup c=some a/\a (x::j) t R/\∀d h,R d h->Q d h
section
variable {X:Cx}{e o:Expr}{es:AK}{fo:AU}{ga:AV}{p cpos apos:Pos}{m:Str}
theorem Fn{j k n:Nat}{Z:List (Str×Hf)}{pl:Sem Bool}(T:OkTb X.prog X.w X.K X.mg X.base j m (kK X.K (n+1)) Z)(hr:Room k X.A)(ho:ZE X o fo)(y:ZA X (e::es) ga)(hl:∀ρ ds,ga ρ=some ds->ds.length=n)(hj:j<=k:=by first|exact qv _|lia)(O:starEach (e::es) X.env=(false,eval e X.env)::starEach es X.env:=by rfl)(hpl:(backTo cpos (starEach es X.env)).any (·.1)=false:=by rfl)(ht:eval (.Call (.Attribute o m apos) (e::es) [] cpos) X.env=(do
  let ov <-eval o X.env
  standAt apos.atName
  let (f,first) <-holding [ov] (getMethod ov m pl)
  callWith cpos f first (backTo cpos (starEach (e::es) X.env)) (backToKw cpos (keywordEach [] X.env))):=by rfl):ji X (.Call (.Attribute o m apos) (e::es) [] cpos) (kL m Z fo ga):=by
 have hm:∀i:{ p:Addr×Hf // ∃c K f b,FnOk X.prog X.w X.K X.mg X.base cK j f b K (kK X.K (n+1) p.2)/\Binds X.K b K []/\W.nsIn X.K mainGlobals c=some (some (.ref p.1))/\Cls X.K p.1/\eX X.K p.1 m f },∃f b K,_/\_/\_/\_:=λi=>by
  obtain⟨c,K,f,b,F,hb,u,A,L⟩:=i.2;exact⟨f,b,K,A,L,F.mono hj,hb⟩
 refine⟨PE.imp (Fm ho.un hm hr y.un O hpl ht) λσ H Q I=>?_⟩;obtain⟨ρ,t,H0,G0,G,R,w,⟨x,ds,c,ks,fn,R',h1,Y,h,h4,h5,h6,h7⟩,kk⟩:=I;obtain⟨K,C,f,b,F,hb,u,A,L⟩:=T.look h5;refine tOf.at h1 w.sr λv H1 G1 D B M=>?_;have z:=w.grow D
 have E:∃a s xs,v=.ref a/\H1 a=some (.ins C s (ks.zip xs)):=by
  unfold qS at h
  split at h
  .cases h
   obtain⟨a,C',s,xs,rfl,S,g,l,q⟩:=B;rw[u]at S;cases S;exact⟨a,s,xs,rfl,M.seen _ _ g⟩
  .rename_i a
   split at h
   .rename_i c' C' s ks' vs ds' y
    cases h;subst B;obtain⟨o1,o2,o3⟩:=z.ok a _ y;rw[u]at o1;cases o1;exact⟨a,s,vs,rfl,z.hw.h a _ y⟩
   .cases h
  .cases h
 obtain⟨a,s,xs,rfl,N⟩:=E;refine⟨⟨(C,fn),c,K,f,b,F,hb,u,A,L⟩,a,s,_,rfl,N,E_ h4,tAof.at Y M λvs H2 G2 J U s2=>?_⟩;have w2:=z.grow J;refine⟨by rw[qt,U.length,hl ρ ds Y],x::ds,t,G2,R',.cons (B.mono J.g) U,s2.seen,w2.hw,h6,λd t' hd v H' G' V r=>?_⟩;obtain⟨H3,f3,w3⟩:=w2.after V;exact kk d t' (h7 d t' hd) v H' G' H3 f3 w3 ((D.g.trans J.g).trans V.g) r
end
end
section
variable {K:W7}
def qB:D->Bool
 | .adr _=>true
 | d=>dV d
def HS.pl:HS->Bool
 | .bls _=>true
 | .ins _ _ _ _ _ a=>a.all qB
def Rp.q{G e:Hp}(c:∀b ys,G b=some (HO.tup ys)->e b=some (HO.tup ys)){d:D}{v:V}(h:qB d=true)(r:Rp K G d v):Rp K e d v:=by
 cases d with
 | adr a=>exact r
 | _=>exact r.plain c h
theorem RpL.q{G c:Hp}(a:∀b ys,G b=some (HO.tup ys)->c b=some (HO.tup ys)):∀{l:AN}{xs:AM},l.all qB=true->RpL K G l xs->RpL K c l xs
 | [],_,_,r=>r
 | d::l,_,h,r=>by
   rw[List.all_cons,Qe]at h;obtain⟨x,xs,e,g,q⟩:=r;exact⟨x,xs,e,g.q a h.1,.q a h.2 q⟩
theorem HS.ok.q{G e:Hp}(d:∀b ys,G b=some (HO.tup ys)->e b=some (HO.tup ys)):∀{s:HS},s.pl=true->s.ok K G->s.ok K e
 | .bls _,_,_=>trivial
 | .ins ..,h,⟨a,b,c⟩=>⟨a,b,c.q d h⟩
def Fo(P:P7)(w:World)(K:W7)(b:AD)(a:Heap)(k n:Nat)(c:Str)(i:AJ)(e:AN)(m:Hf):Prop:=
 ∃C f d h g,W.nsIn K mainGlobals c=some (some (.ref C))/\b c=some (.ref C)/\Mk K C f/\FnOk P w K b a cK k f d i (kK K n m)/\Binds K d i h/\Vals g h/\∀G,RpL K G e g
def kM(c:Str)(shown:Bool)(g:AE)(i:AN)(f:AV)(m:Hf):He:=λn t Q=>∃j,f (frz g n)=some j/\∀x C e,t x=none->∃R,m (.adr x::(j++i)) (pt t x (some (.ins c C e [] [] []))) R/\
 ∀d h,R d h->(∀a s,h a=some s->t a=some s\/s.pl=true)/\d=.non/\(shown=false->Q (.adr x) h)/\(shown=true->∃k l b,h x=some (.ins c C e k l b)/\Q (.obj c k b) (pt h x none))
section
variable {X:Cx}{e:Expr}{es:AK}{ga:AV}{p cpos:Pos}{m:Hf}
theorem Fp(shown:Bool)(is:AE){k k' n:Nat}{c:Str}{ps:AJ}{K:AN}(O:Fo X.prog X.w X.K X.mg X.base k (n+1) c ps K m)(hr:Room k' X.A)(hg:Gl X c)(ha:ZA X (e::es) ga)(hl:∀ρ ds,ga ρ=some ds->ds.length+K.length=n)(hk:k+1<=k':=by first|exact qv _|lia)(hdb:(c==("__debug__":Str))=false:=by decide)(he:starEach (e::es) X.env=(false,eval e X.env)::starEach es X.env:=by rfl)(T:(backTo cpos (starEach es X.env)).any (·.1)=false:=by rfl):
 ji X (.Call (.Name c p) (e::es) [] cpos) (kM c shown is K ga m):=by
 obtain⟨C,f,fd,dfs,dfv,hC,hm,mk,F,hb,hdv,hdd⟩:=O;refine⟨PE.imp (zH (E:=E0) mk F (hr.mono hk) hg hm hb hdv tQ ha.un hdb he T) λσ H Q hx_=>?_⟩;obtain⟨ρ,t,H0,G0,G,R,w,⟨ds,h1,h2⟩,kk⟩:=hx_;obtain⟨Hb,wb,_⟩:=w.rebase;obtain⟨Gf,sf,ht⟩:=SR.frzT is wb.sr;have smf:Same G Gf:=sf.gr.g;refine tAof.at h1 sf λvs H1 V N r1 s1=>?_;intro x A hx0 W hne;have u:H x=none:=N.h.free hx0;have L:H A=none:=N.h.free W
 have hid1:=λa s e=>by
  have j:=w.hw.h a s e
  have h4:Gf a=none:=by
   refine Classical.byContradiction λz=>?_;have:=sf.gr.n a (w.no e) z;rw[wb.h0 a s e]at this;cases this
  refine Classical.byContradiction λz=>?_;have:=N.n a h4 z;rw[j]at this;cases this
 have tx:t x=none:=by
  cases z:t x with
  | none=>rfl
  | some s=>rw[w.hw.h x s z]at u;cases u
 have g1x:V x=none:=s1.seen.free hx0;have g1dx:V A=none:=s1.seen.free W;obtain⟨R',hi,hR⟩:=h2 x C A tx;refine⟨by rw[qt,qz,r1.length,(hdd V).length,hl _ ds h1],.adr x::(ds++K),_,V,R',.cons (by rw[Rp]) (r1.append (hdd V)),λa o g=>?_,⟨λa s e=>?_,λa s e=>?_,λa s e=>?_⟩,hi,λd t' hd v H' G' S rd=>?_⟩
 .have n1:a≠x:=λz=>by rw[z,g1x]at g;cases g
  have U:a≠A:=λz=>by rw[z,g1dx]at g;cases g
  rw[Yh n1,Yh U];exact s1.seen a o g
 .by_cases z:a=x
  .rw[z];exact g1x
  .rw[bZ z]at e;exact hid1 a s e
 .by_cases z:a=x
  .subst z
   rw[dt]at e;cases e;rw[Yg];rfl
  .rw[bZ z]at e
   have j:=N.h _ _ (w.hw.h a s e)
   have U:a≠A:=λy=>by rw[y,W]at j;cases j
   rw[Yh z,Yh U];exact j
 .by_cases z:a=x
  .subst z
   rw[dt]at e;cases e;exact⟨hC,rfl,.nil⟩
  .rw[bZ z]at e
   exact(w.ok a s e).mono (smf.trans N.g)
 obtain⟨T,rfl,hsf,hst⟩:=hR d t' hd;rw[Rp]at rd;subst rd;refine⟨rfl,?_⟩;have Z:∀a,a≠x->pt t x (some (HS.ins c C A [] [] [])) a=t a:=λa z=>bZ z
 have J:∀a,t a=none->t' a≠none->H a=none:=λa h h'=>by
  by_cases z:a=x
  .rw[z];exact u
  .have j:=S.new a (by rw[Z a z];exact h) h'
   rw[Yh z]at j;by_cases y:a=A
   .rw[y];exact L
   .rw[Yh y]at j;exact N.h.free j
 have E:∀a,t' a=none->t a=none:=λa h=>by
  have j:=S.grow a h;by_cases z:a=x
  .rw[z];exact tx
  .rw[Z a z]at j;exact j
 have l:=λa o h g=>by
  have j:=N.h a o g
  have n1:a≠x:=λz=>by rw[z,u]at g;cases g
  have U:a≠A:=λz=>by rw[z,L]at g;cases g
  exact S.keep a o (by rw[Z a n1];exact h) (by rw[Yh n1,Yh U];exact j)
 let M:Hp:=λa=>if H a=none then G' a else G a
 have Y:∀{a},H a=none->M a=G' a:=λh=>if_pos h;have B:∀{a},H a≠none->M a=G a:=λh=>if_neg h
 have I:Same G M:=λa o g=>by
  rw[B (by rw[w.sr.seen a o g];exact λy=>nomatch y)];exact g
 have hs2:Same M H':=λa o g=>by
  by_cases z:H a=none
  .rw[Y z]at g;exact S.s a o g
  .rw[B z]at g
   have tn:t a=none:=by
    cases y:t a with
    | none=>rfl
    | some s=>rw[w.no y]at g;cases g
   exact l a o tn (w.sr.seen a o g)
 have tup:∀b ys,G' b=some (HO.tup ys)->M b=some (HO.tup ys):=λb ys hb=>by
  by_cases z:H b=none
  .rw[Y z];exact hb
  .rw[B z]
   refine ht b ys ?_
   have hb1:V b=some (HO.tup ys):=by
    cases q:V b with
    | none=>
      have j:=S.n b q (by rw[hb];exact λy=>nomatch y);have n1:b≠x:=λy=>z (by rw[y];exact u);have U:b≠A:=λy=>z (by rw[y];exact L);rw[Yh n1,Yh U]at j;exact absurd (N.h.free j) z
    | some o=>
      have:=S.g _ _ q;rw[hb]at this;cases this;rfl
   cases q:Gf b with
   | none=>exact absurd (N.n b q (by rw[hb1];exact λy=>nomatch y)) z
   | some o=>
     have:=N.g _ _ q;rw[hb1]at this;cases this;rfl
 have r:HW X.K t' H' M:=⟨λa s e=>by
  by_cases z:H a=none
  .rw[Y z];exact S.hw.g a s e
  .rw[B z]
   cases y:t a with
   | none=>exact absurd (J a y (by rw[e];exact λq=>nomatch q)) z
   | some s'=>exact w.no y,S.hw.h,λa s e=>by
  rcases T a s e with h|h
  .exact(w.ok a s h).mono I
  .exact(S.hw.ok a s e).q tup h⟩
 have hn2:∀a,G a=none->M a≠none->H a=none:=λa h h'=>Classical.byContradiction λz=>h' (by rw[B z];exact h)
 cases shown with
 | false=>
   obtain⟨H3,f3,w3⟩:=w.after ⟨l,E,J,r,I,hs2,hn2⟩;exact kk _ _ (hsf rfl) _ H' M H3 f3 w3 I (by rw[Rp])
 | true=>
   obtain⟨ks,ws,es,hx,hq⟩:=hst rfl;have g2x:=r.g x _ hx
   have P:Same M (upd M x (.ins C A (ks.zip ws))):=λa o g=>by rw[Yh (Yk g g2x)];exact g
   obtain⟨o1,o2,o3⟩:=r.ok x _ hx
   obtain⟨H3,f3,w3⟩:=w.after (t':=pt t' x none) (H':=H') ⟨l,λa h=>by
    by_cases z:a=x
    .rw[z];exact tx
    .rw[bZ z]at h;exact E a h,λa h h'=>by
    by_cases z:a=x
    .rw[z];exact u
    .rw[bZ z]at h';exact J a h h',⟨λa s e=>by
    have z:a≠x:=λz=>by rw[z,dt]at e;cases e
    rw[bZ z]at e
    rw[Yh z];exact r.g a s e,λa s e=>by
    have z:a≠x:=λz=>by rw[z,dt]at e;cases e
    rw[bZ z]at e
    exact r.h a s e,λa s e=>by
    have z:a≠x:=λz=>by rw[z,dt]at e;cases e
    rw[bZ z]at e
    exact(r.ok a s e).mono P⟩,I.trans P,λa o g=>by
    by_cases z:a=x
    .subst z
     rw[Yg]at g;rw[<-g];exact r.h a _ hx
    .rw[Yh z]at g;exact hs2 a o g,λa h h'=>by
    by_cases z:a=x
    .rw[z];exact u
    .rw[Yh z]at h';exact hn2 a h h'⟩
   refine kk _ _ hq _ H' _ H3 f3 w3 (I.trans P) ?_;rw[Rp];exact⟨x,C,A,ws,rfl,o1,Yg,o2,o3.mono P⟩
end
theorem Ft{f:Str}{y:V}:∀{ks:AJ}{vs:AM},f∉ks->vs.length=ks.length->bM f y (ks.zip vs)=(ks++[f]).zip (vs++[y])
 | [],[],_,_=>rfl
 | [],_::_,_,h=>nomatch h
 | _::_,[],_,h=>nomatch h
 | k::ks,v::vs,h,a=>by
   rw[List.zip_cons_cons,List.cons_append,List.cons_append,List.zip_cons_cons];show(if k=f then _ else _)=_;rw[if_neg λz=>h (by rw[z];exact qh),Ft (λz=>h (qg _ z)) (by simpa using a)]
def Aft.put{t:Hs}{H G:Hp}{x:Addr}{s s':HS}(w:HW K t H G)(g:Same G H)(e:t x=some s)(f:s'.ok K G):Aft K t (pt t x (some s')) H G (upd H x s'.ho) G:=by
 have d:=w.g x s e;refine⟨λa o h c=>?_,λa h=>?_,λa h i=>?_,⟨λa s b=>?_,λa s b=>?_,λa s b=>?_⟩,.refl _,λa o c=>?_,λa h i=>absurd h i⟩
 .have z:a≠x:=λz=>by rw[z,e]at h;cases h
  rwa [Yh z]
 .by_cases z:a=x
  .rw[z,dt]at h;cases h
  .rwa [bZ z]at h
 .by_cases z:a=x
  .rw[z,e]at h;cases h
  .rw[bZ z]at i;exact absurd h i
 .by_cases z:a=x
  .rwa [z]
  .rw[bZ z]at b;exact w.g a s b
 .by_cases z:a=x
  .subst z;rw[dt]at b;cases b;exact Yg
  .rw[bZ z]at b;rw[Yh z];exact w.h a s b
 .by_cases z:a=x
  .subst z;rw[dt]at b;cases b;exact f
  .rw[bZ z]at b;exact w.ok a s b
 .rw[Yh (Yk c d)];exact g a o c
def kO(i:Nat)(f:Str)(j:AJ)(fe:AU):Hm:=λe t Q=>∃x c C a b g h d,e[i]?=some (↑(.adr x))/\t x=some (.ins c C a b g h)/\c∈j/\f∉b/\b.length<1000/\fe e=some d/\∀v,Q (.nx e (pt t x (some (.ins c C a (b++[f]) (g++[v]) (h++[d])))))
def qT(i:Nat)(f:Str)(h:AJ):Hm:=λe t Q=>∃x c C a b d g,e[i]?=some (↑(.adr x))/\t x=some (.ins c C a b d g)/\c∈h/\f∉b/\b.length<1000/\∀l,t l=none->Q (.nx e (pt (pt t l (some (.bls []))) x (some (.ins c C a (b++[f]) (d++[.ref l]) (g++[.adr l])))))
def qU(i:Nat)(fe:AU):Hm:=λa t Q=>∃b h l y k,a[i]?=some (↑(aW b h (.adr l)))/\t l=some (.bls y)/\y.length<1000000/\fe a=some (.bl k)/\Q (.nx a (pt t l (some (.bls (y++[k])))))
section
variable {X:Cx}{e:Expr}{fe:AU}{pos p1 tpos:Pos}{f x:Str}{cs:AJ}
def qV{g b H G:Hp}{σ:L2.St}{ρ:Ro}{i:Nat}{a:Addr}(s:SR K g b σ H G ρ)(h:ρ[i]?=some (↑(.adr a))):σ[i]?=some (some (V.ref a)):=by
 obtain⟨v,c,d⟩:=s.sh i _ h;rw[c,d]
def NF{ks:AJ}{vs:AM}(h:vs.length=ks.length):(ks.zip vs).length=ks.length:=by
 rw[List.length_zip,h,Nat.min_self]
theorem NG(i:Nat)(j:∀c∈cs,CF X.K c f)(s:ZE X e fe)(A:X.N[i]?=some x:=by rfl)(O:eW X.env.scope x:=by trivial)(N:cv x:=by decide)(k:fR x:=by decide)(hs:swapsWith e (some (.Attribute (.Name x p1) f tpos)) pos.line X.env=pure false:=by rfl):
 fJ X (.Assign [.Attribute (.Name x p1) f tpos] e pos) (kO i f cs fe):=⟨PS.imp (ni (gA A O N k) s.un hs) λF Z H l=>by
 obtain⟨ρ,t,U,W,G,Q,w,⟨a,c,C,b,D,K,Y,d,q,m,B,p,T,u,M⟩,r⟩:=l;refine tOf.at u w.sr λy V z P R n=>?_;have g:=w.grow P;obtain⟨o,h,v⟩:=g.ok a _ m;obtain⟨J,E⟩:=j c B C o;refine⟨_,qV n q,a,C,b,_,rfl,g.hw.h a _ m,J,E,by rwa [NF h],?_⟩
 have e1:.ins C b (bM f y (D.zip K))=HS.ho (.ins c C b (D++[f]) (K++[y]) (Y++[d])):=by rw[Ft p h];rfl
 rw[e1];obtain⟨L,I,S⟩:=g.after (.put g.hw n.seen m (s':=.ins c C b (D++[f]) _ _) ⟨o,by simp[h],v.append (.one R)⟩)
 exact r _ (M y) Z _ z L I S⟩
def Aft.add{t:Hs}{H G:Hp}{l:Addr}{s:HS}(w:HW K t H G)(g:Same G H)(h:H l=none)(j:s.ok K G):Aft K t (pt t l (some s)) H G (upd H l s.ho) G:=by
 have d:=g.free h
 have k:t l=none:=by
  cases z:t l with
  | none=>rfl
  | some x=>rw[w.h l x z]at h;cases h
 refine⟨λa o _ c=>?_,λa h=>?_,λa i e=>?_,⟨λa s b=>?_,λa s b=>?_,λa s b=>?_⟩,.refl _,λa o c=>?_,λa h e=>absurd h e⟩
 .rwa [Yh (Yk c h)]
 .by_cases z:a=l
  .rwa [z]
  .rwa [bZ z]at h
 .by_cases z:a=l
  .rwa [z]
  .rw[bZ z]at e;exact absurd i e
 .by_cases z:a=l
  .rwa [z]
  .rw[bZ z]at b;exact w.g a s b
 .by_cases z:a=l
  .subst z;rw[dt]at b;cases b;exact Yg
  .rw[bZ z]at b;rw[Yh z];exact w.h a s b
 .by_cases z:a=l
  .subst z;rw[dt]at b;cases b;exact j
  .rw[bZ z]at b;exact w.ok a s b
 .rw[Yh (Yk c d)];exact g a o c
theorem Fu(i:Nat){r:Pos}(k:∀c∈cs,CF X.K c f)(A:X.N[i]?=some x:=by rfl)(Z:eW X.env.scope x:=by trivial)(L:cv x:=by decide)(n:fR x:=by decide)(hs:swapsWith (.List [] r) (some (.Attribute (.Name x p1) f tpos)) pos.line X.env=pure false:=by rfl):
 fJ X (.Assign [.Attribute (.Name x p1) f tpos] (.List [] r) pos) (qT i f cs):=⟨PS.imp (ni (gA A Z L n) (nk fV) hs) λF Y H j=>by
 obtain⟨ρ,t,U,V,G,Q,w,⟨a,c,C,d,e,K,D,s,h,B,O,S,R⟩,u⟩:=j;refine⟨Qh _,λl o=>?_⟩
 have p:t l=none:=by
  cases z:t l with
  | none=>rfl
  | some x=>rw[w.hw.h l x z]at o;cases o
 obtain⟨q,m,v⟩:=w.ok a _ h;obtain⟨I,N⟩:=k c B C q;obtain⟨T,E,b⟩:=w.after (Aft.add (s:=.bls []) w.hw w.sr.seen o trivial)
 have g:pt t l (some (.bls [])) a=some (.ins c C d e K D):=by rw[bZ (λz=>by rw[z,p]at h;cases h)];exact h
 refine⟨_,qV b.sr s,a,C,d,_,rfl,b.hw.h a _ g,I,N,by rw[NF m];exact S,?_⟩
 have M:HO.ins C d (bM f (.ref l) (e.zip K))=HS.ho (.ins c C d (e++[f]) (K++[.ref l]) (D++[.adr l])):=by rw[Ft O m];rfl
 rw[M];obtain⟨y,J,P⟩:=b.after (Aft.put b.hw b.sr.seen g (s':=.ins c C d (e++[f]) _ (D++[.adr l])) ⟨q,by simp[m],v.append (.one (by rw[Rp]))⟩)
 exact u _ (R l p) Y _ G y (E.trans J) P⟩
theorem Fv(i:Nat){o d c:Pos}(k:CF X.K "Watch" "truths")(he:ZE X e fe)(hN:X.N[i]?=some x:=by rfl)(hv:eW X.env.scope x:=by trivial)(hd:cv x:=by decide)(A:fR x:=by decide)(r:swapsWith (.Call (.Attribute (.Attribute (.Name x p1) "truths" o) "append" d) [e] [] c) none pos.line X.env=pure false:=by rfl)(hs:starEach [e] X.env=[(false,eval e X.env)]:=by rfl)(p:pj X c [e]:=by rfl)(m:(d.endLine==c.line)=true:=by rfl)(j:attributeBase (.Attribute (.Name x p1) "truths" o) "append" X.env (eval (.Attribute (.Name x p1) "truths" o) X.env)=eval (.Attribute (.Name x p1) "truths" o) X.env:=by rfl)(B:attributeBase (.Name x p1) "truths" X.env (eval (.Name x p1) X.env)=eval (.Name x p1) X.env:=by rfl):
 fJ X (.Expr (.Call (.Attribute (.Attribute (.Name x p1) "truths" o) "append" d) [e] [] c) pos) (qU i fe):=
 ⟨PS.imp (lA (nE PySem.F.plainAttrs_list PySem.F.slot_list_append PySem.F.type_list_append Ag (nh (gA hN hv hd A) B) (fW he.un fV hs) j p m hs rfl) r) λF σ H z=>by
  obtain⟨ρ,t,H0,G0,G,Q,w,⟨b,h,l,y,D,U,s,Z,T,I⟩,R⟩:=z;obtain⟨v,L,J⟩:=w.sr.sh i _ U;obtain⟨a,C,N,xs,rfl,n,g,lx,q⟩:=J;obtain⟨y1,y2,y3,rfl,r1,r2,r3⟩:=q.three;subst r3;refine⟨_,L,a,C,N,_,.ref l,rfl,w.sr.seen _ _ g,(k C n).1,(k C n).2,rfl,.inl ⟨rfl,_,.of (w.hw.h l _ s)⟩,tOf.at T w.sr λv H1 K Y E s1=>?_⟩;subst E;have u:=w.grow Y;refine⟨l,y.map .bl,_,rfl,rfl,u.hw.h l _ s,?_,?_⟩
  .rw[qf]
   exact Qi Z (f6 (qv _))
  .obtain⟨S,f4,O⟩:=u.after (.put u.hw s1.seen s (s':=.bls _) trivial)
   have V:HS.ho (.bls (y++[D]))=.lst (y.map .bl++[.bl D]):=by
    show HO.lst _=_;rw[wt];rfl
   have:=R _ I σ _ K S f4 O;rw[V]at this
   exact this⟩
end
def qW(g:Hm):AR:=λa=>v5 (g a (λ_=>none) fun
 | .rt (.bl true) _=>True
 | _=>False) (some (.rt (.bl true)))
section
variable {X:Cx}{e:Expr}{fe:He}{a b sts:List Stmt}{fs gs g:Hm}{pos cp np:Pos}
def Fw(h:fL X sts g):ZB X sts (qW g):=⟨PSs.imp h.un λF x H f=>by
 obtain⟨b,u,n,k,G,i,s,c⟩:=f;obtain⟨p,i⟩:=Fc i;cases i;refine⟨b,λ_=>none,n,k,G,_,⟨s,λ_ _ e=>(nomatch (e)),λ_ _ e=>(nomatch (e)),λ_ _ e=>nomatch (e)⟩,p,λo j=>?_⟩
 split at j
 .exact λv w t r m q l=>by
   have d:=q.aft m rfl;exact c v w t ⟨λa o e=>d.keep a o rfl e,d.g,d.s,d.n⟩ l
 .exact j.elim⟩
end
end
section
variable {K:W7}
def Uv(K:W7)(d c:Str)(b:Bool):Prop:=∃C a,W.nsIn K mainGlobals c=some (some (.ref C))/\W.nsIn K mainGlobals d=some (some (.ref a))/\Cls K C/\W.findIn K (.ref C) "__class__"=some (some (.builtin "object.__class__"))/\
 W.specialIn K (.builtin "object.__class__") "__get__"=some (some (.builtin "getset_descriptor.__get__"))/\W.takesIn K (.builtin "object.__class__")=some true/\W.mroIn K C (.type "object")=some true/\W.kitOne K (.ref C) (.ref a)=some b
def isk_mk{h c:Str}{b:Bool}{C d:Addr}(a:W.nsIn K mainGlobals c=some (some (.ref C)))(j:W.nsIn K mainGlobals h=some (some (.ref d)))(n:W.plainGet K C Str.empty=true)(o:W.hasDictIn K C=true)(l:W.plainOver K C=true)(i:W.findIn K (.ref C) "__setattr__"=some (some (.builtin "object.__setattr__")))(e:W.findIn K (.ref C) "__class__"=some (some (.builtin "object.__class__")))(f:W.specialIn K (.builtin "object.__class__") "__get__"=some (some (.builtin "getset_descriptor.__get__")))(g:W.takesIn K (.builtin "object.__class__")=some true)(m:W.mroIn K C (.type "object")=some true)(k:W.kitOne K (.ref C) (.ref d)=some b):Uv K h c b:=⟨C,d,a,j,⟨n,o,l,i⟩,e,f,g,m,k⟩
section
variable {X:Cx}{a:Expr}{fa:AU}{pos p p2:Pos}{c0:Str}
def Fx{P:P7}{w:World}{d:AD}{b:Heap}{j k:Nat}{c m:Str}{a:AJ}{sp:Sp}(O:gk P w K d b j c m a sp)(h:j<=k:=by decide):gk P w K d b k c m a sp:=by
 obtain⟨C,f,e,F,r⟩:=O;exact⟨C,f,e,F.mono h,r⟩
end
def wB(K:W7)(c q:Str)(st:Stmt):Prop:=∃C f a,W.nsIn K mainGlobals c=some (some (.ref C))/\Mk K C f/\Fun K "__init__" q st f a
def iqc_mk{c q:Str}{st:Stmt}{C f:Addr}{g:Value}{j h:Option Addr}{e:Array (Option Value)}{kV d p b r:Value}(a:W.nsIn K mainGlobals c=some (some (.ref C)))(m:W.makesIn K C=true)(o:W.keepIn K (.ref C)=true)(i:W.findIn K (.ref C) "__init__"=some (some (.ref f)))(n:W.isFn K (.ref f)=true)(l:K.lookup f=some ⟨g,j,.func (W.fnOf "__init__" q (aGa st) (aFa st) (aDa st) .none kV d p h b r),e⟩)(s:W.codeIn K b q=true)(k:W.keepIn K (.ref f)=true):wB K c q st:=
 ⟨C,f,_,a,⟨m,i,n,o⟩,nG l s k⟩
structure Fy(K:W7)(x q:Str)(st:Stmt)(f:Addr)(fd:FuncData)(T:Addr)(t:Tok):Prop where
 ex:∃(oc:Value) (od:Option Addr) (kV doc pm:Value) (an:Option Addr) (cdv ct:Value) (osl:Array (Option Value)),
  fd=W.fnOf x q (aGa st) (aFa st) (aDa st) (.ref T) kV doc pm an cdv ct/\K.lookup f=some ⟨oc,od,.func fd,osl⟩/\W.codeIn K cdv q=true
 df:∃(oc:Value) (od:Option Addr) (n:Nat) (osl:Array (Option Value)),K.lookup T=some ⟨oc,od,.seq #[.int 0 t] n,osl⟩
def Uw(K:W7)(c q:Str)(st:Stmt):Prop:=∃C f a T t,W.nsIn K mainGlobals c=some (some (.ref C))/\Mk K C f/\Fy K "__init__" q st f a T t
def iqz_mk{c q:Str}{st:Stmt}{C f T:Addr}{m h:Value}{s k o:Option Addr}{g b:Array (Option Value)}{kV j w e x:Value}{t:Tok}{u:Nat}(a:W.nsIn K mainGlobals c=some (some (.ref C)))(r:W.makesIn K C=true)(v:W.keepIn K (.ref C)=true)(i:W.findIn K (.ref C) "__init__"=some (some (.ref f)))(n:W.isFn K (.ref f)=true)(l:K.lookup f=some ⟨m,s,.func (W.fnOf "__init__" q (aGa st) (aFa st) (aDa st) (.ref T) kV j w o e x),g⟩)(p:W.codeIn K e q=true)(d:K.lookup T=some ⟨h,k,.seq #[.int 0 t] u,b⟩):Uw K c q st:=
 ⟨C,f,_,T,t,a,⟨r,i,n,v⟩,⟨_,_,_,_,_,_,_,_,_,rfl,l,p⟩,_,_,_,_,d⟩
section
variable {P:P7}{w:World}{mg:AD}{base:Heap}
theorem Fz{c x q:Str}{st:Stmt}{k n m:Nat}{N t:AJ}{g:Hm}(F:Mq K c x q st)(S:dE N t (aDa st))(u:∀{f:Addr}{d:Value}{A:Around}{b:List Env}{s:Shared}{H:Hp}{E:XK},Room k (A.deeper (envOfC q (aDa st) (~~~s) f d))->fL (ck cK P w K mg base N q (aDa st) f d A b s H E).nox (aFa st) g)(l:N.length=n:=by rfl)(i:t.length=m:=by rfl)(B:Fe x q st t:=by(intro _ _ _ _ _ _ us e;first|(obtain⟨_,rfl⟩:=il e;rfl)|(obtain⟨_,_,rfl⟩:=gh e;rfl)|(obtain⟨_,_,_,rfl⟩:=fA e;rfl))):gk P w K mg base (k+1) c x t (kK K m (eG n g)):=by
 obtain⟨C,f,p,a,r,j,h⟩:=F;exact⟨C,f,p,ND h S l i λ_ _ _ _ _ _ o=>u o,h.binds B,a,r,j⟩
theorem FB{c q:Str}{st:Stmt}{k n m:Nat}{N t:AJ}{g:Hm}(F:wB K c q st)(l:∀C,W.nsIn K mainGlobals c=some (some (.ref C))->mg c=some (.ref C))(S:dE N t (aDa st))(u:∀{f:Addr}{d:Value}{A:Around}{b:List Env}{s:Shared}{H:Hp}{E:XK},Room k (A.deeper (envOfC q (aDa st) (~~~s) f d))->fL (ck cK P w K mg base N q (aDa st) f d A b s H E).nox (aFa st) g)(j:N.length=n:=by rfl)(i:t.length=m:=by rfl)(B:Fe "__init__" q st t:=by(intro _ _ _ _ _ _ us h;first|(obtain⟨_,_,rfl⟩:=gh h;rfl)|(obtain⟨_,_,_,rfl⟩:=fA h;rfl))):Fo P w K mg base (k+1) m c t [] (eG n g):=by
 obtain⟨C,f,o,a,p,e⟩:=F;exact⟨C,f,o,[],[],a,l C a,p,ND e S j i λ_ _ _ _ _ _ r=>u r,e.binds B,.nil,λG=>.nil⟩
end
def Kq(K:W7)(c f q:Str)(st:Stmt):Prop:=∃C a b d,W.nsIn K mainGlobals c=some (some (.ref C))/\Fun K f q st a b/\W.specialIn K (.ref C) "__getattribute__"=some (some (.builtin "type.__getattribute__"))/\W.readsIn K C d=true/\W.findCls K (.ref C) d f=some (.val (.ref a))/\W.handedIn (.ref a)=true
def kq_mk{c f q:Str}{st:Stmt}{C a:Addr}{mc:Value}{m:Value}{o n:Option Addr}{j:Array (Option Value)}{kV d p b t:Value}(e:W.nsIn K mainGlobals c=some (some (.ref C)))(i:W.findIn K (.ref C) f=some (some (.ref a)))(l:K.lookup a=some ⟨m,o,.func (W.fnOf f q (aGa st) (aFa st) (aDa st) .none kV d p n b t),j⟩)(u:W.codeIn K b q=true)(k:W.keepIn K (.ref a)=true)(s:W.specialIn K (.ref C) "__getattribute__"=some (some (.builtin "type.__getattribute__")))(r:W.readsIn K C mc=true)(g:W.findCls K (.ref C) mc f=some (.val (.ref a)))(h:W.handedIn (.ref a)=true):Kq K c f q st:=⟨C,a,_,mc,e,nG l u k,s,r,g,h⟩
end
section
variable {K:W7}
end
section
variable {K:W7}
def NH(f:AU):He:=λa t Q=>∃d,f (d9 t a)=some d/\dV d=true/\Q d t
theorem Ux{X:Cx}{e:Expr}{f:AU}(h:ZE X e f):ji X e (NH f):=⟨PE.imp h.un λE H Q j=>by
 obtain⟨C,t,p,x,G,R,w,⟨d,i,A,q⟩,k⟩:=j;obtain⟨n,u⟩:=w.thaw;refine⟨_,d,n,x,_,i,u,λv y B g r=>?_⟩
 have m:Gr H G y (λa=>if t a=none then B a else none):=by
  refine⟨g.h,λa o e=>?_,λa o e=>?_,λa i c=>?_⟩
  .have l:t a=none:=by
    cases z:t a with
    | none=>rfl
    | some s=>rw[w.no z]at e;cases e
   rw[if_pos l];exact g.g a o (by rwa [kH l])
  .by_cases z:t a=none
   .simp [if_pos z]at e
    exact g.s a o e
   .simp only[if_neg z]at e;cases e
  .by_cases z:t a=none
   .simp [if_pos z]at c
    exact g.n a (by rwa [kH z]) c
   .simp only[if_neg z]at c;exact absurd rfl c
 refine k d t q v y _ p .refl (w.grow m) m.g (r.plain (λb F e=>?_) A);rw[if_pos ?_]
 .exact e
 .cases z:t b with
  | none=>rfl
  | some s=>
    have:=g.g b _ (v9 z);rw[e]at this
    cases s<;>cases this⟩
end
section
variable {K:W7}
end
section
variable {K:W7}
section
variable {X:Cx}{e:Expr}{f:AU}{pos:Pos}
def fB(f:AU):AU:=λb=>((f b).bind cq).bind λa=>if a.length<ax then some (.dct false ((ay [] [] a).1.map .int) (ay [] [] a).2)else none
@[simp] theorem wC:fB f ρ=((f ρ).bind cq).bind λa=>if a.length<ax then some (.dct false ((ay [] [] a).1.map D.int) (ay [] [] a).2)else none:=c7 rfl
end
end
section
variable {X:Cx}{e:Expr}{f:AU}{pos:Pos}
theorem FC(B:X.calm=true){E b:Pos}(C:Gl X "dict")(w:X.mg "dict"=none)(j:ZC X e f)(g:starEach [e] X.env=[(false,eval e X.env)]:=by rfl)(n:(backTo b (starEach [] X.env)).any (·.1)=false:=by rfl):
 ZE X (.Call (.Name "dict" E) [e] [] b) (fB f):=⟨have j:=j.un;
 PE.imp (iQ (Mg B) C w (by decide +kernel) (iW j iV g) (by decide) (by decide) g n) λσ H Q k=>by
  obtain⟨i,V,P,S,G,e,s,h⟩:=k;obtain⟨Y,O,e⟩:=qa e;obtain⟨d,T,o⟩:=qa O
  split at e
  case isFalse=>cases e
  rename_i c;cases e;refine tCAof.at (show Yb f _ i=some [d] by simp_all) s λZ U R K y u=>?_;obtain⟨v,rfl,x⟩:=eQ y
  cases d with
  | lst l=>
    obtain⟨a,D,rfl,J,I⟩:=x;obtain⟨r,L,t⟩:=CC u.seen (o) I;refine⟨a,D,r,rfl,.inl J,L,by rwa [t.length],λp M=>?_⟩;obtain⟨m,z,A,N,F⟩:=uP t List.nodup_nil rfl .nil;have q:=Gr.new u.seen M (.dK (fq [] r));exact h _ _ _ (K.trans q) (⟨p,(ay [] [] Y).1.map _,m,rfl,oJ (by rw[<-z];exact Yg) A N,.ints _,F.mono q.g⟩)
  | _=>cases o⟩
end
section
variable {K:W7}
end
end M
namespace Lw
open PySem PySem.Spec PyProof.Rows L2 M
def top(i:Nat):Stmt:=PySem.Challenge.pw_duskbook_k67_whole_step_by_step.main.body.getD i (.Pass ⟨0,0,0,0⟩)
def gt_EXCHANGED_KINDS:List (Str×Str):=[((.ofString "eithers"),.ofString "eithers"),((.ofString "sums"),.ofString "sums"),((.ofString "ifs"),.ofString "nots"),((.ofString "nots"),.ofString "ifs")]
def NI:AJ:=[.ofString "keeper",.ofString "storm"]
set_option maxHeartbeats 4000000
def Fq(K:W7)(c:AD)(x:Str)(i:Nat):Prop:=∃a d,Fun K x x (top i) a d/\c x=some (.ref a)
def Fk(K:W7)(x:Str)(i:Nat):Prop:=∃a c,W.nsIn K mainGlobals x=some (some (.ref a))/\Fun K x x (top i) a c
def Fk.on{K:W7}(F:Fk K x i)(X:K.In h)(G:h.Ns mainGlobals c):Fq K c x i:=by
 obtain⟨a,d,n,f⟩:=F;exact⟨a,d,f,W.mg_of X G n⟩
def fk_mk{K:W7}{kV e h d j:Value}(a:W.nsIn K mainGlobals x=some (some (.ref f)))(l:K.lookup f=some ⟨m,n,.func (W.fnOf x x (aGa (top i)) (aFa (top i)) (aDa (top i)) .none kV e h o d j),g⟩)(c:W.codeIn K d x=true)(k:W.keepIn K (.ref f)=true):Fk K x i:=⟨_,_,a,nG l c k⟩
def FD(K:W7)(c:AD)(x:Str)(i:Nat):Prop:=∃a d T,kC K x (top i) a d T/\c x=some (.ref a)
def FkD(K:W7)(x:Str)(i:Nat):Prop:=∃a c T,W.nsIn K mainGlobals x=some (some (.ref a))/\kC K x (top i) a c T
def FkD.on{K:W7}(F:FkD K x i)(X:K.In h)(G:h.Ns mainGlobals c):FD K c x i:=by
 obtain⟨a,d,T,n,f⟩:=F;exact⟨a,d,T,f,W.mg_of X G n⟩
def fkd_mk{K:W7}{kV e q d h:Value}{t n:Nat}(a:W.nsIn K mainGlobals x=some (some (.ref f)))(l:K.lookup f=some ⟨r,s,.func (W.fnOf x x (aGa (top i)) (aFa (top i)) (aDa (top i)) (.ref T) kV e q u d h),p⟩)(c:W.codeIn K d x=true)(k:W.keepIn K (.ref f)=true)(t:K.lookup T=some ⟨o,m,.seq #[.int j t] n,g⟩):FkD K x i:=⟨_,_,_,a,⟨_,_,_,_,_,_,_,_,_,rfl,l,c⟩,k,_,_,_,_,_,_,t⟩
abbrev Fs(n i:Nat)(N:AJ):Prop:=dE N (N.take n) (aDa (top i))
abbrev kq:Nat->NameKind
 | 0=>.local
 | 1=>.free
 | 2=>.globalImplicit
 | _=>.cell
abbrev Cs(A:AJ)(i:Nat)(L:AJ)(s:List AL)(n:List (Str×Nat)):Prop:=gB A (aDa (top i)) L s (Kh ((".0",.local)::n.map λp=>(p.1,kq p.2)))
def cc{A:AJ}{i:Nat}{L:AJ}{s:List AL}{n:List (Str×Nat)}(h:jK A (aDa (top i)) L s (Kh ((".0",.local)::n.map λp=>(p.1,kq p.2)))=true:=by decide +kernel):Cs A i L s n:=RQ h
theorem aM{N h:AJ}{i:Scope}(a:i.kind=.function:=by rfl)(b:i.isCoroutine=false:=by rfl)(c:i.isGenerator=false:=by rfl)(d:N.Nodup:=by decide +kernel)(e:N.take h.length=h:=by rfl)(f:∀x∈h,i.names.lookup x=some .local\/i.names.lookup x=some .cell:=by decide +kernel)(g:∀y∈i.names,y.2≠.free:=by decide +kernel):dE N h i:=⟨a,b,c,d,e,f,g⟩
def Uy(x:Str)(i:Nat)(h:AJ):Prop:=∀(kV a e:Value) (d:Option _) (c f:Value) (b:List _),b.length=h.length->bindArgs (W.fnOf x x (aGa (top i)) (aFa (top i)) (aDa (top i)) .none kV a e d c f) ⟨b,[]⟩=pure (h.zip b)
theorem cZ{K:W7}{i k n m:Nat}(F:Fq K j x i)(S:dE N r (aDa (top i)))(t:∀{f:Addr}{e:Value}{A:Around}{c:List Env}{s:Shared}{H:Hp}{E:XK},Room k (A.deeper (envOfC x (aDa (top i)) (~~~s) f e))->ZB (ck cK P w K j d N x (aDa (top i)) f e A c s H E).nox (aFa (top i)) fb)(o:N.length=n:=by rfl)(l:r.length=m:=by rfl)(B:Uy x i r:=by(intro _ _ _ _ _ _ us b;first|(obtain⟨_,rfl⟩:=il b;rfl)|(obtain⟨_,_,rfl⟩:=gh b;rfl)|(obtain⟨_,_,_,rfl⟩:=fA b;rfl)|(obtain⟨_,_,_,_,rfl⟩:=pq b;rfl)|(obtain⟨_,_,_,_,_,rfl⟩:=pv b;rfl)|(obtain⟨_,_,_,_,_,_,rfl⟩:=pz b;rfl)|(obtain⟨_,_,_,_,_,_,_,rfl⟩:=Eg b;rfl))):aN P w K j d (k+1) m x r (aj m n fb):=by
 obtain⟨a,q,f,h⟩:=F;exact Bw f (f.binds B) h (DL f S o l λ_ _ _ _ _ _ p=>t p)
def FE{K:W7}(F:FD K g "outcome" i)(S:dE N ["book","hands","start"] (aDa (top i)))(m:∀{f:Addr}{d:Value}{A:Around}{b:List Env}{s:Shared}{H:Hp}{E:XK},Room k (A.deeper (envOfC "outcome" (aDa (top i)) (~~~s) f d))->ZB (ck cK P w K g c N "outcome" (aDa (top i)) f d A b s H E).nox (aFa (top i)) fb)(hn:N.length=n:=by rfl)(o:i=74:=by rfl):aN P w K g c (k+1) 3 "outcome" ["book","hands","start"] (aj 3 n fb):=by
 subst o;obtain⟨a,p,T,f,h⟩:=F;refine E9 f h S hn rfl (λ_ _ _ _ _ _ q _ _ l=>?_) λ_ _ _ _ _ _ j=>m j;obtain⟨_,_,_,rfl⟩:=fA l;exact⟨_,rfl,rfl⟩
def FF:∀ρ l,Yb a ae ρ=some l->l.length=1:=uE λ_ _ h=>Sf h
def wD:∀ρ l,Yb a (Yb b ae) ρ=some l->l.length=2:=uE FF
def jk:∀ρ l,Yb a (Yb c (Yb b ae)) ρ=some l->l.length=3:=uE wD
def Uz:∀ρ l,Yb a (Yb d (Yb b (Yb c ae))) ρ=some l->l.length=4:=uE jk
def kP{K:W7}{a f:Str}(h:CF K a f):∀c∈[a],CF K c f:=λc d=>by
 cases List.mem_singleton.mp d;exact h
def UA{a b:AU}:∀ρ l,Yb a (Yb b ae) ρ=some l->l.length+([]:AN).length=2:=wD
structure Bl(K:W7)(w:World)(mg:AD):Prop where
 Len:mg "len"=none
 Range:mg "range"=none
 List:mg "list"=none
 Tuple:mg "tuple"=none
 Str:mg "str"=none
 Sorted:mg "sorted"=none
 Any:mg "any"=none
 All:mg "all"=none
 Isinstance:mg "isinstance"=none
 Enumerate:mg "enumerate"=none
 Reversed:mg "reversed"=none
 Set:mg "set"=none
 Min:mg "min"=none
 Dict:mg "dict"=none
 g_BEACON_COUNT:GI mg "BEACON_COUNT" 60
 g_EXCHANGED_KINDS:GD K w mg "EXCHANGED_KINDS" gt_EXCHANGED_KINDS
 g_HANDS:GT K mg "HANDS" NI
 f2:Fq K mg "contrary" 2
 f3:Fq K mg "led_to" 3
 f4:Fq K mg "traced" 4
 f5:Fq K mg "ways_from" 5
 f8:Fq K mg "exchanged_rule" 8
 f9:Fq K mg "exchanged" 9
 f12:Fq K mg "beacons_with" 12
 f14:Fq K mg "both_added" 14
 f15:Fq K mg "pairs_added" 15
 f16:Fq K mg "cleared" 16
 f17:Fq K mg "reduced" 17
 f25:Fq K mg "either_holds" 25
 f26:Fq K mg "sum_holds" 26
 f27:Fq K mg "if_holds" 27
 f28:Fq K mg "rule_holds" 28
 f29:Fq K mg "broken_rules" 29
 f30:Fq K mg "holds" 30
 f31:Fq K mg "beacons_in" 31
 f32:Fq K mg "beacons_of" 32
 f33:Fq K mg "is_void" 33
 f34:Fq K mg "without" 34
 f35:Fq K mg "either_left" 35
 f36:Fq K mg "sum_left" 36
 f37:Fq K mg "if_left" 37
 f38:Fq K mg "rule_left" 38
 f39:Fq K mg "left_behind" 39
 f41:Fq K mg "is_place" 41
 f42:Fq K mg "body_is_known" 42
 f43:Fq K mg "is_step" 43
 f44:Fq K mg "step_to_more" 44
 f45:Fq K mg "derived_in_full" 45
 f47:Fq K mg "is_broken" 47
 f49:Fq K mg "sayings_of" 49
 f50:Fq K mg "lead_to_one_another" 50
 f51:Fq K mg "clash_found" 51
 f52:Fq K mg "cross_found" 52
 f53:Fq K mg "late_found" 53
 f54:Fq K mg "storms_paper" 54
 f55:Fq K mg "free_saying" 55
 f56:Fq K mg "truths_made" 56
 f57:Fq K mg "plan_row" 57
 f58:Fq K mg "either_outcome" 58
 f60:Fq K mg "replaced" 60
 f61:Fq K mg "ahead_of" 61
 f63:Fq K mg "places_to_none" 63
 f64:Fq K mg "places_to_beacon" 64
 f65:Fq K mg "some_of" 65
 f66:Fq K mg "facts_beside" 66
 f67:Fq K mg "if_outcome" 67
 f69:Fq K mg "last_beacon" 69
 f70:Fq K mg "storms_places" 70
 f71:Fq K mg "sum_rows" 71
 f72:Fq K mg "sum_outcome" 72
 f74:FD K mg "outcome" 74
 f76:Fq K mg "is_hand" 76
 f77:Fq K mg "check_hands" 77
 f80:Fq K mg "_law_cell" 80
 f81:Fq K mg "_law_mixed" 81
 f82:Fq K mg "_law_hands" 82
 f84:Fq K mg "_law_rule" 84
 f85:Fq K mg "_law_hand" 85
 f86:Fq K mg "_law_steps" 86
 r_Watch_left:Mq K "Watch" "left" "Watch.left" (inClass (top 78) 3)
 r_Watch_settle:Mq K "Watch" "settle" "Watch.settle" (inClass (top 78) 5)
 r_Watch_turn:Mq K "Watch" "turn" "Watch.turn" (inClass (top 78) 1)
 r_Watch_winner:Mq K "Watch" "winner" "Watch.winner" (inClass (top 78) 4)
 i_Watch:wB K "Watch" "Watch.__init__" (inClass (top 78) 0)
 n_Watch_book:Nq K "Watch" "book"
 n_Watch_hands:Nq K "Watch" "hands"
 n_Watch_truths:Nq K "Watch" "truths"
 c_Watch:∀C,W.nsIn K mainGlobals "Watch"=some (some (.ref C))->mg "Watch"=some (.ref C)
section
variable {P:P7}{w:World}{K:W7}{mg:AD}{base:Heap}
def UB:Fs 1 2 ["saying"]:=aM
def NJ:AR:=ah (ar (Yb (b2 (aa 0) (kD (.int 0)) ao) (Yb (hP (b2 (aa 0) (kD (.int 1)) ao)) ae)))
def jl:AN->Option D:=aj 1 1 NJ
open Lean in
def tA(h:Array Term)(ls:List (List Name)):MacroM (Array (TSyntax `Lean.Parser.Tactic.tacticSeq)):=do
 let go (l:List Name) (x:Term):MacroM (TSyntax `Lean.Parser.Tactic.tacticSeq):=do
  let a <-l.tail.toArray.mapM λn=>if n==`q then `(?_)else if n==`u then `(_)else if n==`f then `(λ_ _ _ _ _=>?_)else if n==`h then pure x else pure (mkIdent n)
  `(tacticSeq| refine $(mkIdent l.head!) $a*)
 return (<-ls.toArray.mapM λl=>if l.contains `h then h.mapM (go l)else return #[<-go l (<-`(_))]).flatten
open Lean in
def tT:List (Name×List (Nat×Name×List (List Name))):=[(`ZA,[(0,`u,[[`Ym,`q,`q],[`dW]])]),(`ZC,[(1,`Name,[[`Yi,`u]]),(0,`u,[[`Yo,`q]])]),(`ZE,[(3,`lF,[[`ku,`q]]),(4,`gE,[[`TX,`u,`q]]),(4,`oA,[[`DZ,`u,`q]]),(4,`qJ,[[`EV,`q,`q]]),(1,`Name,[[`dA,`u],[`DO,`bl.g_BEACON_COUNT,`rfl]]),(1,`Constant,[[`dB],[`i4],[`My],[`uY]]),(1,`Subscript,[[`kr,`q,`q],[`DS,`hr.units,`q,`q],[`D0,`hr.units,`q,`q],[`TZ,`q,`q,`q],[`TR,`bl.g_EXCHANGED_KINDS,`rfl,`q]]),(1,`Call,[[`i8,`h,`hr,`rfl,`q,`q],[`qP,`h,`hr,`q],[`i5,`tM,`uF,`rfl,`bl.Len,`PySem.boot_len,`q],[`pf,`nC,`n3,`rfl,`bl.Tuple,`boot_tuple,`q],[`i5,`q,`BH,`rfl,`bl.Any,`boot_any,`q],[`i5,`q,`BI,`rfl,`bl.All,`boot_all,`q],[`FC,`rfl,`rfl,`bl.Dict,`q],[`TY,`hr.units,`q,`q,`q,`q],[`TN,`rfl,`rfl,`bl.Tuple,`rfl,`bl.Reversed,`q],[`Uc,`q,`q],[`MQ,`q,`rfl,`rfl,`bl.Isinstance,`bl.Str,`boot_str,`BA],[`MQ,`q,`rfl,`rfl,`bl.Isinstance,`bl.Tuple,`boot_tuple,`Sj],[`i5,`q,`Mc,`rfl,`bl.Min,`boot_min,`q]]),(1,`Tuple,[[`pe,`q]]),(1,`Compare,[[`o_,`hr.units,`q,`q],[`Do,`hr.units,`q,`q],[`DC,`q,`q],[`DT,`hr.units,`q,`q],[`TU,`zi,`nR,`mY,`nR,`q,`q,`q],[`Dq,`hr.units,`q,`q],[`D1,`hr.units,`q,`q],[`Fg,`hr.units,`bl.g_HANDS,`rfl,`q],[`Dl,`q,`q]]),(1,`BinOp,[[`gg,`q,`q],[`l4,`q,`q],[`u3,`q,`q],[`Ec,`q,`q],[`Dk,`q,`q],[`D5,`q,`q]]),(1,`IfExp,[[`DB,`q,`q,`q]]),(1,`UnaryOp,[[`DM,`q],[`DA,`q]]),(1,`BoolOp,[[`Dy,`q],[`Dz,`q,`q]]),(1,`Attribute,[[`Fd,`bl.n_Watch_truths.cf,`q],[`Fd,`bl.n_Watch_hands.cf,`q],[`Fd,`bl.n_Watch_book.cf,`q]]),(0,`u,[[`ku,`q]])]),(`ZB,[(0,`u,[[`gH,`q],[`fI,`q,`q],[`i6]])]),(`ZS,[(4,`wF,[[`MK,`u,`q]]),(2,`nS,[[`TV]]),(1,`Return,[[`l3,`q]]),(1,`Assign,[[`DK,`u,`q,`h,`rfl,`q,`f,`f,`f,`q],[`gI,`u,`q,`q],[`DG,`u,`q,`q],[`D3,`u,`q],[`D4,`hr.units,`u,`q,`q],[`D7,`rfl,`u,`q,`rfl,`bl.Dict,`q],[`DX,`hr.units,`u,`q,`q,`q],[`DW,`hr.units,`u,`q,`q],[`E4,`hr.units,`rfl,`u,`q,`rfl,`bl.Dict,`q]]),(1,`If,[[`i7,`q,`q,`q]]),(1,`For,[[`MM,`jd,`rfl,`q,`q,`q]]),(1,`Expr,[[`ML,`u,`q],[`TQ,`u,`q],[`Ur,`u,`q],[`Eb,`q]]),(1,`While,[[`TL,`u,`jd,`q,`q]]),(1,`AugAssign,[[`DH,`u,`q,`q]])]),(`i3,[(0,`u,[[`eR,`q,`q],[`fy]])]),(`ZG,[(1,`Name,[[`u5,`u,`q]]),(1,`Tuple,[[`DJ,`u,`u,`rfl,`q]])]),(`ZI,[(0,`u,[[`DI,`q],[`TM,`rfl,`bl.Enumerate,`q],[`TK,`rfl,`bl.Range,`q],[`Ui,`q],[`u4,`rfl,`bl.Range,`q]])]),(`ZT,[(1,`Compare,[[`gG,`hr.units,`q,`q],[`DF,`q,`q],[`Ds,`hr.units,`q,`q],[`Dp,`hr.units,`q,`q],[`Dm,`q,`q],[`DE,`q,`q],[`Mz,`hr.units,`q,`q],[`DU,`hr.units,`q,`q],[`D6,`q,`q],[`DV,`hr.units,`q,`q],[`D8,`hr.units,`q,`q],[`D9,`hr.units,`q,`q],[`D2,`hr.units,`q,`q],[`Dn,`q,`q]]),(1,`UnaryOp,[[`Dx,`q]]),(0,`u,[[`Dt,`q],[`Ea,`q]])]),(`ZF,[(1,`ListComp,[[`MO,`h,`rfl,`q,`f,`f,`f,`q]]),(1,`List,[[`MH,`q]]),(1,`Call,[[`MJ,`RJ,`Bj,`rfl,`bl.List,`boot_list,`q],[`T2,`rfl,`rfl,`bl.Sorted,`rfl,`bl.Set,`q,`q],[`lZ,`q,`S5,`rfl,`bl.Sorted,`boot_sorted,`q],[`MJ,`q,`Uo,`rfl,`bl.List,`boot_list,`q],[`lZ,`n_,`oa,`rfl,`bl.Sorted,`boot_sorted,`q],[`T1,`rfl,`rfl,`bl.Sorted,`rfl,`bl.Set,`q]]),(1,`BinOp,[[`DN,`q,`q]]),(1,`Subscript,[[`MD,`q,`q,`q]])]),(`gc,[(0,`u,[[`MN],[`D_,`q]])]),(`ZW,[(1,`BoolOp,[[`Du,`q],[`Dw,`q,`q],[`Dv,`q],[`pa,`q,`q]])]),(`fL,[(0,`u,[[`gM,`q,`q],[`v8,`q],[`Nw]])]),(`ZO,[(0,`u,[[`pd,`q],[`pb]])]),(`fJ,[(3,`fM,[[`kG,`q]]),(1,`Assign,[[`NG,`u,`q,`q],[`NG,`u,`q,`q],[`Fu,`u,`q]]),(1,`If,[[`qR,`q,`q,`q]]),(1,`Expr,[[`Fv,`u,`bl.n_Watch_truths.cf,`q]]),(1,`Return,[[`NC,`q]])]),(`Fh,[(3,`wA,[[`NA,`q]])]),(`ji,[(3,`v_,[[`Nz,`q]])])]
set_option hygiene false in
open Lean in
local macro_rules | `(tactic| exists $xs,*)=>do
 let h:=xs.getElems
 let t <-tT.toArray.mapM fun(J,gs)=>do
  let J:=mkIdent J
  let s <-gs.toArray.mapM fun(k,c,ls)=>do
   let c:=mkIdent c
   let a <-tA h ls
   if k==0 then `(tacticSeq| first $[| $a]*)else if k==1 then `(tacticSeq| (with_reducible show $J _ (.$c ..) ..);first $[| $a]*)else
    let u <-(List.replicate (k-2) J).toArray.mapM λ_=>`(_)
    `(tacticSeq| (with_reducible show $J _ _ ($c $u*));first $[| $a]*)
  `(tacticSeq| (with_reducible show $J ..);first $[| $s]*)
 let r:Array Term:=[`wD,`jk,`FF,`Uz].toArray.map λn=>mkIdent n
 let b <-tA h [[`LI,`rfl],[`Bt,`rfl,`rfl],[`Ss,`rfl],[`Su,`rfl],[`Kz,`rfl],[`S4,`rfl],[`Um,`rfl],[`kP,`bl.n_Watch_book.cf],[`kP,`bl.n_Watch_hands.cf],[`kP,`bl.n_Watch_truths.cf]]
 `(tactic| ((try refine cZ $(h[0]!) $(h[1]?.getD h[0]!) λhr=>?_);repeat' first $[| $t]* $[| with_reducible exact $r]* $[| exact($h).nd]* | exact⟨rfl,rfl,rfl,rfl⟩ $[| $b]* $[| exact $h]* | fail))
def wG(bl:Bl K w mg):aN P w K mg base 1 1 "contrary" ["saying"] jl:=by
 exists bl.f2,UB
def NK:Fs 2 3 ["book","saying","against","led","rule","others"]:=aM
def UC:Cs ["book","saying","against","led","rule","others"] 3 ["other","against"] [none,some 2] [("other",0),("against",1)]:=cc
def FG:AT:=b2 (aa 0) (aa 1) (aI true)
def FH:AU:=ab 0
def qX:AR:=aT (b2 (aa 2) (aa 4) (dU false)) (ag (bb 5 (bq (b1 (ab 4) Yc) [none,some 2] (ai 0) (FG) (FH))) (cW 3 (iU (b1 (aa 5) aQ) (b2 (aa 5) (kD (.int 0)) ao) (ab 2)) b_)) aw
@[simp] def NL:AR:=(wF [3] (ah (ab 3)))
@[simp] def NM:AR:=ag (a9 (b1 (b2 (aa 0) (kD (.int 1)) ao) Yc) (ai 4) qX) NL
@[simp] def NO:AR:=ag (bb 3 (bF ae)) NM
def FI:AR:=ag (aq 2 (cC (Yb (ab 1) ae) jl)) NO
def wH:AN->Option D:=aj 2 6 FI
def UD(bl:Bl K w mg):aN P w K mg base 2 2 "led_to" ["book","saying"] wH:=by
 refine cZ bl.f3 NK λhr=>?_;unfold FI NO NM NL
 exists NK,wG bl,UC
def UE:Fs 2 4 ["ahead","last","road","saying"]:=aM
def wI:AR:=ag (cW 2 (ab 3) b_) (aq 3 (b2 (aa 0) (aa 3) bx))
@[simp] def UF:AR:=ah (λa=>(j3 (aa 2) a).map .tup)
@[simp] def UG:AR:=ag (c5 (b2 (aa 3) (kD .non) (bU true)) wI 4000) UF
@[simp] def UH:AR:=ag (aq 3 (ab 1)) UG
def NP:AR:=ag (bb 2 (bF ae)) UH
def jm:AN->Option D:=aj 2 4 NP
def FJ(bl:Bl K w mg):aN P w K mg base 1 2 "traced" ["ahead","last"] jm:=by
 exists bl.f4,UE
def NQ:Fs 2 5 ["book","saying","ahead","reached","place","led"]:=aM
def ma:AR:=aT (b2 (aa 5) (aa 2) (cO true)) (ag (h9 2 (aa 5) (b2 (aa 3) (aa 4) ao)) (cW 3 (ab 5) b_)) aw
def wJ:AR:=ag (a9 (b1 (cC (Yb (ab 0) (Yb (b2 (aa 3) (aa 4) ao) ae)) wH) Yc) (ai 5) ma) (jW 4 (kD (.int 1)))
@[simp] def FK:AR:=(wF [2] (ah (ab 2)))
@[simp] def NR:AR:=ag (c5 (b2 (aa 4) (cC (Yb (aa 3) ae) aV) hB) wJ 4000) FK
@[simp] def NS:AR:=ag (aq 4 (kD (.int 0))) NR
@[simp] def NT:AR:=ag (bb 3 (bF (Yb (ab 1) ae))) NS
def FL:AR:=ag (j9 2 (ab 1) (kD .non)) NT
def md:AN->Option D:=aj 2 6 FL
def UI(bl:Bl K w mg):aN P w K mg base 3 2 "ways_from" ["book","saying"] md:=by
 refine cZ bl.f5 NQ λhr=>?_;unfold FL NT NS NR FK
 exists NQ,UD bl
def UJ:Fs 2 8 ["kind","rule"]:=aM
def UK:Cs ["kind","rule"] 8 ["saying"] [none] [("saying",0),("contrary",2)]:=cc
def FM:AU:=cC (Yb (ab 0) ae) jl
@[simp] def UL:AR:=ah (ab 1)
@[simp] def UM:AR:=ag (aT (b2 (aa 0) (kD (.str "sums")) (aI false)) (ah (ar (Yb (b2 (aa 1) (kD (.int 0)) ao) (Yb (mB (b2 (b2 (aa 1) (kD (.int 1)) ao) (mB (b2 (b2 (cC (Yb (b2 (aa 1) (kD (.int 0)) ao) ae) aV) (kD (.int 2)) a7) (kD (.int 1)) (aI false))) (aI true))) ae)))) aw) UL
def wK:AR:=ag (aT (b2 (aa 0) (kD (.str "eithers")) (aI false)) (ah (cC (Yb (lF (cF (Yb (lF (bq (b1 (ab 1) Yc) [none] (ai 0) tY (FM))) ae) fF)) ae) a8)) aw) UM
def wL:AN->Option D:=aj 2 2 wK
def UN(bl:Bl K w mg):aN P w K mg base 2 2 "exchanged_rule" ["kind","rule"] wL:=by
 exists bl.f8,UJ,UK,wG bl
def UO:Fs 1 9 ["book","kind"]:=aM
def UP:Cs ["book","kind"] 9 ["rule","kind"] [none,some 1] [("rule",0),("exchanged_rule",2),("kind",1)]:=cc
def FN:AU:=cC (Yb (ab 1) (Yb (ab 0) ae)) wL
def NU:AR:=ag (aq 1 (b2 (aa 0) (kD (.int 0)) ao)) (ah (ar (Yb (b1 (aa 1) (hY gt_EXCHANGED_KINDS)) (Yb (cC (Yb (lF (bq (b1 (b2 (aa 0) (kD (.int 1)) ao) Yc) [none,some 1] (ai 0) tY (FN))) ae) a8) ae))))
def wM:AN->Option D:=aj 1 2 NU
def UQ(bl:Bl K w mg):aN P w K mg base 3 1 "exchanged" ["book"] wM:=by
 exists bl.f9,UO,UP,UN bl
def UR:Fs 3 12 ["hands","start","hand"]:=aM
def US:Cs ["hands","start","hand"] 12 ["beacon","hands","hand"] [none,some 0,some 2] [("beacon",0),("hand",1),("hands",1)]:=cc
def FO:AT:=b2 (b2 (aa 1) (aa 0) ao) (aa 2) (aI false)
def FP:AU:=ab 0
def NV:AR:=ah (lF (bq (cF (Yb (ab 1) (Yb (cC (Yb (aa 0) ae) aV) ae)) fg) [none,some 0,some 2] (ai 0) (FO) (FP)))
def Yw:AN->Option D:=aj 3 3 NV
def FQ(bl:Bl K w mg):aN P w K mg base 1 3 "beacons_with" ["hands","start","hand"] Yw:=by
 exists bl.f12,UR,US
def UT:Fs 2 14 ["rule","other"]:=aM
def NW:AR:=ah (ar (Yb (cC (Yb (lF (uW (b2 (aa 0) (kD (.int 0)) ao) (b2 (aa 1) (kD (.int 0)) ao))) ae) a8) (Yb (mB (b2 (b2 (aa 0) (kD (.int 1)) ao) (b2 (aa 1) (kD (.int 1)) ao) (aI true))) ae)))
def mf:AN->Option D:=aj 2 2 NW
def NX(bl:Bl K w mg):aN P w K mg base 1 2 "both_added" ["rule","other"] mf:=by
 exists bl.f14,UT
def UU:Fs 2 15 ["pair","other"]:=aM
def NY:AR:=ah (ar (Yb (cC (Yb (lF (uW (b2 (aa 0) (kD (.int 0)) ao) (b2 (aa 1) (kD (.int 0)) ao))) ae) a8) (Yb (cC (Yb (b2 (aa 0) (kD (.int 1)) ao) (Yb (b2 (aa 1) (kD (.int 1)) ao) ae)) mf) ae)))
def wN:AN->Option D:=aj 2 2 NY
def UV(bl:Bl K w mg):aN P w K mg base 2 2 "pairs_added" ["pair","other"] wN:=by
 exists bl.f15,UU,NX bl
def UW:Fs 2 16 ["pair","by_last","left"]:=aM
def FR:AR:=aq 2 (cC (Yb (ab 2) (Yb (b2 (aa 1) (b2 (b2 (b2 (aa 2) (kD (.int 1)) ao) (kD (.int 0)) ao) (b1 (kD (.int 1)) dh) ao) cP) ae)) wN)
@[simp] def UX:AR:=ah (ab 2)
@[simp] def UY:AR:=ag (c5 (b9 (b1 (b2 (b2 (aa 2) (kD (.int 1)) ao) (kD (.int 0)) ao) aQ) (b2 (b2 (b2 (b2 (aa 2) (kD (.int 1)) ao) (kD (.int 0)) ao) (b1 (kD (.int 1)) dh) ao) (aa 1) (cQ false))) FR 4000) UX
def NZ:AR:=ag (aq 2 (ab 0)) UY
def mh:AN->Option D:=aj 2 3 NZ
def UZ(bl:Bl K w mg):aN P w K mg base 3 2 "cleared" ["pair","by_last"] mh:=by
 exists bl.f16,UW,UV bl
def N0:Fs 1 17 ["book","by_last","void","place","rule","pair","beacons"]:=aM
def U0:Cs ["book","by_last","void","place","rule","pair","beacons"] 17 ["last","by_last"] [none,some 1] [("last",0),("by_last",1)]:=cc
def qY:AR:=ag (aq 5 (gE [1] (cC (Yb (ar (Yb (ar (Yb (ab 3) ae)) (Yb (ab 4) ae))) (Yb (ab 1) ae)) mh))) (ag (aq 6 (b2 (b2 (aa 5) (kD (.int 1)) ao) (kD (.int 0)) ao)) (aT (b1 (aa 6) aQ) (oR 1 (b2 (aa 6) (b1 (kD (.int 1)) dh) ao) (ab 5)) (aT (b9 (b1 (b2 (b2 (aa 5) (kD (.int 1)) ao) (kD (.int 1)) ao) aQ) (b2 (aa 2) (kD .non) (bU false))) (aq 2 (b2 (aa 5) (kD (.int 0)) ao)) aw)))
def FS:AU:=b2 (aa 1) (aa 0) cP
@[simp] def FT:AR:=(wF [1] (ah (ar (Yb (lF (bq (b1 (lF (cF (Yb (aa 1) ae) kf)) Yc) [none,some 1] (ai 0) tY (FS))) (Yb (ab 2) ae)))))
@[simp] def FU:AR:=ag (a9 (b1 (b2 (aa 0) (kD (.int 1)) ao) fG) (ew 3 4) qY) FT
@[simp] def FV:AR:=ag (aq 2 (kD .non)) FU
def FW:AR:=ag (lS 1) FV
def qZ:AN->Option D:=aj 1 7 FW
def U1(bl:Bl K w mg):aN P w K mg base 4 1 "reduced" ["book"] qZ:=by
 refine cZ bl.f17 N0 λhr=>?_;unfold FW FV FU FT
 exists N0,UZ bl,U0
def U2:Fs 2 25 ["rule","evening"]:=aM
def U3:Cs ["rule","evening"] 25 ["saying","evening"] [none,some 1] [("saying",0),("evening",1)]:=cc
def FX:AU:=mB (b2 (b2 (aa 1) (b2 (aa 0) (kD (.int 0)) ao) ao) (b2 (aa 0) (kD (.int 1)) ao) (aI false))
def N3:AR:=ah (cC (Yb (lF (bq (b1 (ab 0) Yc) [none,some 1] (ai 0) tY (FX))) ae) ez)
def wO:AN->Option D:=aj 2 2 N3
def U4(bl:Bl K w mg):aN P w K mg base 1 2 "either_holds" ["rule","evening"] wO:=by
 exists bl.f25,U2,U3
def U5:Fs 2 26 ["rule","evening","lit_ones"]:=aM
def U6:Cs ["rule","evening","lit_ones"] 26 ["beacon","evening"] [none,some 1] [("beacon",0),("evening",1)]:=cc
def FY:AT:=b1 (b2 (aa 1) (aa 0) ao) aQ
def FZ:AU:=ab 0
def N4:AR:=ag (bb 2 (bq (b1 (b2 (aa 0) (kD (.int 0)) ao) Yc) [none,some 1] (ai 0) (FY) (FZ))) (ah (mB (b2 (mB (b2 (b2 (cC (Yb (aa 2) ae) aV) (kD (.int 2)) a7) (kD (.int 1)) (aI false))) (b2 (aa 0) (kD (.int 1)) ao) (aI false))))
def wQ:AN->Option D:=aj 2 3 N4
def U7(bl:Bl K w mg):aN P w K mg base 1 2 "sum_holds" ["rule","evening"] wQ:=by
 exists bl.f26,U5,U6
def U8:Fs 3 27 ["rule","evening","lit"]:=aM
def U9:Cs ["rule","evening","lit"] 27 ["beacon","evening","lit"] [none,some 1,some 2] [("beacon",0),("evening",1),("lit",1)]:=cc
def F0:AU:=mB (b2 (b2 (aa 1) (aa 0) ao) (aa 2) (aI true))
def wR:AR:=ag (aT (b1 (cC (Yb (lF (bq (b1 (b2 (aa 0) (kD (.int 0)) ao) Yc) [none,some 1,some 2] (ai 0) tY (F0))) ae) ez) aQ) (ah (kD (.bl true))) aw) (ah (eu (mB (b2 (b2 (aa 0) (kD (.int 1)) ao) (kD .non) (bU true))) (mB (b2 (b2 (aa 1) (b2 (aa 0) (kD (.int 1)) ao) ao) (aa 2) (aI false)))))
def wU:AN->Option D:=aj 3 3 wR
def U_(bl:Bl K w mg):aN P w K mg base 1 3 "if_holds" ["rule","evening","lit"] wU:=by
 exists bl.f27,U8,U9
def Va:Fs 3 28 ["kind","rule","evening"]:=aM
@[simp] def Vb:AR:=ah (cC (Yb (ab 1) (Yb (ab 2) (Yb (mB (b2 (aa 0) (kD (.str "ifs")) (aI false))) ae))) wU)
@[simp] def Vc:AR:=ag (aT (b2 (aa 0) (kD (.str "sums")) (aI false)) (ah (cC (Yb (ab 1) (Yb (ab 2) ae)) wQ)) aw) Vb
def q0:AR:=ag (aT (b2 (aa 0) (kD (.str "eithers")) (aI false)) (ah (cC (Yb (ab 1) (Yb (ab 2) ae)) wO)) aw) Vc
def q_:AN->Option D:=aj 3 3 q0
def N5(bl:Bl K w mg):aN P w K mg base 2 3 "rule_holds" ["kind","rule","evening"] q_:=by
 exists bl.f28,Va,U4 bl,U7 bl,U_ bl
def Vd:Fs 2 29 ["book","evening"]:=aM
def Ve:Cs ["book","evening"] 29 ["place","rule","book","evening"] [none,none,some 0,some 1] [("place",0),("rule",0),("rule_holds",2),("book",1),("evening",1)]:=cc
def F1:AT:=d7 (b1 (cC (Yb (b2 (aa 2) (kD (.int 0)) ao) (Yb (ab 1) (Yb (ab 3) ae))) q_) aQ)
def F2:AU:=ab 0
def N6:AR:=ah (lF (bq (b1 (b2 (aa 0) (kD (.int 1)) ao) fG) [none,none,some 0,some 1] (ew 0 1) (F1) (F2)))
def wV:AN->Option D:=aj 2 2 N6
def Vf(bl:Bl K w mg):aN P w K mg base 3 2 "broken_rules" ["book","evening"] wV:=by
 exists bl.f29,Vd,Ve,N5 bl
def F3:Fs 2 30 ["book","evening"]:=aM
def N7:AR:=ah (mB (b2 (cC (Yb (cC (Yb (ab 0) (Yb (ab 1) ae)) wV) ae) aV) (kD (.int 0)) (aI false)))
def wW:AN->Option D:=aj 2 2 N7
def F4(bl:Bl K w mg):aN P w K mg base 4 2 "holds" ["book","evening"] wW:=by
 exists bl.f30,F3,Vf bl
def Vg:Fs 2 31 ["kind","rule"]:=aM
def Vh:Cs ["kind","rule"] 31 ["saying"] [none] [("saying",0)]:=cc
def F5:AU:=b2 (aa 0) (kD (.int 0)) ao
@[simp] def Vi:AR:=ah (lF (b2 (lF (cF (Yb (b2 (aa 1) (kD (.int 0)) ao) ae) n0)) (lF (bF (Yb (b2 (aa 1) (kD (.int 1)) ao) ae))) cY))
@[simp] def Vj:AR:=ag (aT (fZ (b2 (aa 0) (kD (.str "sums")) (aI false)) (b2 (b2 (aa 1) (kD (.int 1)) ao) (kD .non) (bU false))) (ah (lF (cF (Yb (b2 (aa 1) (kD (.int 0)) ao) ae) n0))) aw) Vi
def rh:AR:=ag (aT (b2 (aa 0) (kD (.str "eithers")) (aI false)) (ah (lF (bq (b1 (ab 1) Yc) [none] (ai 0) tY (F5)))) aw) Vj
def mi:AN->Option D:=aj 2 2 rh
def F6(bl:Bl K w mg):aN P w K mg base 1 2 "beacons_in" ["kind","rule"] mi:=by
 exists bl.f31,Vg,Vh
def Vk:Fs 1 32 ["book","found","rule"]:=aM
def F7:AR:=cW 1 (cC (Yb (b2 (aa 0) (kD (.int 0)) ao) (Yb (ab 2) ae)) mi) eA
@[simp] def Vl:AR:=ah (lF (CY (aa 1)))
@[simp] def Vm:AR:=ag (a9 (b1 (b2 (aa 0) (kD (.int 1)) ao) Yc) (ai 2) F7) Vl
def N8:AR:=ag (bb 1 (bF ae)) Vm
def wX:AN->Option D:=aj 1 3 N8
def Vn(bl:Bl K w mg):aN P w K mg base 2 1 "beacons_of" ["book"] wX:=by
 exists bl.f32,Vk,F6 bl
def Vo:Fs 2 33 ["kind","rule"]:=aM
def F8:AR:=ah (eu (mB (b2 (cC (Yb (cC (Yb (ab 0) (Yb (ab 1) ae)) mi) ae) aV) (kD (.int 0)) (aI false))) (hP (cC (Yb (ab 0) (Yb (ab 1) (Yb (ar ae) ae))) q_)))
def wY:AN->Option D:=aj 2 2 F8
def Vp(bl:Bl K w mg):aN P w K mg base 3 2 "is_void" ["kind","rule"] wY:=by
 exists bl.f33,Vo,F6 bl,N5 bl
def Vq:Fs 2 34 ["beacons","beacon"]:=aM
def Vr:Cs ["beacons","beacon"] 34 ["other","beacon"] [none,some 1] [("other",0),("beacon",1)]:=cc
def ri:AT:=b2 (aa 0) (aa 1) (aI true)
def rj:AU:=ab 0
def F9:AR:=ah (cC (Yb (lF (bq (b1 (ab 0) Yc) [none,some 1] (ai 0) (ri) (rj))) ae) a8)
def jn:AN->Option D:=aj 2 2 F9
def F_(bl:Bl K w mg):aN P w K mg base 1 2 "without" ["beacons","beacon"] jn:=by
 exists bl.f34,Vq,Vr
def Vs:Fs 3 35 ["rule","beacon","lit"]:=aM
def Vt:Cs ["rule","beacon","lit"] 35 ["saying","beacon"] [none,some 1] [("saying",0),("beacon",1)]:=cc
def Ga:AT:=b2 (b2 (aa 0) (kD (.int 0)) ao) (aa 1) (aI true)
def Gb:AU:=ab 0
def Gc:AR:=ag (aT (b2 (ar (Yb (ab 1) (Yb (ab 2) ae))) (aa 0) (dU false)) (ah (kD .non)) aw) (ah (cC (Yb (lF (bq (b1 (ab 0) Yc) [none,some 1] (ai 0) (Ga) (Gb))) ae) a8))
def wZ:AN->Option D:=aj 3 3 Gc
def Vu(bl:Bl K w mg):aN P w K mg base 1 3 "either_left" ["rule","beacon","lit"] wZ:=by
 exists bl.f35,Vs,Vt
def Vv:Fs 3 36 ["rule","beacon","lit","beacons","odd"]:=aM
@[simp] def Vw:AR:=ah (ar (Yb (ab 3) (Yb (ab 4) ae)))
@[simp] def Vx:AR:=ag (aT (b9 (b2 (cC (Yb (aa 3) ae) aV) (kD (.int 0)) (aI false)) (d7 (b1 (aa 4) aQ))) (ah (kD .non)) aw) Vw
@[simp] def Vy:AR:=ag (aq 4 (mB (b2 (b2 (aa 0) (kD (.int 1)) ao) (aa 2) (aI true)))) Vx
def Gd:AR:=ag (aq 3 (cC (Yb (b2 (aa 0) (kD (.int 0)) ao) (Yb (ab 1) ae)) jn)) Vy
def w_:AN->Option D:=aj 3 5 Gd
def Vz(bl:Bl K w mg):aN P w K mg base 2 3 "sum_left" ["rule","beacon","lit"] w_:=by
 exists bl.f36,Vv,F_ bl
def VA:Fs 3 37 ["rule","beacon","so","head"]:=aM
@[simp] def VB:AR:=ah (ar (Yb (cC (Yb (b2 (aa 0) (kD (.int 0)) ao) (Yb (ab 1) ae)) jn) (Yb (ab 3) ae)))
@[simp] def VC:AR:=ag (aq 3 (iU (b2 (b2 (aa 0) (kD (.int 1)) ao) (aa 1) (aI false)) (kD .non) (b2 (aa 0) (kD (.int 1)) ao))) VB
@[simp] def VD:AR:=ag (aT (b9 (d7 (b1 (aa 2) aQ)) (b2 (aa 1) (b2 (aa 0) (kD (.int 0)) ao) (dU false))) (ah (kD .non)) aw) VC
def rm:AR:=ag (aT (b9 (b1 (aa 2) aQ) (b2 (b2 (aa 0) (kD (.int 1)) ao) (aa 1) (aI false))) (ah (kD .non)) aw) VD
def xa:AN->Option D:=aj 3 4 rm
def VE(bl:Bl K w mg):aN P w K mg base 2 3 "if_left" ["rule","beacon","so"] xa:=by
 exists bl.f37,VA,F_ bl
def VF:Fs 4 38 ["kind","rule","beacon","lit"]:=aM
@[simp] def VG:AR:=ah (cC (Yb (ab 1) (Yb (ab 2) (Yb (mB (b2 (aa 3) (mB (b2 (aa 0) (kD (.str "ifs")) (aI false))) (aI false))) ae))) xa)
@[simp] def VH:AR:=ag (aT (b2 (aa 0) (kD (.str "sums")) (aI false)) (ah (cC (Yb (ab 1) (Yb (ab 2) (Yb (ab 3) ae))) w_)) aw) VG
@[simp] def VI:AR:=ag (aT (b2 (aa 0) (kD (.str "eithers")) (aI false)) (ah (cC (Yb (ab 1) (Yb (ab 2) (Yb (ab 3) ae))) wZ)) aw) VH
def rn:AR:=ag (aT (b2 (aa 2) (cC (Yb (ab 0) (Yb (ab 1) ae)) mi) (dU true)) (ah (ab 1)) aw) VI
def xb:AN->Option D:=aj 4 4 rn
def VJ(bl:Bl K w mg):aN P w K mg base 3 4 "rule_left" ["kind","rule","beacon","lit"] xb:=by
 exists bl.f38,VF,F6 bl,Vu bl,Vz bl,VE bl
def VL:Fs 3 39 ["book","beacon","lit","turned"]:=aM
def VM:Cs ["book","beacon","lit","turned"] 39 ["rule","book","beacon","lit"] [none,some 0,some 1,some 2] [("rule",0),("rule_left",2),("beacon",1),("book",1),("lit",1)]:=cc
def VN:Cs ["book","beacon","lit","turned"] 39 ["rule"] [none] [("rule",0)]:=cc
def Ge:AU:=cC (Yb (b2 (aa 1) (kD (.int 0)) ao) (Yb (ab 0) (Yb (ab 2) (Yb (ab 3) ae)))) xb
def Gg:AT:=b2 (aa 0) (kD .non) (bU true)
def Gh:AU:=ab 0
def N9:AR:=ag (bb 3 (bq (b1 (b2 (aa 0) (kD (.int 1)) ao) Yc) [none,some 0,some 1,some 2] (ai 0) tY (Ge))) (wF [3] (ah (ar (Yb (b2 (aa 0) (kD (.int 0)) ao) (Yb (cC (Yb (lF (bq (b1 (ab 3) Yc) [none] (ai 0) (Gg) (Gh))) ae) a8) ae)))))
def iB:AN->Option D:=aj 3 4 N9
def Gi(bl:Bl K w mg):aN P w K mg base 4 3 "left_behind" ["book","beacon","lit"] iB:=by
 exists bl.f39,VL,VM,VJ bl,VN
def VO:Fs 2 41 ["book","place"]:=aM
def N_:AR:=ah (mB (uL (kD (.int 0)) (aa 1) (cC (Yb (b2 (aa 0) (kD (.int 1)) ao) ae) aV) Ly hB))
def xc:AN->Option D:=aj 2 2 N_
def VP(bl:Bl K w mg):aN P w K mg base 1 2 "is_place" ["book","place"] xc:=by
 exists bl.f41,VO
def VQ:Fs 2 42 ["rule","known"]:=aM
def VR:Cs ["rule","known"] 42 ["beacon","known"] [none,some 1] [("beacon",0),("known",1)]:=cc
def Yy:AU:=qJ (mB (b2 (aa 0) (aa 1) (dU false))) (mB (b2 (aa 0) (aa 1) (dj false)))
def xf:AR:=ah (cC (Yb (lF (bq (b1 (b2 (aa 0) (kD (.int 0)) ao) Yc) [none,some 1] (ai 0) tY (Yy))) ae) gb)
def kQ:AN->Option D:=aj 2 2 xf
def Oa(bl:Bl K w mg):aN P w K mg base 1 2 "body_is_known" ["rule","known"] kQ:=by
 refine cZ bl.f42 VQ λhr=>?_;unfold xf Yy
 exists VR
def VS:Fs 3 43 ["book","known","place","rule"]:=aM
@[simp] def VT:AR:=ah (eu (mB (b2 (b2 (aa 3) (kD (.int 1)) ao) (kD .non) (bU true))) (cC (Yb (ab 3) (Yb (ab 1) ae)) kQ))
@[simp] def VW:AR:=ag (aq 3 (b2 (b2 (aa 0) (kD (.int 1)) ao) (aa 2) ao)) VT
def Gj:AR:=ag (aT (d7 (b1 (cC (Yb (ab 0) (Yb (ab 2) ae)) xc) aQ)) (ah (kD (.bl false))) aw) VW
def xg:AN->Option D:=aj 3 4 Gj
def VY(bl:Bl K w mg):aN P w K mg base 2 3 "is_step" ["book","known","place"] xg:=by
 exists bl.f43,VS,VP bl,Oa bl
def VZ:Fs 2 44 ["book","known","place","rule"]:=aM
def mj:AR:=aT (b9 (b2 (b2 (aa 3) (kD (.int 1)) ao) (aa 1) (cQ true)) (b1 (cC (Yb (ab 0) (Yb (ab 1) (Yb (ab 2) ae))) xg) aQ)) (ah (ab 2)) aw
def Ob:AR:=ag (a9 (b1 (b2 (aa 0) (kD (.int 1)) ao) fG) (ew 2 3) mj) (ah (kD .non))
def ro:AN->Option D:=aj 2 4 Ob
def V0(bl:Bl K w mg):aN P w K mg base 3 2 "step_to_more" ["book","known"] ro:=by
 exists bl.f44,VZ,VY bl
def V3:Fs 2 45 ["book","facts","known","places","place"]:=aM
def V4:Cs ["book","facts","known","places","place"] 45 ["fact"] [none] [("fact",0)]:=cc
def xh:AU:=ar (Yb (ab 0) (Yb (kD (.bl true)) ae))
def xi:AR:=ag (cW 3 (ab 4) b_) (ag (oR 2 (b2 (b2 (b2 (aa 0) (kD (.int 1)) ao) (aa 4) ao) (kD (.int 1)) ao) (kD (.bl true))) (aq 4 (oA [2] (cC (Yb (ab 0) (Yb (ab 2) ae)) ro))))
@[simp] def V5:AR:=ah (ar (Yb (lF (cF (Yb (aa 2) ae) kf)) (Yb (cC (Yb (aa 3) ae) a8) ae)))
@[simp] def V6:AR:=ag (c5 (b2 (aa 4) (kD .non) (bU true)) xi 4000) V5
@[simp] def V7:AR:=ag (aq 4 (oA [2] (cC (Yb (ab 0) (Yb (ab 2) ae)) ro))) V6
@[simp] def V8:AR:=ag (bb 3 (bF ae)) V7
def Oc:AR:=ag (fw 2 (lF (bq (b1 (ab 1) Yc) [none] (ai 0) tY (xh)))) V8
def Yv:AN->Option D:=aj 2 5 Oc
def V9(bl:Bl K w mg):aN P w K mg base 4 2 "derived_in_full" ["book","facts"] Yv:=by
 exists bl.f45,V3,V4,V0 bl
def V_:Fs 1 47 ["book"]:=aM
def Wb:Cs ["book"] 47 ["rule","book"] [none,some 0] [("rule",0),("is_void",2),("book",1)]:=cc
def Gk:AU:=cC (Yb (b2 (aa 1) (kD (.int 0)) ao) (Yb (ab 0) ae)) wY
def Od:AR:=ah (cC (Yb (lF (bq (b1 (b2 (aa 0) (kD (.int 1)) ao) Yc) [none,some 0] (ai 0) tY (Gk))) ae) ez)
def rq:AN->Option D:=aj 1 1 Od
def Wc(bl:Bl K w mg):aN P w K mg base 4 1 "is_broken" ["book"] rq:=by
 exists bl.f47,V_,Wb,Vp bl
def Oe:Fs 1 49 ["beacons","sayings","beacon"]:=aM
def Gm:AR:=cW 1 (lF (bF (Yb (ar (Yb (ab 2) (Yb (kD (.bl false)) ae))) (Yb (ar (Yb (ab 2) (Yb (kD (.bl true)) ae))) ae)))) eA
@[simp] def Of:AR:=(wF [1] (ah (ab 1)))
@[simp] def Og:AR:=ag (a9 (b1 (ab 0) Yc) (ai 2) Gm) Of
def Gn:AR:=ag (bb 1 (bF ae)) Og
def Yu:AN->Option D:=aj 1 3 Gn
def ru(bl:Bl K w mg):aN P w K mg base 1 1 "sayings_of" ["beacons"] Yu:=by
 refine cZ bl.f49 Oe λhr=>?_;unfold Gn Og Of
 exists Oe
def Wd:Fs 3 50 ["ways","saying","other"]:=aM
def Gp:AR:=ah (eu (mB (b2 (aa 2) (b2 (aa 0) (aa 1) bx) (cO false))) (mB (b2 (aa 1) (b2 (aa 0) (aa 2) bx) (cO false))))
def Yq:AN->Option D:=aj 3 3 Gp
def Gq(bl:Bl K w mg):aN P w K mg base 1 3 "lead_to_one_another" ["ways","saying","other"] Yq:=by
 exists bl.f50,Wd
def We:Fs 1 51 ["ways","saying","other"]:=aM
def xj:AR:=ag (aq 2 (cC (Yb (ab 1) ae) jl)) (aT (b1 (cC (Yb (ab 0) (Yb (ab 1) (Yb (ab 2) ae))) Yq) aQ) (ah (ar (Yb (kD (.str "clash")) (Yb (cC (Yb (b2 (aa 0) (aa 1) bx) (Yb (ab 2) ae)) jm) (Yb (cC (Yb (b2 (aa 0) (aa 2) bx) (Yb (ab 1) ae)) jm) ae))))) aw)
def Gs:AR:=ag (a9 (b1 (ab 0) qK) (ai 1) xj) (ah (kD .non))
def ry:AN->Option D:=aj 1 3 Gs
def Wf(bl:Bl K w mg):aN P w K mg base 2 1 "clash_found" ["ways"] ry:=by
 exists bl.f51,We,wG bl,Gq bl,FJ bl
def Wg:Fs 2 52 ["ways","storms","saying","other"]:=aM
def rz:AR:=aT (b9 (b2 (aa 3) (aa 2) (aI true)) (b2 (aa 3) (b2 (aa 0) (aa 2) bx) (cO false))) (ah (ar (Yb (kD (.str "cross")) (Yb (cC (Yb (b2 (aa 0) (aa 2) bx) (Yb (ab 3) ae)) jm) ae)))) aw
def xk:AR:=a9 (b1 (cC (Yb (ab 1) ae) Yu) Yc) (ai 3) rz
def Gu:AR:=ag (a9 (b1 (cC (Yb (ab 1) ae) Yu) Yc) (ai 2) xk) (ah (kD .non))
def rA:AN->Option D:=aj 2 4 Gu
def Wh(bl:Bl K w mg):aN P w K mg base 2 2 "cross_found" ["ways","storms"] rA:=by
 exists bl.f52,Wg,ru bl,FJ bl
def Wi:Fs 3 53 ["ways","keepers","storms","saying","other"]:=aM
def rB:AR:=aT (b9 (b2 (b2 (aa 4) (kD (.int 0)) ao) (b2 (aa 3) (kD (.int 0)) ao) hB) (b1 (cC (Yb (ab 0) (Yb (ab 3) (Yb (ab 4) ae))) Yq) aQ)) (ah (ar (Yb (kD (.str "late")) (Yb (cC (Yb (b2 (aa 0) (aa 3) bx) (Yb (ab 4) ae)) jm) (Yb (cC (Yb (b2 (aa 0) (aa 4) bx) (Yb (ab 3) ae)) jm) ae))))) aw
def xl:AR:=a9 (b1 (cC (Yb (ab 1) ae) Yu) Yc) (ai 4) rB
def Gv:AR:=ag (a9 (b1 (cC (Yb (ab 2) ae) Yu) Yc) (ai 3) xl) (ah (kD .non))
def rC:AN->Option D:=aj 3 5 Gv
def Wj(bl:Bl K w mg):aN P w K mg base 2 3 "late_found" ["ways","keepers","storms"] rC:=by
 exists bl.f53,Wi,ru bl,Gq bl,FJ bl
def Wl:Fs 4 54 ["book","ways","keepers","storms","found","papers"]:=aM
def Wn:Cs ["book","ways","keepers","storms","found","papers"] 54 ["paper"] [none] [("paper",0)]:=cc
def Yp:AT:=b2 (aa 0) (kD .non) (bU true)
def Yr:AU:=ab 0
@[simp] def Wo:AR:=ah (iU (b1 (aa 5) aQ) (b2 (aa 5) (kD (.int 0)) ao) (kD .non))
@[simp] def Wp:AR:=ag (wF [4] (bb 5 (bq (b1 (ab 4) Yc) [none] (ai 0) (Yp) (Yr)))) Wo
@[simp] def Wq:AR:=ag (bb 4 (bF (Yb (cC (Yb (ab 1) ae) ry) (Yb (cC (Yb (ab 1) (Yb (ab 3) ae)) rA) (Yb (cC (Yb (ab 1) (Yb (ab 2) (Yb (ab 3) ae))) rC) ae))))) Wp
def Ys:AR:=ag (aT (b1 (cC (Yb (ab 0) ae) rq) aQ) (ah (ar (Yb (kD (.str "broken")) ae))) aw) Wq
def ml:AN->Option D:=aj 4 6 Ys
def Wr(bl:Bl K w mg):aN P w K mg base 5 4 "storms_paper" ["book","ways","keepers","storms"] ml:=by
 exists bl.f54,Wl,Wc bl,Wf bl,Wh bl,Wj bl,Wn
def Ws:Fs 2 55 ["keeper","ways","dark"]:=aM
def Gw:AR:=ag (aq 2 (ar (Yb (ab 0) (Yb (kD (.bl false)) ae)))) (ah (iU (b2 (cC (Yb (ab 2) ae) jl) (b2 (aa 1) (aa 2) bx) (cO false)) (cC (Yb (ab 2) ae) jl) (ab 2)))
def kR:AN->Option D:=aj 2 3 Gw
def Wt(bl:Bl K w mg):aN P w K mg base 2 2 "free_saying" ["keeper","ways"] kR:=by
 exists bl.f55,Ws,wG bl
def Oh:Fs 3 56 ["ways","keepers","storms","truths","saying","keeper"]:=aM
def Gx:AR:=gj 3 (fB (lF (cF (Yb (b2 (aa 0) (aa 4) bx) ae) iw)))
def xm:AR:=aT (b2 (aa 5) (aa 3) (dj true)) (gj 3 (fB (lF (cF (Yb (b2 (aa 0) (cC (Yb (ab 5) (Yb (ab 0) ae)) kR) bx) ae) iw)))) aw
@[simp] def xn:AR:=(wF [3] (ah (ab 3)))
@[simp] def Oi:AR:=ag (a9 (b1 (ab 1) Yc) (ai 5) xm) xn
@[simp] def Oj:AR:=ag (a9 (b1 (cC (Yb (ab 2) ae) Yu) Yc) (ai 4) Gx) Oi
def Gy:AR:=ag (lS 3) Oj
def xo:AN->Option D:=aj 3 6 Gy
def Wu(bl:Bl K w mg):aN P w K mg base 3 3 "truths_made" ["ways","keepers","storms"] xo:=by
 refine cZ bl.f56 Oh λhr=>?_;unfold Gy Oj Oi xn
 exists Oh,ru bl,Wt bl
def Wv:Fs 4 57 ["keeper","ways","storms","truths","saying"]:=aM
def xp:AR:=aT (b1 (cC (Yb (ab 1) (Yb (ab 4) (Yb (ar (Yb (ab 0) (Yb (kD (.bl true)) ae))) ae))) Yq) aQ) (ah (ar (Yb (ab 0) (Yb (b2 (aa 4) (kD (.int 0)) ao) (Yb (b2 (aa 4) (kD (.int 1)) ao) ae))))) aw
def Gz:AR:=ag (a9 (b1 (cC (Yb (ab 2) ae) Yu) Yc) (ai 4) xp) (ah (ar (Yb (ab 0) (Yb (kD .non) (Yb (b2 (aa 3) (aa 0) cP) ae)))))
def mm:AN->Option D:=aj 4 5 Gz
def Ww(bl:Bl K w mg):aN P w K mg base 2 4 "plan_row" ["keeper","ways","storms","truths"] mm:=by
 exists bl.f57,Wv,ru bl,Gq bl
def Ol:Fs 3 58 ["book","hands","start","keepers","storms","ways","paper","truths"]:=aM
def Wx:Cs ["book","hands","start","keepers","storms","ways","paper","truths"] 58 ["saying","book"] [none,some 0] [("saying",0),("ways_from",2),("book",1)]:=cc
def Wz:Cs ["book","hands","start","keepers","storms","ways","paper","truths"] 58 ["keeper","ways","storms","truths"] [none,some 5,some 4,some 7] [("keeper",0),("plan_row",2),("storms",1),("truths",1),("ways",1)]:=cc
def rD:AU:=ar (Yb (ab 0) (Yb (cC (Yb (ab 1) (Yb (ab 0) ae)) md) ae))
def GA:AU:=cC (Yb (ab 0) (Yb (ab 1) (Yb (ab 2) (Yb (ab 3) ae)))) mm
@[simp] def Om:AR:=(wF [5] (ah (ar (Yb (kD (.str "keeper")) (Yb (ar (Yb (kD (.str "plan")) (Yb (cC (Yb (lF (bq (b1 (ab 3) Yc) [none,some 5,some 4,some 7] (ai 0) tY (GA))) ae) a8) ae))) ae)))))
@[simp] def On:AR:=ag (wF [5] (aq 7 (cC (Yb (ab 5) (Yb (ab 3) (Yb (ab 4) ae))) xo))) Om
@[simp] def GB:AR:=ag (aT (b2 (aa 6) (kD .non) (bU true)) (ah (ar (Yb (kD (.str "storm")) (Yb (ab 6) ae)))) aw) On
@[simp] def rE:AR:=ag (wF [5] (aq 6 (cC (Yb (ab 0) (Yb (ab 5) (Yb (ab 3) (Yb (ab 4) ae)))) ml))) GB
@[simp] def Oo:AR:=ag (iv 5 (lF (bq (b1 (cC (Yb (lF (b2 (aa 3) (aa 4) cY)) ae) Yu) Yc) [none,some 0] (ai 0) tY (rD)))) rE
@[simp] def Oq:AR:=ag (aq 4 (cC (Yb (ab 1) (Yb (ab 2) (Yb (kD (.str "storm")) ae))) Yw)) Oo
def xq:AR:=ag (aq 3 (cC (Yb (ab 1) (Yb (ab 2) (Yb (kD (.str "keeper")) ae))) Yw)) Oq
def rF:AN->Option D:=aj 3 8 xq
def WA(bl:Bl K w mg):aN P w K mg base 6 3 "either_outcome" ["book","hands","start"] rF:=by
 refine cZ bl.f58 Ol λhr=>?_;unfold xq Oq Oo rE GB On Om
 exists Ol,FQ bl,Wx,ru bl,UI bl,Wr bl,Wu bl,Wz,Ww bl
def WC:Fs 2 60 ["rule","sums","whole","beacon","row"]:=aM
def GC:AR:=ag (aq 4 (b3 (aa 1) (aa 3) (ar (Yb (ab 3) (Yb (ar (Yb (ab 3) ae)) (Yb (kD (.bl false)) ae)))) iY)) (aq 2 (cC (Yb (ab 2) (Yb (ar (Yb (b2 (aa 4) (kD (.int 1)) ao) (Yb (b2 (aa 4) (kD (.int 2)) ao) ae))) ae)) mf))
@[simp] def WD:AR:=ah (ab 2)
@[simp] def WE:AR:=ag (a9 (b1 (b2 (aa 0) (kD (.int 0)) ao) Yc) (ai 3) GC) WD
def Os:AR:=ag (aq 2 (ar (Yb (ar ae) (Yb (kD (.bl false)) ae)))) WE
def rG:AN->Option D:=aj 2 5 Os
def WG(bl:Bl K w mg):aN P w K mg base 2 2 "replaced" ["rule","sums"] rG:=by
 exists bl.f60,WC,NX bl
def WI:Fs 2 61 ["beacons","beacon"]:=aM
def WJ:Cs ["beacons","beacon"] 61 ["other","beacon"] [none,some 1] [("other",0),("beacon",1)]:=cc
def GE:AT:=b2 (aa 0) (aa 1) hB
def GF:AU:=ab 0
def Ot:AR:=ah (lF (bq (b1 (ab 0) Yc) [none,some 1] (ai 0) (GE) (GF)))
def xt:AN->Option D:=aj 2 2 Ot
def WK(bl:Bl K w mg):aN P w K mg base 1 2 "ahead_of" ["beacons","beacon"] xt:=by
 exists bl.f61,WI,WJ
def WL:Fs 2 63 ["book","full","place","rule"]:=aM
def rH:AR:=aT (b9 (b2 (b2 (aa 3) (kD (.int 1)) ao) (kD .non) (bU false)) (b1 (cC (Yb (ab 3) (Yb (b2 (aa 1) (kD (.int 0)) ao) ae)) kQ) aQ)) (ah (b2 (b2 (aa 1) (kD (.int 1)) ao) (ar (Yb (ab 2) ae)) o9)) aw
def Ou:AR:=ag (a9 (b1 (b2 (aa 0) (kD (.int 1)) ao) fG) (ew 2 3) rH) (ah (kD .non))
def rJ:AN->Option D:=aj 2 4 Ou
def WM(bl:Bl K w mg):aN P w K mg base 2 2 "places_to_none" ["book","full"] rJ:=by
 exists bl.f63,WL,Oa bl
def WN:Fs 3 64 ["book","full","beacon","heads"]:=aM
def WO:Cs ["book","full","beacon","heads"] 64 ["place","book"] [none,some 0] [("place",0),("book",1)]:=cc
def GG:AU:=b2 (b2 (b2 (aa 1) (kD (.int 1)) ao) (aa 0) ao) (kD (.int 1)) ao
@[simp] def WQ:AR:=ah (oY (b2 (aa 1) (kD (.int 1)) ao) none (some (b2 (b2 (aa 3) (ab 2) iu) (kD (.int 1)) cN)))
@[simp] def WU:AR:=ag (aT (b2 (aa 2) (aa 3) (dU true)) (ah (kD .non)) aw) WQ
def GH:AR:=ag (bb 3 (bq (b1 (b2 (aa 1) (kD (.int 1)) ao) Yc) [none,some 0] (ai 0) tY (GG))) WU
def Yz:AN->Option D:=aj 3 4 GH
def WV(bl:Bl K w mg):aN P w K mg base 1 3 "places_to_beacon" ["book","full","beacon"] Yz:=by
 exists bl.f64,WN,WO
def WW:Fs 2 65 ["beacons","known"]:=aM
def WX:Cs ["beacons","known"] 65 ["beacon","known"] [none,some 1] [("beacon",0),("known",1)]:=cc
def GJ:AT:=b2 (aa 0) (aa 1) (dU false)
def GK:AU:=ab 0
def Ov:AR:=ah (cC (Yb (lF (bq (b1 (ab 0) Yc) [none,some 1] (ai 0) (GJ) (GK))) ae) a8)
def rL:AN->Option D:=aj 2 2 Ov
def WY(bl:Bl K w mg):aN P w K mg base 1 2 "some_of" ["beacons","known"] rL:=by
 exists bl.f65,WW,WX
def WZ:Fs 3 66 ["beacon","storms","first"]:=aM
def Ow:AR:=ah (lF (b2 (lF (cF (Yb (cC (Yb (ab 1) (Yb (ab 0) ae)) jn) ae) n0)) (cC (Yb (ab 2) (Yb (ab 0) ae)) xt) cY))
def xu:AN->Option D:=aj 3 3 Ow
def W0(bl:Bl K w mg):aN P w K mg base 2 3 "facts_beside" ["beacon","storms","first"] xu:=by
 exists bl.f66,WZ,F_ bl,WK bl
def W1:Fs 3 67 ["book","hands","start","keepers","storms","whole","places","first","rows","beacon","full"]:=aM
def xw:AR:=ag (aq 10 (cC (Yb (ab 0) (Yb (cC (Yb (ab 9) (Yb (ab 4) (Yb (ab 7) ae))) xu) ae)) Yv)) (ag (aq 6 (cC (Yb (ab 0) (Yb (ab 10) (Yb (ab 9) ae))) Yz)) (ag (aT (b2 (aa 6) (kD .non) (bU true)) (ah (ar (Yb (kD (.str "storm")) (Yb (ar (Yb (kD (.str "lone")) (Yb (ab 9) (Yb (b2 (aa 5) (kD (.int 1)) ao) (Yb (ab 6) ae))))) ae)))) aw) (cW 8 (ar (Yb (ab 9) (Yb (cC (Yb (ab 3) (Yb (b2 (aa 10) (kD (.int 0)) ao) ae)) rL) ae))) b_)))
@[simp] def W2:AR:=ah (ar (Yb (kD (.str "keeper")) (Yb (ar (Yb (kD (.str "rows")) (Yb (ab 7) (Yb (cC (Yb (aa 8) ae) a8) ae)))) ae)))
@[simp] def GL:AR:=ag (a9 (b1 (ab 4) Yc) (ai 9) xw) W2
@[simp] def W3:AR:=ag (bb 8 (bF ae)) GL
@[simp] def W4:AR:=ag (aq 7 (cC (Yb (ab 3) (Yb (b2 (aa 5) (kD (.int 0)) ao) ae)) rL)) W3
@[simp] def W5:AR:=ag (aT (b2 (aa 6) (kD .non) (bU true)) (ah (ar (Yb (kD (.str "storm")) (Yb (ar (Yb (kD (.str "lone")) (Yb (kD .non) (Yb (ar ae) (Yb (ab 6) ae))))) ae)))) aw) W4
@[simp] def W6:AR:=ag (aq 6 (cC (Yb (ab 0) (Yb (ab 5) ae)) rJ)) W5
@[simp] def W8:AR:=ag (aq 5 (cC (Yb (ab 0) (Yb (ab 4) ae)) Yv)) W6
@[simp] def W9:AR:=ag (aq 4 (cC (Yb (ab 1) (Yb (ab 2) (Yb (kD (.str "storm")) ae))) Yw)) W8
def xx:AR:=ag (aq 3 (cC (Yb (ab 1) (Yb (ab 2) (Yb (kD (.str "keeper")) ae))) Yw)) W9
def kT:AN->Option D:=aj 3 11 xx
def W_(bl:Bl K w mg):aN P w K mg base 5 3 "if_outcome" ["book","hands","start"] kT:=by
 exists bl.f67,W1,FQ bl,V9 bl,WM bl,WY bl,W0 bl,WV bl
def Xa:Fs 1 69 ["pair"]:=aM
def Ox:AR:=ah (b2 (b2 (b2 (aa 0) (kD (.int 1)) ao) (kD (.int 0)) ao) (b1 (kD (.int 1)) dh) ao)
def rM:AN->Option D:=aj 1 1 Ox
def Oy(bl:Bl K w mg):aN P w K mg base 1 1 "last_beacon" ["pair"] rM:=by
 exists bl.f69,Xa
def Xb:Fs 3 70 ["pairs","void","storms","lost"]:=aM
def Xc:Cs ["pairs","void","storms","lost"] 70 ["pair","storms"] [none,some 2] [("pair",0),("last_beacon",2),("storms",1)]:=cc
def GM:AT:=b2 (cC (Yb (ab 0) ae) rM) (aa 1) (dU false)
def GN:AU:=b2 (aa 0) (kD (.int 0)) ao
@[simp] def Xd:AR:=ah (iU (b1 (aa 3) aQ) (b2 (aa 3) (kD (.int 0)) ao) (kD .non))
@[simp] def Xe:AR:=ag (bb 3 (bq (b1 (ab 0) Yc) [none,some 2] (ai 0) (GM) (GN))) Xd
def xy:AR:=ag (aT (b2 (aa 1) (kD .non) (bU true)) (ah (ab 1)) aw) Xe
def mn:AN->Option D:=aj 3 4 xy
def Xf(bl:Bl K w mg):aN P w K mg base 2 3 "storms_places" ["pairs","void","storms"] mn:=by
 exists bl.f70,Xb,Xc,Oy bl
def Oz:Fs 2 71 ["pairs","keepers","rules","rows","keeper","rule","rest"]:=aM
def Xg:Cs ["pairs","keepers","rules","rows","keeper","rule","rest"] 71 ["pair"] [none] [("pair",0),("last_beacon",2)]:=cc
def Xh:Cs ["pairs","keepers","rules","rows","keeper","rule","rest"] 71 ["keeper","rows"] [none,some 3] [("keeper",0),("rows",1)]:=cc
def rN:AU:=ar (Yb (cC (Yb (ab 0) ae) rM) (Yb (b2 (aa 0) (kD (.int 1)) ao) ae))
def xA:AR:=ag (aq 5 (b3 (aa 2) (aa 4) (ar (Yb (ar (Yb (ab 4) ae)) (Yb (kD (.bl false)) ae))) iY)) (ag (aq 6 (gE [3] (cC (Yb (ar (Yb (oY (b2 (aa 5) (kD (.int 0)) ao) none (some (b1 (kD (.int 1)) dh))) (Yb (kD (.bl false)) ae))) (Yb (ab 3) ae)) rG))) (oR 3 (aa 4) (ar (Yb (ab 4) (Yb (b2 (aa 6) (kD (.int 0)) ao) (Yb (mB (b2 (b2 (aa 6) (kD (.int 1)) ao) (b2 (aa 5) (kD (.int 1)) ao) (aI true))) ae))))))
def GO:AU:=b2 (aa 1) (aa 0) cP
@[simp] def xB:AR:=(wF [3] (ah (cC (Yb (lF (bq (b1 (ab 1) Yc) [none,some 3] (ai 0) tY (GO))) ae) a8)))
@[simp] def OA:AR:=ag (a9 (b1 (ab 1) Yc) (ai 4) xA) xB
@[simp] def OB:AR:=ag (lS 3) OA
def GP:AR:=ag (fw 2 (lF (bq (b1 (ab 0) Yc) [none] (ai 0) tY (rN)))) OB
def xC:AN->Option D:=aj 2 7 GP
def Xi(bl:Bl K w mg):aN P w K mg base 3 2 "sum_rows" ["pairs","keepers"] xC:=by
 refine cZ bl.f71 Oz λhr=>?_;unfold GP OB OA xB
 exists Oz,Xg,Oy bl,WG bl,Xh
def Xj:Fs 3 72 ["book","hands","start","keepers","storms","answer","places"]:=aM
@[simp] def Xk:AR:=ah (ar (Yb (kD (.str "keeper")) (Yb (ar (Yb (kD (.str "sums")) (Yb (cC (Yb (b2 (aa 5) (kD (.int 0)) ao) (Yb (ab 3) ae)) xC) ae))) ae)))
@[simp] def Xl:AR:=ag (aT (b2 (aa 6) (kD .non) (bU true)) (ah (ar (Yb (kD (.str "storm")) (Yb (ar (Yb (kD (.str "odd")) (Yb (ab 6) ae))) ae)))) aw) Xk
@[simp] def Xm:AR:=ag (aq 6 (cC (Yb (b2 (aa 5) (kD (.int 0)) ao) (Yb (b2 (aa 5) (kD (.int 1)) ao) (Yb (ab 4) ae))) mn)) Xl
@[simp] def Xn:AR:=ag (aq 5 (cC (Yb (ab 0) ae) qZ)) Xm
@[simp] def Xo:AR:=ag (aq 4 (cC (Yb (ab 1) (Yb (ab 2) (Yb (kD (.str "storm")) ae))) Yw)) Xn
def GQ:AR:=ag (aq 3 (cC (Yb (ab 1) (Yb (ab 2) (Yb (kD (.str "keeper")) ae))) Yw)) Xo
def mq:AN->Option D:=aj 3 7 GQ
def Xp(bl:Bl K w mg):aN P w K mg base 5 3 "sum_outcome" ["book","hands","start"] mq:=by
 exists bl.f72,Xj,FQ bl,U1 bl,Xf bl,Xi bl
def Xq:Fs 3 74 ["book","hands","start"]:=aM
@[simp] def Xr:AR:=ah (cC (Yb (ab 0) (Yb (ab 1) (Yb (ab 2) ae))) kT)
@[simp] def Xs:AR:=ag (aT (b2 (b2 (aa 0) (kD (.int 0)) ao) (kD (.str "nots")) (aI false)) (ah (cC (Yb (cC (Yb (ab 0) ae) wM) (Yb (ab 1) (Yb (ab 2) ae))) kT)) aw) Xr
@[simp] def Xu:AR:=ag (aT (b2 (b2 (aa 0) (kD (.int 0)) ao) (kD (.str "sums")) (aI false)) (ah (cC (Yb (ab 0) (Yb (ab 1) (Yb (ab 2) ae))) mq)) aw) Xs
def kU:AR:=ag (aT (b2 (b2 (aa 0) (kD (.int 0)) ao) (kD (.str "eithers")) (aI false)) (ah (cC (Yb (ab 0) (Yb (ab 1) (Yb (ab 2) ae))) rF)) aw) Xu
def xD:AN->Option D:=aj 3 3 kU
def Xv(a:Bl K w mg):aN P w K mg base 7 3 "outcome" ["book","hands","start"] xD:=by
 refine FE a.f74 Xq λhr=>?_
 exists WA a,Xp a,W_ a,UQ a
def Xw:Fs 1 76 ["thing"]:=aM
def Xx:AR:=ah (eu (mB (b1 (aa 0) (f7 "str"))) (mB (b1 (aa 0) (CL false NI))))
def GR:AN->Option D:=aj 1 1 Xx
def Xy(bl:Bl K w mg):aN P w K mg base 1 1 "is_hand" ["thing"] GR:=by
 exists bl.f76,Xw
def Xz:Fs 2 77 ["book","hands"]:=aM
def XA:Cs ["book","hands"] 77 ["thing"] [none] [("thing",0),("is_hand",2)]:=cc
def XB:Cs ["book","hands"] 77 ["beacon","hands"] [none,some 1] [("beacon",0),("len",2),("hands",1)]:=cc
def GS:AU:=cC (Yb (ab 0) ae) GR
def GU:AU:=mB (b2 (aa 0) (cC (Yb (aa 1) ae) aV) A5)
@[simp] def XC:AR:=aT (b1 (cC (Yb (lF (bq (b1 (cC (Yb (ab 0) ae) wX) Yc) [none,some 1] (ai 0) tY (GU))) ae) ez) aQ) nS aw
@[simp] def XD:AR:=ag (aT (d7 (b1 (cC (Yb (lF (bq (b1 (ab 1) Yc) [none] (ai 0) tY (GS))) ae) gb) aQ)) nS aw) XC
def GV:AR:=ag (aT (b2 (cC (Yb (aa 1) ae) aV) (kD (.int 60)) A4) nS aw) XD
def kW:AN->Option D:=aj 2 2 GV
def XE(bl:Bl K w mg):aN P w K mg base 3 2 "check_hands" ["book","hands"] kW:=by
 exists bl.f77,Xz,XA,Xy bl,XB,Vn bl
def XF:Fs 2 80 ["script","k"]:=aM
def GW:AR:=ag (aT (b2 (aa 1) (cC (Yb (aa 0) ae) aV) hB) (ah (b2 (aa 0) (aa 1) ao)) aw) (ah (kD (.int 0)))
def kX:AN->Option D:=aj 2 2 GW
def XG(bl:Bl K w mg):aN P w K mg base 1 2 "_law_cell" ["script","k"] kX:=by
 exists bl.f80,XF
def XH:Fs 2 81 ["cell","by"]:=aM
def OC:AR:=ah (b2 (b2 (b2 (aa 0) (kD (.int 2305843009213693951)) a7) (aa 1) fY) (kD (.int 2305843009213693951)) a7)
def mr:AN->Option D:=aj 2 2 OC
def GX(bl:Bl K w mg):aN P w K mg base 1 2 "_law_mixed" ["cell","by"] mr:=by
 exists bl.f81,XH
def XI:Fs 2 82 ["cell","many","left"]:=aM
def XJ:Cs ["cell","many","left"] 82 ["k","left"] [none,some 2] [("k",0),("left",1)]:=cc
def xE:AU:=b2 (lF (bF (Yb (kD (.str "keeper")) (Yb (kD (.str "storm")) ae)))) (b2 (b2 (aa 1) (aa 0) eC) (kD (.int 2)) a7) ao
def OD:AR:=ag (aq 2 (cC (Yb (ab 0) (Yb (kD (.int 1442695040888963407)) ae)) mr)) (ah (cC (Yb (lF (bq (cF (Yb (ab 1) ae) dg) [none,some 2] (ai 0) tY (xE))) ae) a8))
def xF:AN->Option D:=aj 2 3 OD
def XM(bl:Bl K w mg):aN P w K mg base 2 2 "_law_hands" ["cell","many"] xF:=by
 exists bl.f82,XI,GX bl,XJ
def aBa:Fs 4 84 ["kind","cell","start","many","left","size","picked","k"]:=aM
def aAa:Cs ["kind","cell","start","many","left","size","picked","k"] 84 ["k","picked","left"] [none,some 6,some 4] [("k",0),("left",1),("picked",1)]:=cc
def rO:AR:=ag (aT (b2 (b2 (aa 2) (b2 (aa 4) (b2 (aa 3) (aa 2) eZ) a7) cN) (aa 6) (dU true)) (cW 6 (b2 (aa 2) (b2 (aa 4) (b2 (aa 3) (aa 2) eZ) a7) cN) b_) aw) (aq 4 (b2 (aa 4) (b2 (aa 3) (aa 2) eZ) de))
def xG:AU:=ar (Yb (b2 (aa 1) (aa 0) ao) (Yb (mB (b2 (b2 (b2 (aa 2) (aa 0) eC) (kD (.int 2)) a7) (kD (.int 1)) (aI false))) ae))
@[simp] def XO:AR:=ah (ar (Yb (cC (Yb (lF (cF (Yb (aa 6) ae) fF)) ae) a8) (Yb (b2 (aa 2) (b2 (b2 (aa 4) (kD (.int 4)) de) (b2 (aa 3) (aa 2) eZ) a7) cN) ae)))
@[simp] def XQ:AR:=ag (aT (b2 (b2 (aa 4) (kD (.int 4)) a7) (kD (.int 1)) (aI false)) (bb 6 (uC (aa 6) (some (kD (.int 1))) none)) aw) XO
@[simp] def XR:AR:=ag (aT (b2 (b2 (aa 4) (kD (.int 4)) a7) (kD (.int 0)) (aI false)) (ah (ar (Yb (cC (Yb (lF (cF (Yb (aa 6) ae) fF)) ae) a8) (Yb (kD .non) ae)))) aw) XQ
@[simp] def XS:AR:=ag (aT (b2 (aa 0) (kD (.str "sums")) (aI false)) (ah (ar (Yb (cC (Yb (lF (cF (Yb (aa 6) ae) fF)) ae) a8) (Yb (mB (b2 (b2 (aa 4) (kD (.int 2)) a7) (kD (.int 1)) (aI false))) ae)))) aw) XR
@[simp] def XT:AR:=ag (aT (b2 (aa 0) (kD (.str "eithers")) (aI false)) (wF [6] (ah (cC (Yb (lF (cF (Yb (lF (bq (cF (Yb (cC (Yb (aa 6) ae) aV) ae) dg) [none,some 6,some 4] (ai 0) tY (xG))) ae) fF)) ae) a8))) aw) XS
@[simp] def XU:AR:=ag (a9 (cF (Yb (ab 5) ae) dg) (ai 7) rO) XT
@[simp] def XW:AR:=ag (bb 6 (bF ae)) XU
@[simp] def XX:AR:=ag (aq 4 (b2 (aa 4) (kD (.int 8)) de)) XW
@[simp] def XY:AR:=ag (aT (b2 (aa 0) (kD (.str "eithers")) (aI false)) (aq 5 (cC (Yb (aa 5) (Yb (kD (.int 2)) ae)) fm)) aw) XX
@[simp] def XZ:AR:=ag (aq 5 (b2 (lF (j_ [1,2,2,2,1,2,3,4])) (b2 (aa 4) (kD (.int 8)) a7) ao)) XY
def mu:AR:=ag (aq 4 (cC (Yb (ab 1) (Yb (kD (.int 1181783497276652981)) ae)) mr)) XZ
def rP:AN->Option D:=aj 4 8 mu
theorem X0(a:Bl K w mg):aN P w K mg base 2 4 "_law_rule" ["kind","cell","start","many"] rP:=by
 refine cZ a.f84 aBa λb=>?_;exact(fI (gI 4 aBa.nd (i8 (GX a) b rfl (Ym (dA 1) (Ym dB dW)) wD)) (fI (DY _ _ _ _ _ _ 5 _ _ _ [1,2,2,2,1,2,3,4] aBa.nd (by decide +kernel) rfl (by trivial) (by trivial) (by intro _ _;rfl) (Yo (gg (Yi 4) (Yo dB)))) (fI (i7 (gG b.units (Yi 0) (Yo i4)) (gH (gI 5 aBa.nd (i5 (Kz rfl) Mc rfl a.Min boot_min (eR (Yi 5) (eR (Yo dB) fy))))) i6) (fI (gI 4 aBa.nd (u3 (Yi 4) (Yo dB))) (fI (DG 6 aBa.nd (MH dW)) (fI (MM jd rfl (u4 rfl a.Range (Ym (dA 5) dW)) (u5 7 aBa.nd) (fI (i7 (Mz b.units (Yo (l4 (Yi 2) (Yo (gg (Yi 4) (Yo (uZ (Yi 3) (Yi 2))))))) (Yi 6)) (gH (ML 6 (l4 (Yi 2) (Yo (gg (Yi 4) (Yo (uZ (Yi 3) (Yi 2)))))))) i6) (gH (gI 4 aBa.nd (u3 (Yi 4) (Yo (uZ (Yi 3) (Yi 2)))))))) (fI (i7 (gG b.units (Yi 0) (Yo i4)) (gH (MK [6] (l3 (pf nC n3 rfl a.Tuple boot_tuple (eR (Yo (ku (lZ n_ oa rfl a.Sorted boot_sorted (eR (Yo (ku (MO aAa rfl (u4 rfl a.Range (Ym (i5 tM uF rfl a.Len PySem.boot_len (eR (Yi 6) fy)) dW)) (λ_ _ _ _ _=>(u5 0 aAa.nd)) (λ_ _ _ _ _=>MN) (λ_ _ _ _ _=>(pe (Ym (kr (Yi 1) (Yi 0)) (Ym (o_ b.units (Yo (gg (Yo (D5 (Yi 2) (Yi 0))) (Yo dB))) (Yo dB)) dW)))) (LI (i:=0) rfl)))) fy)))) fy))))) i6) (fI (i7 (gG b.units (Yi 0) (Yo i4)) (gH (l3 (pe (Ym (pf nC n3 rfl a.Tuple boot_tuple (eR (Yo (ku (lZ n_ oa rfl a.Sorted boot_sorted (eR (Yi 6) fy)))) fy)) (Ym (o_ b.units (Yo (gg (Yi 4) (Yo dB))) (Yo dB)) dW))))) i6) (fI (i7 (gG b.units (Yo (gg (Yi 4) (Yo dB))) (Yo dB)) (gH (l3 (pe (Ym (pf nC n3 rfl a.Tuple boot_tuple (eR (Yo (ku (lZ n_ oa rfl a.Sorted boot_sorted (eR (Yi 6) fy)))) fy)) (Ym My dW))))) i6) (fI (i7 (gG b.units (Yo (gg (Yi 4) (Yo dB))) (Yo dB)) (gH (DG 6 aBa.nd (MD (fl:=(some (kD (.int 1)))) (fh:=none) (Yi 6) (pd (Yo dB)) pb))) i6) (gH (l3 (pe (Ym (pf nC n3 rfl a.Tuple boot_tuple (eR (Yo (ku (lZ n_ oa rfl a.Sorted boot_sorted (eR (Yi 6) fy)))) fy)) (Ym (l4 (Yi 2) (Yo (gg (Yo (u3 (Yi 4) (Yo dB))) (Yo (uZ (Yi 3) (Yi 2)))))) dW)))))))))))))))
def X1:Fs 3 85 ["book","hands","start","found"]:=aM
@[simp] def X2:AR:=ah (b2 (aa 3) (kD (.int 0)) ao)
@[simp] def X3:AR:=ag (aT (fZ (d7 (b1 (mB (b1 (aa 3) (f7 "tuple"))) aQ)) (b2 (cC (Yb (aa 3) ae) aV) (kD (.int 2)) (aI true))) (ah (kD (.str "nobody"))) aw) X2
def OE:AR:=ag (aq 3 (cC (Yb (ab 0) (Yb (ab 1) (Yb (ab 2) ae))) xD)) X3
def gm:AN->Option D:=aj 3 4 OE
def xH(bl:Bl K w mg):aN P w K mg base 8 3 "_law_hand" ["book","hands","start"] gm:=by
 exists bl.f85,X1,Xv bl
def X4:dE ["self","book","hands"] ["self","book","hands"] (aDa (inClass (top 78) 0)):=aM
def X5:Hm:=qT 0 "truths" ["Watch"]
def X6:Hm:=bz (kO 0 "hands" ["Watch"] (cC (Yb (aa 2) ae) a8)) X5
def X7:Hm:=bz (kO 0 "book" ["Watch"] (ab 1)) X6
def X8:Hm:=bz (fM (ko (cC (Yb (ab 1) (Yb (ab 2) ae)) kW))) X7
def rQ:Hf:=eG 3 X8
def X9(bl:Bl K w mg):Fo P w K mg base 4 3 "Watch" ["self","book","hands"] [] rQ:=by
 refine FB bl.i_Watch bl.c_Watch X4 (λhr=>?_)
 exists XE bl
def X_:dE ["self"] ["self"] (aDa (inClass (top 78) 1)):=aM
def GY:AR:=ag (aT (b2 (cC (Yb (b1 (ab 0) (cR "Watch" "truths")) ae) aV) (cC (Yb (b1 (ab 0) (cR "Watch" "hands")) ae) aV) (aI false)) (ah (kD .non)) aw) (ah (b2 (b1 (ab 0) (cR "Watch" "hands")) (cC (Yb (b1 (ab 0) (cR "Watch" "truths")) ae) aV) ao))
def gN:AN->Option D:=aj 1 1 GY
def GZ(bl:Bl K w mg){c:Str}(F:Mq K c "turn" "Watch.turn" (inClass (top 78) 1)):gk P w K mg base 1 c "turn" ["self"] (cx K 1 gN):=by
 refine kE F X_ λhr=>?_
 exists rfl
def YA:dE ["self"] ["self"] (aDa (inClass (top 78) 4)):=aM
def xI:AR:=ag (aT (b2 (b1 (ab 0) (cA "Watch" "turn" gN)) (kD .non) (bU true)) (ah (kD .non)) aw) (ah (iU (b1 (cC (Yb (b1 (ab 0) (cR "Watch" "book")) (Yb (b1 (ab 0) (cR "Watch" "truths")) ae)) wW) aQ) (kD (.str "keeper")) (kD (.str "storm"))))
def kY:AN->Option D:=aj 1 1 xI
def OF(bl:Bl K w mg){c:Str}(F:Mq K c "winner" "Watch.winner" (inClass (top 78) 4)):gk P w K mg base 5 c "winner" ["self"] (cx K 1 kY):=by
 refine kE F YA λhr=>?_
 exists GZ bl bl.r_Watch_turn,F4 bl
def YB:dE ["self","lit"] ["self","lit"] (aDa (inClass (top 78) 5)):=aM
def YC:Hm:=kJ (v_ (b1 (ab 0) (cA "Watch" "winner" kY)))
def YD:Hm:=bz (qU 0 (ab 1)) YC
def YE:Hm:=bz (fM (aT (b9 (b2 (aa 1) (kD (.bl true)) (oV true)) (b2 (aa 1) (kD (.bl false)) (oV true))) nS aw)) YD
def YF:Hm:=bz (v7 (wA (b2 (b1 (ab 0) (cA "Watch" "turn" gN)) (kD .non) (bU false))) (fM nS) iy) YE
def rR:Hf:=eG 2 YF
def YG(bl:Bl K w mg){c:Str}(F:Mq K c "settle" "Watch.settle" (inClass (top 78) 5)):gk P w K mg base 6 c "settle" ["self","lit"] (kK K 2 rR):=by
 refine Fz F YB λhr=>?_
 exists GZ bl bl.r_Watch_turn,OF bl bl.r_Watch_winner
def OG:dE ["self","book","beacon","lit"] ["self"] (aDa (inClass (top 78) 3)):=aM
def xJ:AR:=aq 1 (cC (Yb (ab 1) (Yb (ab 2) (Yb (ab 3) ae))) iB)
@[simp] def YH:AR:=ah (ab 1)
@[simp] def YI:AR:=ag (a9 (b1 (b1 (ab 0) (cR "Watch" "truths")) fG) (ew 2 3) xJ) YH
def OH:AR:=ag (aq 1 (b1 (ab 0) (cR "Watch" "book"))) YI
def jo:AN->Option D:=aj 1 4 OH
def OI(bl:Bl K w mg){c:Str}(F:Mq K c "left" "Watch.left" (inClass (top 78) 3)):gk P w K mg base 5 c "left" ["self"] (cx K 1 jo):=by
 refine kE F OG λhr=>?_
 exists OG,Gi bl
def aCa:Fs 3 86 ["book","hands","lights","watch","beacon","left","hand","dark","lit","due"]:=aM
def G6:List (Str×Hf):=[("Watch",rR)]
def YJ(a:Bl K w mg):OkTb P w K mg base 6 "settle" (kK K 2) G6:=⟨⟨_,Fx (YG a a.r_Watch_settle)⟩,trivial⟩
def OJ:Hm:=Ny (kL "settle" G6 (ab 3) (Yb (mB (b2 (b2 (b2 (aa 2) (b2 (aa 4) (kD (.int 59)) a7) eC) (kD (.int 2)) a7) (kD (.int 1)) (aI false))) ae))
def OK:Hm:=bz (v7 (wA (fZ (b2 (aa 6) (aa 9) (aI true)) (fZ (b2 (aa 7) (kD (.str "nobody")) (aI false)) (fZ (b2 (aa 8) (kD (.str "nobody")) (aI false)) (b2 (b1 (ab 3) (cA "Watch" "turn" gN)) (b2 (aa 1) (aa 4) ao) (aI true)))))) (fM (ah (kD (.bl false)))) iy) OJ
def OL:Hm:=bz (fM (aT (fZ (b2 (aa 7) (b2 (aa 1) (aa 4) ao) (aI false)) (b2 (aa 8) (b2 (aa 1) (aa 4) ao) (aI false))) (aq 9 (b2 (aa 1) (aa 4) ao)) aw)) OK
def OM:Hm:=bz (fM (aq 9 (hZ ["keeper","storm"] [kD (.str "storm"),kD (.str "keeper")] (b2 (aa 1) (aa 4) ao)))) OL
def ON:Hm:=bz (fM (aq 8 (cC (Yb (cC (Yb (ab 5) (Yb (ab 4) (Yb (kD (.bl true)) ae))) iB) (Yb (ab 1) (Yb (b2 (aa 4) (kD (.int 1)) cN) ae))) gm))) OM
def OO:Hm:=bz (fM (aq 7 (cC (Yb (cC (Yb (ab 5) (Yb (ab 4) (Yb (kD (.bl false)) ae))) iB) (Yb (ab 1) (Yb (b2 (aa 4) (kD (.int 1)) cN) ae))) gm))) ON
def G7:Hm:=bz (fM (aq 6 (cC (Yb (ab 5) (Yb (ab 1) (Yb (ab 4) ae))) gm))) OO
def G8:Hm:=bz (iA 5 (NH (b1 (ab 3) (cA "Watch" "left" jo)))) G7
def OP:Hm:=kJ (v_ (mB (b2 (b1 (ab 3) (cA "Watch" "winner" kY)) (cC (Yb (b1 (ab 3) (cA "Watch" "left" jo)) (Yb (ab 1) (Yb (cC (Yb (aa 1) ae) aV) ae))) gm) (aI false))))
def OQ:Hm:=bz (kF (cF (Yb (cC (Yb (aa 1) ae) aV) ae) dg) (ai 4) G8) OP
def YK:Hm:=bz (iA 3 (kM "Watch" true [] [] (Yb (ab 0) (Yb (ab 1) ae)) rQ)) OQ
def OR:AR:=qW YK
def rS:AN->Option D:=aj 3 10 OR
theorem YL(b:Bl K w mg):aN P w K mg base 9 3 "_law_steps" ["book","hands","lights"] rS:=by
 refine cZ b.f86 aCa λa=>?_;exact(Fw (gM (NB 3 aCa.nd (Fp true [] (X9 b) a rfl (Ym (dA 0) (Ym (dA 1) dW)) UA)) (gM (Fj jd rfl (u4 rfl b.Range (Ym (i5 tM uF rfl b.Len PySem.boot_len (eR (Yi 1) fy)) dW)) (u5 4 aCa.nd) (gM (NB 5 aCa.nd (Ux (qP (OI b b.r_Watch_left) a (dA 3)))) (gM (kG (gI 6 aCa.nd (i8 (xH b) a rfl (Ym (dA 5) (Ym (dA 1) (Ym (dA 4) dW))) jk))) (gM (kG (gI 7 aCa.nd (i8 (xH b) a rfl (Ym (i8 (Gi b) a rfl (Ym (dA 5) (Ym (dA 4) (Ym uY dW))) jk) (Ym (dA 1) (Ym (l4 (Yi 4) (Yo dB)) dW))) jk))) (gM (kG (gI 8 aCa.nd (i8 (xH b) a rfl (Ym (i8 (Gi b) a rfl (Ym (dA 5) (Ym (dA 4) (Ym uY dW))) jk) (Ym (dA 1) (Ym (l4 (Yi 4) (Yo dB)) dW))) jk))) (gM (kG (gI 9 aCa.nd (DR a.units [(Str.ofString "keeper"),(Str.ofString "storm")] [(kD (.str "storm")),(kD (.str "keeper"))] (by decide +kernel) (by decide) (by decide) (MR i4 (MR i4 DP)) (Yo (kr (Yi 1) (Yi 4)))))) (gM (kG (i7 (Ea (pa (gG a.units (Yi 7) (Yo (kr (Yi 1) (Yi 4)))) (Dv (gG a.units (Yi 8) (Yo (kr (Yi 1) (Yi 4))))))) (gH (gI 9 aCa.nd (kr (Yi 1) (Yi 4)))) i6)) (gM (qR (NA (Ea (pa (Dp a.units (Yi 6) (Yi 9)) (pa (gG a.units (Yi 7) (Yo i4)) (pa (gG a.units (Yi 8) (Yo i4)) (Dv (Dp a.units (Yo (qP (GZ b b.r_Watch_turn) a (dA 3))) (Yo (kr (Yi 1) (Yi 4)))))))))) (v8 (kG (l3 uY))) Nw) (v8 (Fl (Fn (YJ b) a (dA 3) (Ym (o_ a.units (Yo (gg (Yo (D5 (Yi 2) (Yo (gg (Yi 4) (Yo dB))))) (Yo dB))) (Yo dB)) dW) FF))))))))))) (v8 (NC (Nz (o_ a.units (Yo (qP (OF b b.r_Watch_winner) a (dA 3))) (Yo (i8 (xH b) a rfl (Ym (qP (OI b b.r_Watch_left) a (dA 3)) (Ym (dA 1) (Ym (i5 tM uF rfl b.Len PySem.boot_len (eR (Yi 1) fy)) dW))) jk)))))))))
def rT:Fs 1 87 ["script","many","hands","way","far","k","kind","rules"]:=aM
def G9:Cs ["script","many","hands","way","far","k","kind","rules"] 87 ["cell","kind","far"] [none,some 6,some 4] [("cell",0),("_law_rule",2),("far",1),("kind",1)]:=cc
def G_:AU:=cC (Yb (ab 1) (Yb (ab 0) (Yb (kD (.int 0)) (Yb (ab 2) ae)))) rP
def OS:AR:=ah (cC (Yb (ar (Yb (ab 6) (Yb (cC (Yb (aa 7) ae) a8) ae))) (Yb (ab 2) (Yb (b2 (aa 3) (kD (.int 1024)) de) ae))) rS)
def OT:AR:=ag (bb 7 (bq (b1 (lF (uC (aa 0) (some (kD (.int 3))) (some (b2 (kD (.int 3)) (b2 (b2 (aa 3) (kD (.int 16)) de) (kD (.int 13)) a7) cN)))) Yc) [none,some 6,some 4] (ai 0) tY (G_))) OS
def OU:AR:=ag (aq 6 (b2 (lF (bF (Yb (kD (.str "ifs")) (Yb (kD (.str "sums")) (Yb (kD (.str "nots")) (Yb (kD (.str "eithers")) ae)))))) (aa 5) ao)) OT
def OV:AR:=ag (aq 5 (b2 (b2 (aa 3) (kD (.int 4)) de) (kD (.int 4)) a7)) OU
def OW:AR:=ag (aq 4 (cC (Yb (aa 1) (Yb (b2 (lF (bF (Yb (kD (.int 2)) (Yb (kD (.int 4)) (Yb (kD (.int 8)) (Yb (kD (.int 30)) ae)))))) (b2 (aa 3) (kD (.int 4)) a7) ao) ae)) fm)) OV
def OX:AR:=ag (aq 3 (cC (Yb (cC (Yb (ab 0) (Yb (kD (.int 2)) ae)) kX) (Yb (kD (.int 1865811235122147685)) ae)) mr)) OW
def OY:AR:=ag (aq 2 (cC (Yb (cC (Yb (ab 0) (Yb (kD (.int 1)) ae)) kX) (Yb (ab 1) ae)) xF)) OX
def kZ:AR:=ag (aq 1 (b2 (kD (.int 1)) (b2 (cC (Yb (ab 0) (Yb (kD (.int 0)) ae)) kX) (kD (.int 12)) a7) cN)) OY
def mv:AN->Option D:=aj 1 8 kZ
def Hc(bl:Bl K w mg)(F:Fun K "law" "law" (top 87) a e):FnOk P w K mg base cK 10 a e ["script"] (cx K 1 mv):=by
 refine DL F rT rfl rfl λd A c s H E hr=>?_
 exists rT,XG bl,XM bl,GX bl,G9,X0 bl,YL bl
end
abbrev OZ:Nat:=10
theorem all_mk{l:W.OpenLaw}{w:World}{K:W7}{h:Heap}{mg:AD}{fa ud:Addr}(X:K.In h)(G:h.Ns mainGlobals mg)(hfa:mg "law"=some (.ref fa)){ut ug:Option Addr}{uu:Array (Option Value)}{uv uh ui uj ub uk:Value}(F_contrary:Fk K "contrary" 2)(F_led_to:Fk K "led_to" 3)(F_traced:Fk K "traced" 4)(F_ways_from:Fk K "ways_from" 5)(y:Fk K "exchanged_rule" 8)(F_exchanged:Fk K "exchanged" 9)(E:Fk K "beacons_with" 12)(F_both_added:Fk K "both_added" 14)(Q:Fk K "pairs_added" 15)(F_cleared:Fk K "cleared" 16)(F_reduced:Fk K "reduced" 17)(I:Fk K "either_holds" 25)(F_sum_holds:Fk K "sum_holds" 26)(F_if_holds:Fk K "if_holds" 27)(F_rule_holds:Fk K "rule_holds" 28)(J:Fk K "broken_rules" 29)(F_holds:Fk K "holds" 30)(F_beacons_in:Fk K "beacons_in" 31)(F_beacons_of:Fk K "beacons_of" 32)(F_is_void:Fk K "is_void" 33)(F_without:Fk K "without" 34)(F_either_left:Fk K "either_left" 35)(F_sum_left:Fk K "sum_left" 36)(F_if_left:Fk K "if_left" 37)(F_rule_left:Fk K "rule_left" 38)(R:Fk K "left_behind" 39)(F_is_place:Fk K "is_place" 41)(z:Fk K "body_is_known" 42)(F_is_step:Fk K "is_step" 43)(F:Fk K "step_to_more" 44)(t:Fk K "derived_in_full" 45)(F_is_broken:Fk K "is_broken" 47)(F_sayings_of:Fk K "sayings_of" 49)(c:Fk K "lead_to_one_another" 50)(S:Fk K "clash_found" 51)(F_cross_found:Fk K "cross_found" 52)(F_late_found:Fk K "late_found" 53)(O:Fk K "storms_paper" 54)(T:Fk K "free_saying" 55)(V:Fk K "truths_made" 56)(F_plan_row:Fk K "plan_row" 57)(u:Fk K "either_outcome" 58)(F_replaced:Fk K "replaced" 60)(F_ahead_of:Fk K "ahead_of" 61)(x:Fk K "places_to_none" 63)(r:Fk K "places_to_beacon" 64)(F_some_of:Fk K "some_of" 65)(L:Fk K "facts_beside" 66)(F_if_outcome:Fk K "if_outcome" 67)(F_last_beacon:Fk K "last_beacon" 69)(B:Fk K "storms_places" 70)(F_sum_rows:Fk K "sum_rows" 71)(Y:Fk K "sum_outcome" 72)(F_outcome:FkD K "outcome" 74)(F_is_hand:Fk K "is_hand" 76)(Z:Fk K "check_hands" 77)(F_law_cell:Fk K "_law_cell" 80)(F_law_mixed:Fk K "_law_mixed" 81)(F_law_hands:Fk K "_law_hands" 82)(F_law_rule:Fk K "_law_rule" 84)(F_law_hand:Fk K "_law_hand" 85)(F_law_steps:Fk K "_law_steps" 86)(uw:W.nsIn K mainGlobals "law"=some (some (.ref ud)))(ux:K.lookup ud=some ⟨uv,ut,.func (W.fnOf "law" "law" (aGa (top 87)) (aFa (top 87)) (aDa (top 87)) .none uh ui uj ug ub uk),uu⟩)(uy:W.codeIn K ub "law"=true)(uz:W.keepIn K (.ref ud)=true)(R_Watch_left:Mq K "Watch" "left" "Watch.left" (inClass (top 78) 3))(N:Mq K "Watch" "settle" "Watch.settle" (inClass (top 78) 5))(R_Watch_turn:Mq K "Watch" "turn" "Watch.turn" (inClass (top 78) 1))(H:Mq K "Watch" "winner" "Watch.winner" (inClass (top 78) 4))(I_Watch:wB K "Watch" "Watch.__init__" (inClass (top 78) 0))(N_Watch_book:Nq K "Watch" "book")(U:Nq K "Watch" "hands")(M:Nq K "Watch" "truths"){A:Tok}(D:W.nsIn K mainGlobals "BEACON_COUNT"=some (some (.int 60 A))){b:Addr}{o:_}{f k n m j d g i:_}(q:W.nsIn K mainGlobals "EXCHANGED_KINDS"=some (some (.ref b)))(p:K.lookup b=some ⟨.type "dict",none,.dict #[⟨PyData.keyHash w.params (Str.ofString "eithers"),.str "eithers" f,.str "eithers" k⟩,⟨PyData.keyHash w.params (Str.ofString "sums"),.str "sums" n,.str "sums" m⟩,⟨PyData.keyHash w.params (Str.ofString "ifs"),.str "ifs" j,.str "nots" d⟩,⟨PyData.keyHash w.params (Str.ofString "nots"),.str "nots" g,.str "ifs" i⟩] o,#[]⟩){uc:Addr}{ul:_}{um:_}{uo:_}{ue uf:_}(uq:W.nsIn K mainGlobals "HANDS"=some (some (.ref uc)))(ur:K.lookup uc=some ⟨.type "tuple",ul,.seq #[.str "keeper" ue,.str "storm" uf] um,uo⟩)(z_len:W.nsIn K mainGlobals "len"=some none)(z_range:W.nsIn K mainGlobals "range"=some none)(z_list:W.nsIn K mainGlobals "list"=some none)(z_tuple:W.nsIn K mainGlobals "tuple"=some none)(z_str:W.nsIn K mainGlobals "str"=some none)(z_sorted:W.nsIn K mainGlobals "sorted"=some none)(z_any:W.nsIn K mainGlobals "any"=some none)(z_all:W.nsIn K mainGlobals "all"=some none)(z_isinstance:W.nsIn K mainGlobals "isinstance"=some none)(z_enumerate:W.nsIn K mainGlobals "enumerate"=some none)(z_reversed:W.nsIn K mainGlobals "reversed"=some none)(z_set:W.nsIn K mainGlobals "set"=some none)(z_min:W.nsIn K mainGlobals "min"=some none)(z_dict:W.nsIn K mainGlobals "dict"=some none): ∃fd:FuncData,(∀(s:Shared) (v:Value),BindsTo s fd ⟨[v],[]⟩ [("script",v)])/\∀base:Heap,K.In base->base.Ns mainGlobals mg->FnOk l.prog w K mg base cK OZ fa fd ["script"] (cx K 1 mv):=by
 have e:=hfa.symm.trans (W.mg_of X G uw);cases e
 have bl:Bl K w mg:=⟨W.mg_none_of X G z_len,W.mg_none_of X G z_range,W.mg_none_of X G z_list,W.mg_none_of X G z_tuple,W.mg_none_of X G z_str,W.mg_none_of X G z_sorted,W.mg_none_of X G z_any,W.mg_none_of X G z_all,W.mg_none_of X G z_isinstance,W.mg_none_of X G z_enumerate,W.mg_none_of X G z_reversed,W.mg_none_of X G z_set,W.mg_none_of X G z_min,W.mg_none_of X G z_dict,⟨_,W.mg_of X G D⟩,⟨_,_,_,_,W.mg_of X G q,p,⟨rfl,rfl,rfl⟩,rfl,.cons ⟨rfl,⟨_,rfl⟩,⟨_,rfl⟩,by decide +kernel⟩ (.cons ⟨rfl,⟨_,rfl⟩,⟨_,rfl⟩,by decide +kernel⟩ (.cons ⟨rfl,⟨_,rfl⟩,⟨_,rfl⟩,by decide +kernel⟩ (.cons ⟨rfl,⟨_,rfl⟩,⟨_,rfl⟩,by decide +kernel⟩ .nil)))⟩,⟨_,_,_,_,W.mg_of X G uq,ur,rfl,rfl,.cons ⟨⟨_,rfl⟩,by decide +kernel⟩ (.cons ⟨⟨_,rfl⟩,by decide +kernel⟩ .nil)⟩,F_contrary.on X G,F_led_to.on X G,F_traced.on X G,F_ways_from.on X G,y.on X G,F_exchanged.on X G,E.on X G,F_both_added.on X G,Q.on X G,F_cleared.on X G,F_reduced.on X G,I.on X G,F_sum_holds.on X G,F_if_holds.on X G,F_rule_holds.on X G,J.on X G,F_holds.on X G,F_beacons_in.on X G,F_beacons_of.on X G,F_is_void.on X G,F_without.on X G,F_either_left.on X G,F_sum_left.on X G,F_if_left.on X G,F_rule_left.on X G,R.on X G,F_is_place.on X G,z.on X G,F_is_step.on X G,F.on X G,t.on X G,F_is_broken.on X G,F_sayings_of.on X G,c.on X G,S.on X G,F_cross_found.on X G,F_late_found.on X G,O.on X G,T.on X G,V.on X G,F_plan_row.on X G,u.on X G,F_replaced.on X G,F_ahead_of.on X G,x.on X G,r.on X G,F_some_of.on X G,L.on X G,F_if_outcome.on X G,F_last_beacon.on X G,B.on X G,F_sum_rows.on X G,Y.on X G,F_outcome.on X G,F_is_hand.on X G,Z.on X G,F_law_cell.on X G,F_law_mixed.on X G,F_law_hands.on X G,F_law_rule.on X G,F_law_hand.on X G,F_law_steps.on X G,R_Watch_left,N,R_Watch_turn,H,I_Watch,N_Watch_book,U,M,λC h=>W.mg_of X G h⟩
 have u0:=nG ux uy uz;refine⟨W.fnOf "law" "law" (aGa (top 87)) (aFa (top 87)) (aDa (top 87)) .none uh ui uj ug ub uk,λs v=>.of_eq rfl,λbase _ _=>?_⟩;exact Hc bl u0
theorem walk(e:∀ns:AF,ns.length<=63->mv [.scr ns]=some (.bl true)){l:W.OpenLaw}{K:Params->W7}(p:l.most=some 63)(j:d.params.defaults=[])(n:∀(w:World) (h:Heap),YP w h->(K w.params).In h)(F:∀(w:World) (i:AD) (m:Addr) (h:Heap),(K w.params).In h->h.Ns mainGlobals i->i d.name=some (.ref m)->
  ∃k:FuncData,(∀(s:Shared) (u:Value),BindsTo s k ⟨[u],[]⟩ [("script",u)])/\∀c:Heap,(K w.params).In c->c.Ns mainGlobals i->FnOk l.prog w (K w.params) i c cK OZ m k ["script"] (cx (K w.params) 1 mv)):
 W.WalkO q loose XP YP l.row.toRowW d [] (λf vs=>PySem.call f vs):=
 L2.walk_of p (by decide) j ⟨rfl,by decide,by decide⟩ n F
  (λw H a ns o _ t=>⟨rfl,[.scr ns],.bl _,H,.refl H,.one (by rw[Rp];grind),e ns o,λv y x g r=>r⟩) λ_ _ _ _ _ z=>z
end Lw
namespace Lw
open PySem L2 M Bk
theorem O0:∀(l a:AF) (x:Int),x∈aR a l↔x∈a\/x∈l
 | [],a,x=>by simp[aR]
 | k::l,a,x=>by
   rw[aR,O0];by_cases h:k∈a
   .rw[if_pos h]
    simp;constructor
    .rintro(b|b)
     .exact .inl b
     .exact .inr (.inr b)
    .rintro(b|b|b)
     .exact .inl b
     .subst b;exact .inl h
     .exact .inr b
   .rw[if_neg h]
    simp[or_assoc]
theorem O1:∀(l a:AF),a.Nodup->(aR a l).Nodup
 | [],_,h=>h
 | k::l,a,h=>by
   refine O1 l _ ?_;by_cases b:k∈a
   .rwa [if_pos b]
   .rw[if_neg b,List.nodup_append]
    refine⟨h,by simp,λx d y c z=>?_⟩;simp at c;subst c;exact b (z ▸ d)
theorem Hg{n:Nat}(hn:n<64)(l:AE)(h:∀x∈l,x<n)(u:l.length<4000):∃b:AE,b.Pairwise (·<·)/\(∀x,x∈b↔x∈l)/\o5 (l.map nD)=some (b.map nD):=by
 have t:l.map nD=(l.map .ofNat).map .int:=by simp[wu]
 generalize hd:aR [] (l.map .ofNat)=d
 have p:d.Nodup:=by rw[<-hd];exact O1 _ _ .nil
 have c:∀x,x∈d↔∃y∈l,y=x:=λx=>by rw[<-hd,O0];simp
 have i:=Yx d;have q:=gC d
 obtain⟨b,j⟩:∃b:AE,c6 d=b.map .ofNat:=by
  refine⟨(c6 d).map Int.toNat,?_⟩;rw[Qf];refine(List.map_id _).symm.trans (Qq λx k=>?_);obtain⟨y,_,rfl⟩:=(c x).mp (i.mem_iff.mp k);simp[wu]
 have e:∀x,x∈b↔x∈l:=λx=>by
  have s:x∈b↔(x:Int)∈c6 d:=by
   rw[j];constructor
   .exact λh=>Qs h
   .intro h
    obtain⟨y,o,f⟩:=qy h
    have:=by simpa using f
    exact this ▸ o
  rw[s,i.mem_iff,c];constructor
  .rintro⟨y,o,f⟩
   have:y=x:=by lia
   exact this ▸ o
  .exact λh=>⟨x,h,rfl⟩
 have g:=by
  rw[j]at i q
  have m:b.Nodup:=by
   have:=i.nodup_iff.mpr p;rw[List.nodup_iff_pairwise_ne,List.pairwise_map]at this;exact this.imp λh z=>h (by rw[z])
  exact(((List.pairwise_map.mp q).imp λh=>by simpa using h).and m).imp λh=>Nat.lt_of_le_of_ne h.1 h.2
 have r:d.length<=n:=by
  rw[<-i.length_eq,j,qf];exact ER g λx k=>h x ((e x).mp k)
 refine⟨b,g,e,?_⟩;unfold o5;rw[t,l9];dsimp only;rw[if_pos ⟨by rwa [qf],by lia⟩,hd,j];simp[wu]
def Hh(ns:AF)(k:Nat):kX [.scr ns,.int k]=some (.int (ns.getD k 0)):=by
 rw[kX,Yj (by rfl)];by_cases h:k<ns.length
 .have e:bE (ns.map D.int) k=some (.int ns[k]):=by
   rw[gK,l8 h];rfl
  simp[GW,Yd,h,e]
 .simp[GW,Yd,h]
def Hi(ns:AF)(k:Nat)(i:Int)(a:i=(k:Int)):kX [.scr ns,.int i]=some (.int (ns.getD k 0)):=by
 subst a;exact Hh ns k
def Hj(ns:AF)(a b:Nat):bN (ns.map D.int) (some (a:Int)) (some (b:Int))=((ns.drop (min a ns.length)).take (min b ns.length-min a ns.length)).map D.int:=by
 unfold bN;rw[HT.sIx_nat,HT.sIx_nat];simp
theorem drawn{fe:AU}{r:Ro}{P:Rl->Prop}(h:∀c:Int,∃x:Rl,P x/\fe (some (.sh (.int c))::r)=some (aL x)):∀a:AF,∃R:List Rl,R.length=a.length/\(∀x∈R,P x)/\cU (ai 0) tY fe (none::r) (a.map D.int)=some (R.map aL)
 | []=>⟨[],rfl,λ_ h=>(nomatch h),rfl⟩
 | c::a=>by
   obtain⟨R,i,f,e⟩:=drawn h a;obtain⟨x,d,g⟩:=h c;refine⟨x::R,by simp[i],λy b=>?_,?_⟩
   .rcases qu b with rfl|b
    .exact d
    .exact f y b
   .rw[Qd,cU,e]
    simp[g]
theorem Hk(c m:Int):∃v:Int,0<=v/\mr [.int c,.int m]=some (.int v):=by
 refine⟨c%2305843009213693951*m%2305843009213693951,Int.emod_nonneg _ (by decide),?_⟩;rw[mr,Yj (by rfl)];have a:fY (.int (c%2305843009213693951)) (.int m)=_:=Es ⟨by lia,by lia⟩;simp[OC,Yd,a]
section
variable {c:D}{ev:AG} (hc:Yc c=some (ev.map D.bl))
include hc
def YM(a:∀s∈l,s.1<ev.length):wO [aL (.ei l),c]=some (.bl (l.any λs=>at' ev s.1==s.2)):=by
 rw[wO,Yj (by rfl)]
 simp[N3,Yd,ak,dC (fe:=FX) (r:=[↑c]) (enc:=af) (λs=>.bl (at' ev s.1==s.2)) (l:=l) (λs b=>by
  simp[FX,hc,ip (a s b)])]
theorem YN(a:∀x∈b,x<ev.length):wQ [aL (.su b o),c]=some (.bl (decide ((b.filter (at' ev)).length%2=1)==o)):=by
 have e:∀n:Nat,decide ((n:Int)%2=1)=decide (n%2=1):=λn=>by
  grind
 rw[wQ,Yj (by rfl)]
 simp[N4,Yd,ak,gL (fc:=FY) (fe:=FZ) (r:=[↑c]) (enc:=nD) (at' ev) nD (l:=b) (λs d=>by
  simp[FY,hc,ip (a s d)]) (λs _ _=>by simp[FZ]),e]
def O2(d:∀x∈b,x<ev.length)(e:∀x,h=some x->x<ev.length):wU [aL (.im b h),c,.bl w]=some (.bl ((b.any λx=>at' ev x != w)||hd ev w h)):=by
 have a:=dC (fe:=F0) (r:=[↑c,↑(.bl w)]) (enc:=nD) (λx=>.bl (at' ev x != w)) (l:=b) (λs i=>by
  simp[F0,hc,ip (d s i),bne])
 rw[wU,Yj (by rfl)]
 cases f:(b.any _)with
 | true=>simp[wR,Yd,ak,a,f]
 | false=>
   cases h with
   | none=>simp[wR,Yd,ak,a,f,av,hd]
   | some x=>simp[wR,Yd,ak,a,f,av,hd,hc,ip (e x rfl)]
def O3{r:Rl}(d:In k ev.length r):q_ [br k,aL r,c]=some (.bl (so k ev r)):=by
 rw[q_,Yj (by rfl)]
 cases r with
 | ei l=>
   obtain⟨rfl,a⟩:=d;simp[q0,Yd,YM hc a,so]
 | su b o=>
   obtain⟨rfl,a⟩:=d;simp[q0,Yd,YN hc a,so]
 | im b h=>
   obtain⟨f,a,e⟩:=d;rcases f with rfl|rfl
   .simp[q0,Yd,O2 hc a e,so]
   .simp[q0,Yd,O2 hc a e,so]
end
section
variable {c:D}{ev:AG} (hc:Yc c=some (ev.map D.bl))
include hc
theorem YO{k:Kd}{R:List Rl}(b:∀r∈R,In k ev.length r):wV [Yl k R,c]=some (.lst ((brk k ev R).map nD)):=by
 rw[wV,Yj (by rfl)]
 simp[N6,Yd,ak,EM,EF (fc:=F1) (fe:=F2) (r:=[↑(Yl k R),↑c]) (e1:=λi:Nat=>.int i) (e2:=λi=>aL (iq R i)) (λi=>!so k ev (iq R i)) nD (l:=.range R.length) (λi a=>by
  simp[F1,O3 hc (b (iq R i) (Nc (Qb a)))]) (λi _ _=>by simp[F2]),brk]
end
section
variable {c:D}{ev:AG} (hc:Yc c=some (ev.map D.bl))
include hc
def Hn{k:Kd}{R:List Rl}(a:∀r∈R,In k ev.length r):wW [Yl k R,c]=some (.bl (decide (brk k ev R=[]))):=by
 rw[wW,Yj (by rfl)];simp[N7,Yd,YO hc a]
end
theorem Ho{r:Rl}(f:In k n r)(hs:sz r<=999999):mi [br k,aL r]=some (.lst ((bV r).map nD)):=by
 rw[mi,Yj (by rfl)]
 cases r with
 | ei l=>
   obtain⟨rfl,_⟩:=f;have h:=dC (fe:=F5) (r:=[]) (enc:=af) (λs=>nD s.1) (l:=l) (λs _=>by simp[F5]);simp[rh,Yd,ak,h,bV,wu]
 | su b o=>
   obtain⟨rfl,_⟩:=f;simp[rh,Yd,bV]
 | im b h=>
   obtain⟨g,_⟩:=f
   have c:¬k=.e:=by grind
   have d:¬k=.s:=by grind
   have e:b.length+1<=1000000:=by simp[sz]at hs;lia
   cases h with
   | none=>simp[rh,Yd,bV,c,av]
   | some x=>simp[rh,Yd,bV,c,d,av,cY,e]
def Hq(r:Rl):(bV r).length<=sz r+1:=by
 cases r with
 | ei l=>simp[bV,sz]
 | su l o=>simp[bV,sz]
 | im l h=>cases h<;>simp[bV,sz]
theorem YQ{k:Kd}{n m:Nat}(t:n<64){R:List Rl}(o:∀r∈R,In k n r/\sz r+1<=m)(A:R.length*m<4000):∃l:AE,l.Pairwise (·<·)/\(∀x,x∈l↔∃r∈R,x∈bV r)/\wX [Yl k R]=some (.lst (l.map nD)):=by
 obtain⟨E,D,f,y,b,d,rfl⟩:=gJ (gt:=ai 2) (fb:=F7) aL (λc C=>∃(f:AE) (y:AQ),f=c.flatMap bV/\f.length<=c.length*m/\
  C=[↑(Yl k R),some (.ow (f.map nD)),y]) R [] [some _,some (.ow []),none] ⟨[],none,rfl,by simp,rfl⟩ (by
  rintro q a r C e ⟨f,y,b,d,rfl⟩
  have u:a∈R:=by rw[Qj]at e;rw[e];simp
  obtain⟨i,p⟩:=o a u
  have v:q.length<R.length:=by rw[Qj]at e;rw[e];simp
  have j:=by
   have:=Nat.mul_le_mul_right m (v);exact this
  have z:=Hq a
  have g:f.length+(bV a).length<=1000000:=by lia
  refine⟨_,_,rfl,?_,f++bV a,↑(aL a),by rw[b];simp,?_,rfl⟩
  .simp[F7,Ho i (by lia),eA,g]
  .simp
   lia)
 rw[Qj]at b d
 obtain⟨l,i,p,s⟩:=Hg t f (λx h=>by
  rw[b]at h;obtain⟨r,w,h⟩:=List.mem_flatMap.mp h
  exact qH (o r w).1 x h) (by lia)
 refine⟨l,i,λx=>?_,?_⟩
 .rw[p,b,List.mem_flatMap]
 .rw[wX,Yj (by rfl)]
  simp[N8,Yd,D,s]
theorem O4(l:AE)(b:Nat):jn [.tup (l.map nD),.int (b:Int)]=some (.tup ((Bk.wo b l).map nD)):=by
 rw[jn,Yj (by rfl)]
 simp[F9,Yd,ak,gL (fc:=ri) (fe:=rj) (r:=[↑(.int b)]) (enc:=nD) (λx=>!decide (x=b)) nD (l:=l) (λx _=>by
  simp[ri]) (λx _ _=>by simp[rj]),Bk.wo]
theorem YR(l:AX)(b:Nat)(e:Bool):wZ [aL (.ei l),.int (b:Int),.bl e]=some (bR (bD .e b e (.ei l))):=by
 have c:.tup _=af (b,e):=rfl;have a:=qC (c:=aL (.ei l)) (b,e) l false rfl;rw[wZ,Yj (by rfl)];by_cases d:(b,e)∈l
 .simp[Gc,Yd,c,a,d,bD,bR]
 .simp[Gc,Yd,ak,c,a,d,bD,bR,gL (fc:=Ga) (fe:=Gb) (r:=[↑(.int b)]) (enc:=af) (λs=>!decide (s.1=b)) af (l:=l) (λx _=>by
  simp[Ga]) (λx _ _=>by simp[Gb]),qG,Nd]
theorem YS(l:AE)(o:Bool)(b:Nat)(d:Bool)(e:b∈l):w_ [aL (.su l o),.int (b:Int),.bl d]=some (bR (bD .s b d (.su l o))):=by
 have c:=O4 l b;rw[w_,Yj (by rfl),bD];generalize Bk.wo b l=q at c ⊢
 cases q with
 | nil=>cases o<;>cases d<;>simp[Gd,Yd,c,e]<;>rfl
 | cons a q=>cases o<;>cases d<;>simp[Gd,Yd,c,e]<;>first|rfl|lia
def YT(k:Kd)(l:AE)(h:AL)(b:Nat)(i:Bool):xa [aL (.im l h),.int (b:Int),.bl (i==decide (k=.i))]=some (bR (bD k b i (.im l h))):=by
 have f:=O4 l b;have a:=eE (c:=.tup _) b l false rfl;rw[xa,Yj (by rfl)];generalize g:(i==decide (k=.i))=w
 have d:(i=decide (k=.i))↔w=true:=by rw[<-g];simp
 rw[bD];simp [d];by_cases e:h=some b
 .by_cases c:b∈l
  .cases w<;>simp[rm,Yd,a,e,c,bR]
  .cases w<;>simp[rm,Yd,a,e,c,f,bR,EN]
 .by_cases c:b∈l
  .cases w<;>simp[rm,Yd,a,e,c,f,bR,Nf]
  .cases w<;>simp[rm,Yd,a,e,c,f,bR,Nf]
theorem YU{k:Kd}{n:Nat}{r:Rl}(d:In k n r)(hs:sz r<=999999)(b:Nat)(i:Bool):xb [br k,aL r,.int (b:Int),.bl i]=some (bR (bD k b i r)):=by
 have j:=Ho d hs;have a:=eE (c:=.lst _) b (bV r) true rfl;rw[xb,Yj (by rfl)];by_cases c:b∈bV r
 .cases r with
  | ei l=>
    obtain⟨rfl,_⟩:=d;simp[rn,Yd,j,a,c,YR]
  | su l o=>
    obtain⟨rfl,_⟩:=d;simp[rn,Yd,j,a,c,YS l o b i c]
  | im l h=>
    obtain⟨g,_⟩:=d
    have f:¬k=.e:=by rcases g with rfl|rfl<;>decide
    have e:¬k=.s:=by rcases g with rfl|rfl<;>decide
    simp[rn,Yd,j,a,c,f,e,YT]
 .have:bD k b i r=_:=T_ c
  simp[rn,Yd,j,a,c,this,bR]
theorem O5{k:Kd}{n:Nat}{R:List Rl}(f:∀r∈R,In k n r)(hs:∀r∈R,sz r<=999999)(b:Nat)(a:Bool):iB [Yl k R,.int (b:Int),.bl a]=some (Yl k (R.filterMap (bD k b a))):=by
 have e:∀Q,cU _ _ _ _ _=_:=λQ=>by
  have:=gL (fc:=Gg) (fe:=Gh) (r:=[]) (enc:=bR) (λo=>o.isSome) bR (l:=Q) (λo _=>by
   cases o<;>simp[Gg,bR]) (λo _ _=>by simp[Gh])
  rw[this,kA]
 have c:=e (R.map (bD k b a));rw[iB,Yj (by rfl)];simp[wu]at c
 simp[N9,Yd,ak,dC (fe:=Ge) (r:=[↑(Yl k R),↑(.int b),↑(.bl a)]) (enc:=aL) (λr=>bR (bD k b a r)) (l:=R) (λr d=>by
  simp[Ge,YU (f r d) (hs r d)]),c,T9]
def aP(s:aC):aC:=(s.1,!s.2)
def xK(s:aC):jl [af s]=some (af (aP s)):=by
 rw[jl,Yj (by rfl)];simp[NJ,Yd,af,aP]
def k4:AX->AX
 | [a,b]=>if d8 b.1 b.2 a.1 a.2=true then [b,a]else [a,b]
 | l=>l
def Hr(h:l.length<=2):fF [.lst (l.map af)]=some ((k4 l).map af):=by
 match l,h with
 | [],_=>rfl
 | [a],_=>rfl
 | [a,b],_=>
   have e:fF [.lst ([a,b].map af)]=some (if d8 b.1 b.2 a.1 a.2=true then _ else _):=rfl;rw[e,k4]
   split<;>rfl
theorem YV{r:Rl}(b:In k n r)(hs:sz r<=999999):wY [br k,aL r]=some (.bl (bP (aL r) (aL (vd k)))):=by
 rw[wY,Yj (by rfl)];have d:=Ho b hs;by_cases a:bV r=[]
 .have c:In k 0 r:=by
   cases r with
   | ei l=>
     simp[bV]at a;subst a;exact⟨b.1,by simp⟩
   | su l o=>
     subst a;exact⟨b.1,by simp⟩
   | im l o=>
     cases o with
     | none=>
       subst a;exact⟨b.1,by simp,by simp⟩
     | some x=>simp[bV]at a
  have f:=O3 (c:=.tup []) (ev:=[]) rfl c
  have e:bP (aL r) (aL (vd k))=!so k [] r:=by
   cases r with
   | ei l=>
     obtain⟨rfl,_⟩:=b;simp[bV]at a;subst a;simp[aL,vd,so]
   | su l o=>
     obtain⟨rfl,_⟩:=b;subst a;cases o<;>simp[aL,vd,so]
   | im l o=>
     cases o with
     | none=>
       subst a
       have:bP .non .non=true:=by simp[bP,aE,PyData.eqv]
       rcases b.1 with rfl|rfl<;>simp[aL,vd,so,av,hd,this]
     | some x=>simp[bV]at a
  rw[a]at d;simp[F8,Yd,d,f,e]
 .have e:bP (aL r) (aL (vd k))=false:=by
   cases r with
   | ei l=>
     obtain⟨rfl,_⟩:=b
     cases l with
     | nil=>simp[bV]at a
     | cons s l=>simp[aL,vd]
   | su l o=>
     obtain⟨rfl,_⟩:=b
     cases l with
     | nil=>simp[bV]at a
     | cons s l=>simp[aL,vd]
   | im l o=>
     have g:∀x,bP (.int x) .non=false:=λx=>by simp[bP,aE,PyData.eqv]
     cases l with
     | nil=>cases o with
       | none=>simp[bV]at a
       | some x=>rcases b.1 with rfl|rfl<;>simp[aL,vd,av,g]
     | cons s l=>rcases b.1 with rfl|rfl<;>simp[aL,vd]
  simp[F8,Yd,d,a,e]
def k7:Rl->Rl
 | .ei l=>.ei (k4 (l.map aP))
 | .su l o=>.su l (o != decide (l.length%2=1))
 | .im l h=>.im l h
def Ht:Kd->Kd
 | .e=>.e
 | .s=>.s
 | .i=>.n
 | .n=>.i
theorem YW{r:Rl}(h:In k n r)(hs:gi r):wL [br k,aL r]=some (aL (k7 r)):=by
 rw[wL,Yj (by rfl)]
 cases r with
 | ei l=>
   obtain⟨rfl,_⟩:=h;have b:=Hr (l:=l.map aP) (by simpa using hs.1);simp[wu]at b;simp[wK,Yd,ak,dC (fe:=FM) (r:=[]) (enc:=af) (λs=>af (aP s)) (l:=l) (λs _=>by simp[FM,xK]),b,k7,Nd]
 | su l o=>
   obtain⟨rfl,_⟩:=h
   have e:((l.length:Int)%2=1)↔(l.length%2=1):=by lia
   simp[wK,Yd,k7];cases o<;>by_cases h:l.length%2=1<;>simp[aL,e]
 | im l h=>
   obtain⟨c,_⟩:=h;rcases c with rfl|rfl<;>simp[wK,Yd,k7]
def YX(k:Kd):hY gt_EXCHANGED_KINDS (br k)=some (br (Ht k)):=by
 have h:gt_EXCHANGED_KINDS.lookup (kS k)=some (kS (Ht k)):=by cases k<;>decide +kernel
 show(gt_EXCHANGED_KINDS.lookup _).map _=_;rw[h];rfl
def YY{R:List Rl}(h:∀r∈R,In k n r/\gi r):wM [Yl k R]=some (Yl (Ht k) (R.map k7)):=by
 rw[wM,Yj (by rfl)];simp[NU,Yd,Yl,ak,YX,dC (fe:=FN) (r:=[↑(br k)]) (enc:=aL) (λr=>aL (k7 r)) (l:=R) (λr b=>by simp[FN,YW (h r b).1 (h r b).2]),wu]
def kn(b a:AE):Bool:=b.all λx=>decide (x∈a)
abbrev bL:=List Nat×AL
def dX(r:bL):D:=.tup [.tup (r.1.map nD),av r.2]
structure YZ(r:bL):Prop where
 b:∀x∈r.1,x<60
 h:∀x,r.2=some x->x<60
 p:r.1.Pairwise (·<·)
 l:r.1.length<=3
@[simp] theorem rV(r:bL):Yc (dX r)=some [.tup (r.1.map nD),av r.2]:=nr rfl
def bf(R:List bL):D:=.tup [.str "ifs",.tup (R.map dX)]
@[simp] theorem Y0(R:List bL):Yc (bf R)=some [.str "ifs",.tup (R.map dX)]:=nr rfl
def Y1(r:bL)(fs:AE)(hd:Yc d=some (fs.map nD)):kQ [dX r,d]=some (.bl (kn r.1 fs)):=by
 rw[kQ,Yj (by rfl)];simp[xf,Yd,ak,dC (fe:=Yy) (r:=[↑d]) (enc:=nD) (λx=>.bl (decide (x∈fs))) (l:=r.1) (λx _=>by simp[Yy,eE x fs false hd]),kn]
def Y2(R:List bL)(i:Int):xc [bf R,.int i]=some (.bl (decide (0<=i/\i<R.length))):=by
 rw[xc,Yj (by rfl)];by_cases h:0<=i<;>simp[N_,Yd,h]
def aA(R:List bL)(i:Int):bL:=R.getD i.toNat ([],none)
theorem k8(h:0<=i/\i<R.length):bE (R.map dX) i=some (dX (aA R i)):=by
 rw[gK,pY (j:=i.toNat) (v:=aA R i) (by lia) (by rw[aA,List.getD_eq_getElem?_getD,qr (by lia)];simp)];rfl
def rW(R:List bL)(fs:AE)(i:Int):Bool:=decide (0<=i/\i<R.length)&&((aA R i).2.isSome&&kn (aA R i).1 fs)
def bu(r:bL):Nat:=r.2.getD 0
def d_(R:List bL):AE->AF->Bool
 | _,[]=>true
 | fs,i::is=>rW R fs i&&d_ R (fs++[bu (aA R i)]) is
abbrev fl(n:Nat)(P:AH):AE:=(List.range n).filter P
theorem rX(d:l.Pairwise (·<·))(h:∀x∈l,x<n):l=fl n λx=>decide (x∈l):=by
 have c:(fl n λx=>decide (x∈l)).Pairwise _:=List.pairwise_lt_range.filter _;have e:∀{m:AE},m.Pairwise (·<·)->_:=λh=>h.imp qm
 exact((List.perm_ext_iff_of_nodup (e d) (e c)).mpr λx=>by
  grind).eq_of_pairwise (λa b _ _ c f=>absurd (Nat.lt_trans c f) (Nat.lt_irrefl _)) d c
theorem gn(l:AE):intsD (l.map nD)=some (l.map λx:Nat=>(x:Int)):=by simp_all
theorem mem_castI{l:AE}{x:Nat}:(x:Int)∈l.map (λy:Nat=>(y:Int))↔x∈l:=by grind
theorem Hu(n:Nat)(P:AH):(fl n P).length<=n:=by grind
theorem O6(c:m.Nodup)(h:∀x:Int,x∈m↔∃y:Nat,y∈fl n R/\(y:Int)=x):c6 m=(fl n R).map λy:Nat=>(y:Int):=by
 have d:((fl n R).map λy:Nat=>(y:Int)).Pairwise (·<=·):=by
  rw[List.pairwise_map]
  exact(List.pairwise_lt_range.filter R).imp λh=>by lia
 have b:((fl n R).map λy:Nat=>(y:Int)).Nodup:=by
  rw[List.nodup_iff_pairwise_ne,List.pairwise_map]
  exact(List.pairwise_lt_range.filter R).imp λh=>by lia
 exact W.ksm_same ((Yx m).trans ((List.perm_ext_iff_of_nodup c b).mpr λx=>by
  grind)) (gC m) d
theorem O7(q:n<64)(P Q:AH):ik ((fl n P).map nD) ((fl n Q).map nD)=some ((fl n λx=>P x != Q x).map nD):=by
 unfold ik;rw[gn,gn,qd,qd];generalize i:((fl n P).map _)=a;generalize t:((fl n Q).map _)=b
 have s:a.length<=n:=by grind
 have m:b.length<=n:=by grind
 have d:∀l,(aR [] l).length<=l.length:=λl=>by
  have:∀(r c:AF),(aR c r).length<=c.length+r.length:=λr=>by
   induction r with
   | nil=>intro c;simp[aR]
   | cons k r j=>
     intro c;rw[aR];grind
  grind
 have f:∀x,x∈dN a b↔∃y:Nat,y∈(fl n λx=>P x != Q x)/\y=x:=λx=>by
  rw[Mx,<-t];grind
 have h:(dN a b).length<=n:=by
  have e:=O6 (De a b) f;have:=(Yx (dN a b)).length_eq;grind
 have g:(b.all λk=>decide (0<=k/\k<1024))=true:=by
  grind
 have o:=d a;have p:=d b;rw[if_pos ⟨by lia,by lia,by lia,by lia,g,by lia⟩,O6 (De a b) f,Qf];rfl
abbrev cB(P:AH)(o:Bool):D:=.tup [.tup ((fl 60 P).map nD),.bl o]
def O8(P Q:AH)(o a:Bool):mf [cB P o,cB Q a]=some (cB (λx=>P x != Q x) (o != a)):=by
 rw[mf,Yj (by rfl)];have e:(!_)=(o != a):=rfl;have d:Yd 2 [cB P o,cB Q a]=[_,_]:=rfl;have b:Yc (cB P o)=some _:=rfl;have c:Yc (cB Q a)=some _:=rfl;rw[d];simp[NW,O7 (n:=60) (by decide) P Q,b,c,e]
abbrev Sm:=(AH)×Bool
abbrev bg(r:Sm):D:=cB r.1 r.2
def rg(R:List Sm)(p:Nat):Sm:=R.getD p (λ_=>false,false)
def bo(R:List Sm)(ps:AE)(x:Nat):Nat:=(ps.filter λp=>decide (x∈fl 60 (rg R p).1)).length
def aH(R:List Sm)(ps:AE):Bool:=ps.foldl (λo p=>o != (rg R p).2) false
theorem Hv(R:List Sm)(ps:AE)(p x:Nat):bo R (ps++[p]) x=if x∈fl 60 (rg R p).1 then bo R ps x+1 else bo R ps x:=by
 unfold bo;grind
def Hw(R:List Sm)(ps:AE)(p:Nat):aH R (ps++[p])=(aH R ps != (rg R p).2):=by
 unfold aH;rw[List.foldl_append];rfl
theorem O9(h:∀x,x<60->P x=Q x):cB P o=cB Q o:=by
 have:=List.filter_congr λx a=>h x (Qb a);grind
abbrev bW(R:List Sm)(ps:AE):D:=cB (λx=>decide (bo R ps x%2=1)) (aH R ps)
def rY{l:AE}(a:l.Pairwise (·<·))(h:∀x∈l,x<60)(o:Bool):D.tup [.tup (l.map nD),.bl o]=bg (λx=>decide (x∈l),o):=by
 unfold bg cB;rw[<-rX a h]
theorem O_(f g:AH):∀l:AE,(l.filter λp=>f p != g p).length+2*(l.filter λp=>f p&&g p).length=(l.filter f).length+(l.filter g).length
 | []=>rfl
 | a::l=>by
   have b:=O_ f g l;grind
theorem Hx(R:List Sm)(ps:AE):aH R ps=decide ((ps.filter λp=>(rg R p).2).length%2=1):=by
 have b:∀(l:AE) (o:Bool),l.foldl (λo p=>o != (rg R p).2) o=(o != decide ((l.filter λp=>(rg R p).2).length%2=1)):=λl=>by
  induction l with
  | nil=>intro o;simp
  | cons a l c=>
    grind
 unfold aH;grind
theorem rZ(h:a+2*k=b+c):decide (a%2=1)=(decide (b%2=1)!=decide (c%2=1)):=by grind
theorem Hy(R:List Sm)(W V:AH):cB (λx=>decide (bo R (fl 60 W) x%2=1)!=decide (bo R (fl 60 V) x%2=1)) (aH R (fl 60 W)!=aH R (fl 60 V))=bW R (fl 60 λp=>W p != V p):=by
 have a:∀h,((fl 60 λp=>W p != V p).filter h).length+2*((List.range 60).filter λp=>(W p&&h p)&&(V p&&h p)).length=((fl 60 W).filter h).length+((fl 60 V).filter h).length:=λh=>by
  have:=O_ (λp=>W p&&h p) (λp=>V p&&h p) (.range 60);rw[List.filter_filter,List.filter_filter,List.filter_filter]
  have b:((List.range 60).filter λp=>h p&&(W p != V p))=(List.range 60).filter λp=>(W p&&h p)!=(V p&&h p):=List.filter_congr λp _=>by grind
  have c:((List.range 60).filter λp=>h p&&W p)=(List.range 60).filter λp=>W p&&h p:=List.filter_congr λp _=>by grind
  have d:((List.range 60).filter λp=>h p&&V p)=(List.range 60).filter λp=>V p&&h p:=List.filter_congr λp _=>by grind
  grind
 unfold bW;rw[Hx,Hx,Hx,<-rZ (a _)];refine O9 λx _=>?_;exact(rZ (a _)).symm
abbrev aG(R:List Sm)(W:AH):D:=.tup [.tup ((fl 60 W).map nD),bW R (fl 60 W)]
def Y3(R:List Sm)(W V:AH):wN [aG R W,aG R V]=some (aG R λp=>W p != V p):=by
 rw[wN,Yj (by rfl)];have b:=O8 (λx=>decide (bo R (fl 60 W) x%2=1)) (λx=>decide (bo R (fl 60 V) x%2=1)) (aH R (fl 60 W)) (aH R (fl 60 V));rw[Hy]at b;have a:Yd 2 [aG R W,aG R V]=[_,_]:=rfl;rw[a];simp[NY,O7 (n:=60) (by decide) W V,b]
def tP(R:List Sm)(W:AH):AH:=λx=>decide (bo R (fl 60 W) x%2=1)
def Last(P:AH)(b:Nat):Prop:=b<60/\P b=true/\∀x,x<60->P x=true->x<=b
theorem Hz(P:AH):fl 60 P=[]\/∃b,Last P b/\fl 60 P≠[]/\bE ((fl 60 P).map nD) (-1)=some (nD b):=by
 cases e:(fl 60 P).getLast? with
 | none=>grind
 | some b=>
   right;obtain⟨c,a⟩:=List.getLast?_eq_some_iff.mp e;have f:(fl 60 P).Pairwise _:=List.pairwise_lt_range.filter _
   have d:b∈fl 60 P:=by rw[a];simp
   refine⟨b,⟨Qb (Qc d).1,(Qc d).2,λx g i=>?_⟩,by rw[a];simp,?_⟩
   .have j:=List.mem_filter.mpr ⟨List.mem_range.mpr g,i⟩
    grind
   .rw[a,wt]
    unfold bE iT
    have h:(c.map nD++[b].map nD).length=c.length+1:=by simp
    rw[h,if_neg (by lia),if_pos (by lia)];grind
def Last.uniq(h:Last P a)(h':Last P b):a=b:=Nat.le_antisymm (h'.2.2 a h.1 h.2.1) (h.2.2 b h'.1 h'.2.1)
abbrev c1:=Nat×(AH)
abbrev bA(BL:List c1):AN:=(BL.map (·.1)).map nD
abbrev aX(R:List Sm)(BL:List c1):AN:=BL.map λr=>aG R r.2
theorem Pa:∀{BL:List c1},b∈BL.map (·.1)->∃r∈BL,r.1=b/\Yn ((BL.map (·.1)).map λx:Nat=>(x:Int)) (aX R BL) (b:Int)=some (aG R r.2)
 | [],h=>nomatch h
 | r::BL,h=>by
   show ∃s∈_,_/\Yn (_::_) (_::_) _=_;rw[Yn];by_cases e:r.1=b
   .grind
   .have a:b∈BL.map (·.1):=by
     grind
    obtain⟨s,c,d,f⟩:=Pa (R:=R) a;grind
theorem r0(R:List Sm)(W V:AH)(x:Nat)(f:x<60):tP R (λp=>W p != V p) x=(tP R W x != tP R V x):=by
 have b:=congrArg (λd=>match d with|.tup [.tup l,_]=>M.intsD l|_=>none) (Hy R W V);dsimp only at b;rw[gn,gn]at b
 have a:x∈(fl 60 λx=>decide (bo R (fl 60 W) x%2=1)!=decide (bo R (fl 60 V) x%2=1))↔x∈(fl 60 λx=>decide (bo R (fl 60 λp=>W p != V p) x%2=1)):=by
  rw[<-mem_castI,<-mem_castI,w4 b]
 rw[Ql,Ql]at a;have c:=List.mem_range.mpr f;show decide _=_;cases e:decide (bo R _ x%2=1)
 .cases g:(tP R W x != tP R V x)
  .rfl
  .exact absurd (a.mp ⟨c,g⟩).2 (by grind)
 .exact(a.mpr ⟨c,e⟩).2.symm
theorem HA(R:List Sm)(W V:AH):aH R (fl 60 λp=>W p != V p)=(aH R (fl 60 W)!=aH R (fl 60 V)):=by
 have h:=Hy R W V;grind
inductive Red (R:List Sm) (BL:List c1) (e:Bool):(AH)->Bool->Prop
 | zero {T:AH}{o:Bool}:(∀x,x<60->T x=false)->(e=false->o=false)->Red R BL e T o
 | step {T:AH}{o:Bool} (r:c1):r∈BL->Last T r.1->Red R BL e (λx=>T x != tP R r.2 x) (o != aH R (fl 60 r.2))->Red R BL e T o
theorem Last.congr(h:Last T b)(e:∀x,x<60->T x=a x):Last a b:=⟨h.1,by rw[<-e b h.1];exact h.2.1,λx c d=>h.2.2 x c (by grind)⟩
theorem Red.congr(h:Red R BL e T o):∀{a:AH},(∀x,x<60->T x=a x)->Red R BL e a o:=by
 induction h with
 | zero j g=>exact λb=>.zero (λx c=>by grind) g
 | step r d i _ f=>exact λb=>.step r d (i.congr b) (f λx c=>by grind)
theorem Red.mono(i:∀r∈BL,r∈a)(k:e=true->d=true)(h:Red R BL e T o):Red R a d T o:=by
 induction h with
 | zero g f=>
   refine .zero g λz=>f ?_;grind
 | step r b j _ c=>exact .step r (i r b) j c
theorem Pb(A:∀r∈BL,Last (tP R r.2) r.1/\∀p,r.2 p=true->p<n)(w:AQ):∀(k a:Nat) (W:AH),(∀x,x<60->tP R W x=true->x<k)->k<a->(∀p,W p=true->p<n)->
 ∃V:AH,(∀p,V p=true->p<n)/\(fl 60 (tP R V)=[]\/∃b,Last (tP R V) b/\b∉BL.map (·.1))/\(∀(c:List c1) (e:Bool),(∀r∈BL,r∈c)->Red R c e (tP R V) (aH R (fl 60 V))->Red R c e (tP R W) (aH R (fl 60 W)))/\
  c5 (b9 (b1 (b2 (b2 (aa 2) (kD (.int 1)) ao) (kD (.int 0)) ao) aQ) (b2 (b2 (b2 (b2 (aa 2) (kD (.int 1)) ao) (kD (.int 0)) ao) (b1 (kD (.int 1)) dh) ao) (aa 1) (cQ false))) FR a [w,↑(.dct false (bA BL) (aX R BL)),↑(aG R W)] =
   some (.nx [w,↑(.dct false (bA BL) (aX R BL)),↑(aG R V)])
 | k,0,W,_,h,_=>absurd h (Nat.not_lt_zero _)
 | k,a+1,W,Z,hf,y=>by
   have F:Yc (aG R W)=some [.tup ((fl 60 W).map nD),.tup [.tup ((fl 60 (tP R W)).map nD),.bl (aH R (fl 60 W))]]:=rfl;rw[c5];rcases Hz (tP R W)with J|⟨b,m,G,i⟩
   .refine⟨W,y,.inl J,λ_ _ _ z=>z,?_⟩
    simp_all
   .have f:((fl 60 (tP R W)).map nD).isEmpty=false:=by
     simp_all
    have d:cQ false (.int (b:Int)) (.dct false (bA BL) (aX R BL))=some (decide (b∈BL.map (·.1))):=by
     rw[uQ,gn,Option.map_some];grind
    have t:nD b=.int (b:Int):=rfl;rw[t]at i;by_cases s:b∈BL.map (·.1)
    .obtain⟨r,D,o,g⟩:=Pa (R:=R) s
     have O:cP (.dct false (bA BL) (aX R BL)) (.int (b:Int))=some (aG R r.2):=by
      rw[kg,gn,qd];exact g
     have u:=Y3 R W r.2;obtain⟨l,L⟩:=A r D;rw[o]at l;have I:b<k:=Z b m.1 m.2.1
     obtain⟨v,rfl⟩:∃v,k=v+1:=⟨k-1,by lia⟩
     obtain⟨V,U,T,N,Q⟩:=Pb A w v a (λp=>W p != r.2 p) (λx q j=>by
      rw[r0 R W r.2 x q]at j
      have M:x≠b:=λz=>by
       subst z;rw[m.2.1,l.2.1]at j;grind
      have H:x<=b:=by
       cases E:tP R W x
       .rw[E]at j
        cases S:tP R r.2 x
        .grind
        .exact l.2.2 x q S
       .exact m.2.2 x q E
      lia) (by lia) (λp hp=>by
      grind)
     refine⟨V,U,T,λc e C Y=>?_,?_⟩
     .refine .step r (C r D) (o ▸ m) ?_
      rw[<-HA];exact(N c e C Y).congr λx q=>r0 R W r.2 x q
     rw[wm s]at d;generalize bA BL=K,aX R BL=VV at *;simp[F,f,i,d,FR,O,u,-uQ,-kg];exact Q
    .refine⟨W,y,.inr ⟨b,m,s⟩,λ_ _ _ z=>z,?_⟩
     rw[wn s]at d;generalize aG R W=PW,bA BL=K,aX R BL=VV at *;simp[F,f,i,d,-uQ]
theorem Y4(h:∀r∈BL,Last (tP R r.2) r.1/\∀p,r.2 p=true->p<n)(W:AH)(d:∀p,W p=true->p<n):
 ∃V:AH,(∀p,V p=true->p<n)/\(fl 60 (tP R V)=[]\/∃b,Last (tP R V) b/\b∉BL.map (·.1))/\(∀(a:List c1) (e:Bool),(∀r∈BL,r∈a)->Red R a e (tP R V) (aH R (fl 60 V))->Red R a e (tP R W) (aH R (fl 60 W)))/\mh [aG R W,.dct false (bA BL) (aX R BL)]=some (aG R V):=by
 obtain⟨V,j,g,f,l⟩:=Pb h (↑(aG R W)) 60 4000 W (λx c _=>c) (by lia) d;refine⟨V,j,g,f,?_⟩;rw[mh,Yj (by rfl)];have i:Yd 3 [aG R W,.dct false (bA BL) (aX R BL)]=[_,_,none]:=rfl;generalize D.dct _ _ _=k at *;rw[NZ]
 simp_all
theorem HB(l:AE):bG (l.map nD)=true:=by
 induction l with
 | nil=>rfl
 | cons a l b=>
   rw[Qd,bG,b];rfl
def HC(R:List Sm)(W:AH):dV (aG R W)=true:=by
 show dV (.tup [_,.tup [.tup ((fl 60 (tP R W)).map nD),_]])=true;simp [dV,bG,HB (fl 60 W),HB (fl 60 (tP R W))]
theorem xM(a:p<60):fl 60 (λx=>decide (x=p))=[p]:=by
 have h:=rX (n:=60) (l:=[p]) (by simp) (by grind);grind
theorem HD(R:List Sm)(p:Nat):bW R [p]=bg (rg R p):=by
 have a:aH R [p]=(rg R p).2:=by
  unfold aH;grind
 unfold bW bg;rw[a];refine O9 λx b=>?_;have:=Hv R [] p x;have c:bo R [] x=0:=rfl;grind
def HE(R:List Sm)(a:p<60):D.tup [.tup [nD p],bg (rg R p)]=aG R λx=>decide (x=p):=by
 show _=D.tup _;rw[xM a,HD];rfl
def cS:Option AH->D
 | none=>.non
 | some U=>.tup ((fl 60 U).map nD)
def r_(R:List Sm)(n:Nat)(U:Option AH):Prop:=∀a,U=some a->fl 60 (tP R a)=[]/\aH R (fl 60 a)=true/\∀p,a p=true->p<n
def jq(R:List Sm)(n:Nat)(BL:List c1):Prop:=(∀r∈BL,Last (tP R r.2) r.1/\∀p,r.2 p=true->p<n)/\(BL.map (·.1)).Nodup
theorem HF(hn:n<=60)(l:jq R n BL)(M:r_ R n U)(hl:BL.length<=1000)(hp:p<n)(d i e:AQ):
 ∃(a:List c1) (t:Option AH) (H N:AQ),jq R n a/\r_ R n t/\a.length<=BL.length+1/\(∀r∈BL,r∈a)/\(U.isSome=true->t.isSome=true)/\Red R a t.isSome (tP R λx=>decide (x=p)) (aH R (fl 60 λx=>decide (x=p)))/\
  qY [d,some (.od false (bA BL) (aX R BL)),↑(cS U),↑(nD p),↑(bg (rg R p)),i,e]=some (.nx [d,some (.od false (bA a) (aX R a)),↑(cS t),↑(nD p),↑(bg (rg R p)),H,N]):=by
 have h0:=HE R (p:=p) (by lia)
 obtain⟨V,v1,S,u,O⟩:=Y4 l.1 (λx=>decide (x=p)) (n:=n) (λq hq=>by
  grind)
 rw[<-h0]at O;have hpl:=HC R V;have j:Yc (aG R V)=some [.tup ((fl 60 V).map nD),.tup [.tup ((fl 60 (tP R V)).map nD),.bl (aH R (fl 60 V))]]:=rfl;have hfz:frz [1] [d,some (.od false (bA BL) (aX R BL)),↑(cS U),↑(nD p),↑(bg (rg R p)),i,e]=[d,↑(.dct false (bA BL) (aX R BL)),↑(cS U),↑(nD p),↑(bg (rg R p)),i,e]:=rfl
 have G:∀f:AU,f [d,↑(.dct false (bA BL) (aX R BL)),↑(cS U),↑(nD p),↑(bg (rg R p)),i,e]=some (aG R V)->gE [1] f [d,some (.od false (bA BL) (aX R BL)),↑(cS U),↑(nD p),↑(bg (rg R p)),i,e]=some (aG R V):=λf hf=>by
  unfold gE;grind
 have w:cC (Yb (ar (Yb (ar (Yb (ab 3) ae)) (Yb (ab 4) ae))) (Yb (ab 1) ae)) mh [d,↑(.dct false (bA BL) (aX R BL)),↑(cS U),↑(nD p),↑(bg (rg R p)),i,e]=some (aG R V):=by
  generalize aG R V=k,bg (rg R p)=T,nD p=P1,D.dct false (bA BL) (aX R BL)=DD at *;simp[O]
 have E:aq 5 (gE [1] (cC (Yb (ar (Yb (ar (Yb (ab 3) ae)) (Yb (ab 4) ae))) (Yb (ab 1) ae)) mh)) [d,some (.od false (bA BL) (aX R BL)),↑(cS U),↑(nD p),↑(bg (rg R p)),i,e]=some (.nx [d,some (.od false (bA BL) (aX R BL)),↑(cS U),↑(nD p),↑(bg (rg R p)),↑(aG R V),e]):=by
  simp_all
 rw[qY,eS,E,qd,pD];generalize J:aG R V=k at j ⊢;generalize bg (rg R p)=T;generalize nD p=P1;rcases Hz (tP R V)with he|⟨b,Q,Y,s⟩
 .rw[he]at j
  have v:∀x,x<60->tP R V x=false:=λx hx=>by
   simp_all
  cases C:aH R (fl 60 V)with
  | false=>
    refine⟨BL,U,↑k,↑(.tup []),l,M,by lia,λ_ h=>h,λh=>h,u BL _ (λ_ h=>h) (.zero v λ_=>C),?_⟩
    simp_all
  | true=>
    cases U with
    | some Z=>
      refine⟨BL,some Z,↑k,↑(.tup []),l,M,by lia,λ_ h=>h,λh=>h,u BL _ (λ_ h=>h) (.zero v λh=>nomatch h),?_⟩;rw[C]at j;generalize bA BL=K;generalize aX R BL=VV;simp[j,cS]
    | none=>
      refine⟨BL,some V,↑k,↑(.tup []),l,λt hU'=>?_,by lia,λ_ h=>h,λ_=>rfl,u BL _ (λ_ h=>h) (.zero v λh=>nomatch h),?_⟩
      .grind
      .rw[C]at j
       generalize bA BL=K;generalize aX R BL=VV;simp[j,cS]
 .have F:b∉BL.map (·.1):=by
   rcases S with z|⟨c,hc,I⟩
   .grind
   .rw[Q.uniq hc];exact I
  refine⟨BL++[(b,V)],U,↑k,↑(.tup ((fl 60 (tP R V)).map nD)),⟨λr g=>?_,?_⟩,M,by simp,λr g=>List.mem_append_left _ g,λh=>h,u _ _ (λr g=>List.mem_append_left _ g) (.step (b,V) (by simp) Q (.zero (λx _=>by simp) λ_=>by simp)),?_⟩
  .rcases qw g with g|g
   .exact l.1 r g
   simp_all
  .rw[wt]
   exact List.nodup_append.mpr ⟨l.2,by simp,λx hx y hy z=>by
    grind⟩
  .have o:((fl 60 (tP R V)).map nD).isEmpty=false:=by
    simp_all
   have m:lT (bA BL) (aX R BL) (.int (b:Int)) k=some (bA (BL++[(b,V)]),aX R (BL++[(b,V)])):=by
    rw[lU,gn,qd,if_pos (show(aX R BL).length<ax by rw[qf];show BL.length<1000000;lia),if_neg (λz=>F (mem_castI.mp z)),<-J];simp[nD]
   have A:nD b=.int (b:Int):=rfl;rw[A]at s;generalize bA (BL++[(b,V)])=K2,aX R (BL++[(b,V)])=V2,bA BL=K,aX R BL=VV,(fl 60 (tP R V)).map nD=L at *;simp[j,o,s,m,-lU]
theorem HG(R:List Sm)(a:p<60)(x:Nat)(b:x<60):tP R (λx=>decide (x=p)) x=(rg R p).1 x:=by
 unfold tP;rw[xM a];have:=Hv R [] p x;have c:bo R [] x=0:=rfl;grind
theorem HH(R:List Sm)(a:p<60):aH R (fl 60 λx=>decide (x=p))=(rg R p).2:=by
 rw[xM a];unfold aH;grind
def bX:List c1->Nat->AH
 | [],_=>λ_=>false
 | r::BL,b=>if r.1=b then r.2 else bX BL b
theorem mw(f:(AH)->D):∀{BL:List c1},b∈BL.map (·.1)->(b,bX BL b)∈BL/\Yn ((BL.map (·.1)).map λx:Nat=>(x:Int)) (BL.map λr=>f r.2) (b:Int)=some (f (bX BL b))
 | [],h=>nomatch h
 | r::BL,h=>by
   show _/\Yn (_::_) (f r.2::_) _=_;rw[Yn,bX];by_cases e:r.1=b
   .grind
   .have a:b∈BL.map (·.1):=by
     grind
    obtain⟨c,d⟩:=mw f a;grind
theorem Pc{BL:List c1}(h:(BL.map (·.1)).Nodup)(c:r∈BL)(hs:s∈BL)(e:r.1=s.1):r=s:=by
 induction BL with
 | nil=>grind
 | cons a BL b=>
   grind
theorem HI{l:AE}(hn:l.Nodup)(b:∀x∈l,x<60):l.length<=60:=by
 have a:l.Perm (fl 60 λx=>decide (x∈l)):=(List.perm_ext_iff_of_nodup hn (List.nodup_range.filter _)).mpr λx=>by
  grind
 rw[a.length_eq];grind
theorem Y5(l:AE)(hn:l.Nodup):∃a:AE,a.Perm l/\a.Pairwise (·<·)/\c6 (l.map λx:Nat=>(x:Int))=a.map λx:Nat=>(x:Int):=by
 have f:=Yx (l.map λx:Nat=>x);have e:=gC (l.map λx:Nat=>x)
 have d:∃a:AE,c6 (l.map λx:Nat=>x)=a.map λx:Nat=>(x:Int):=by
  refine⟨(c6 (l.map λx:Nat=>x)).map Int.toNat,?_⟩;rw[Qf];refine(List.map_id _).symm.trans (Qq λx g=>?_);grind
 obtain⟨a,d⟩:=d;rw[d]at f e
 have c:=by
  have:=f.map Int.toNat;simpa [wu]using this
 exact⟨a,c,(((List.pairwise_map.mp e).imp λh=>by lia).and (c.nodup_iff.mpr hn)).imp λh=>Nat.lt_of_le_of_ne h.1 h.2,d⟩
theorem Y6(hR:R.length<=60):∃(BL:List c1) (U:Option AH),jq R R.length BL/\r_ R R.length U/\BL.Pairwise (λr s=>r.1<s.1)/\
 (∀p,p<R.length->Red R BL U.isSome (rg R p).1 (rg R p).2)/\
 qZ [.tup [.str "sums",.tup (R.map bg)]]=some (.tup [.lst (aX R BL),cS U]):=by
 generalize l:D.tup [.str "sums",.tup (R.map bg)]=a
 have hbi:Yc a=some [.str "sums",.tup (R.map bg)]:=by rw[<-l];rfl
 obtain⟨ρ1,e1,BL,U,u,t,j,k,f,Q,G,A,rfl⟩:=gJ (gt:=ew 3 4) (fb:=qY) (λi:Nat=>D.tup [.int (i:Int),bg (rg R i)]) (λw V=>∃(BL:List c1) (U:Option AH) (u t j k:AQ),jq R R.length BL/\r_ R R.length U/\BL.length<=w.length/\(∀p∈w,Red R BL U.isSome (tP R λx=>decide (x=p)) (aH R (fl 60 λx=>decide (x=p))))/\
  V=[↑a,some (.od false (bA BL) (aX R BL)),↑(cS U),u,t,j,k]) (List.range R.length) []
  [↑a,some (.od false [] []),↑.non,none,none,none,none] ⟨[],none,none,none,none,none,⟨by simp,by simp⟩,λ_ h=>(nomatch h),by simp,by simp,rfl⟩ (by
   rintro q p r V e ⟨BL,U,u,t,j,k,f,Q,G,A,rfl⟩
   have O:p<R.length:=by
    have:p∈List.range R.length:=by grind
    grind
   have hq:q.length<=R.length:=by have:=congrArg List.length e;grind
   obtain⟨C,U',E,S,H,I,hL',hs,hu,T,n⟩:=HF hR f Q (by lia) O (↑a) j k;refine⟨_,_,rfl,n,C,U',_,_,E,S,H,I,by simp;lia,λp' c=>?_,rfl⟩;rcases qw c with z|z
   .exact(A p' z).mono hs hu
   grind)
 rw[Qj]at G A;rw[List.length_range]at G
 have g:∀x∈BL.map (·.1),x<60:=λx M=>by
  obtain⟨r,o,rfl⟩:=qy M;exact(f.1 r o).1.1
 obtain⟨d,c,hpw,K⟩:=Y5 (BL.map (·.1)) f.2;have Y:=HI f.2 g;have v:∀b∈d,(b,bX BL b)∈BL:=λb l=>(mw (aG R) (c.mem_iff.mp l)).1
 have m:(d.map λb=>(b,bX BL b)).map (·.1)=d:=by
  rw[Qf];exact List.map_id _
 have y:∀r∈BL,r∈d.map λb=>(b,bX BL b):=λr o=>by
  have h1:r.1∈d:=c.mem_iff.mpr (Qs (f:=(·.1)) o);have h2:=Pc f.2 o (v r.1 h1) rfl;grind
 refine⟨d.map λb=>(b,bX BL b),U,⟨λr o=>?_,?_⟩,Q,?_,λp O=>?_,?_⟩
 .obtain⟨b,l,rfl⟩:=qy o
  exact f.1 _ (v b l)
 .rw[m];exact c.nodup_iff.mpr f.2
 .grind
 .have:=(A p (List.mem_range.mpr O)).mono y (λh=>h)
  rw[HH R (by lia)]at this;exact this.congr λx M=>HG R (by lia) x M
 .rw[qZ,Yj (by rfl)]
  have n:Yd 7 [a]=[↑a,none,none,none,none,none,none]:=rfl;have hen:fi (R.map bg)=(List.range R.length).map λi:Nat=>D.tup [.int (i:Int),bg (rg R i)]:=EG bg (λ_=>false,false) R
  have N:kf [.dct false (bA BL) (aX R BL)]=some (d.map nD):=by
   rw[S6,gn,qd,if_pos (by grind),K,Qf];rfl
  have L:=dC (fe:=FS) (r:=[↑(.dct false (bA BL) (aX R BL))]) (enc:=nD) (λb=>aG R (bX BL b)) (l:=d) (λb l=>by
   have hg:cP (.dct false (bA BL) (aX R BL)) (.int (b:Int))=some (aG R (bX BL b)):=by
    rw[kg,gn,qd];exact(mw (aG R) (c.mem_iff.mp l)).2
   have F:nD b=.int (b:Int):=rfl;rw[F];generalize aG R (bX BL b)=PB,D.dct false (bA BL) (aX R BL)=DD at *
   simp[FS,hg,-kg])
  have J:aX R (d.map λb=>(b,bX BL b))=d.map λb=>aG R (bX BL b):=by
   simp_all
  rw[J];rw[n,FW,eS];have e0:lS 1 [↑a,none,none,none,none,none,none]=some (.nx [↑a,some (.od false [] []),none,none,none,none,none]):=rfl;rw[e0,qd,pD,FV,eS];have e2:aq 2 (kD .non) [↑a,some (.od false [] []),none,none,none,none,none]=some (.nx [↑a,some (.od false [] []),↑.non,none,none,none,none]):=rfl;rw[e2,qd,pD,FU,eS]
  have Z:a9 (b1 (b2 (aa 0) (kD (.int 1)) ao) fG) (ew 3 4) qY [↑a,some (.od false [] []),↑.non,none,none,none,none]=some (.nx [↑a,some (.od false (bA BL) (aX R BL)),↑(cS U),u,t,j,k]):=by
   simp_all
  rw[Z,qd,pD,FT,pC];have e4:frz [1] [↑a,some (.od false (bA BL) (aX R BL)),↑(cS U),u,t,j,k]=[↑a,↑(.dct false (bA BL) (aX R BL)),↑(cS U),u,t,j,k]:=rfl;rw[e4];generalize (d.map λb=>aG R (bX BL b))=RR,D.dct false (bA BL) (aX R BL)=DD,cS U=VU at *;simp[N,ak,L]
theorem HJ{Q:(AH)->Bool->Prop}(h0:Q (λ_=>false) false)(c:∀{T S o u},Q T o->Q S u->Q (λx=>T x != S x) (o != u))(f:∀{T d o},Q T o->(∀x,x<60->T x=d x)->Q d o)(h:∀p∈ps,Q (rg R p).1 (rg R p).2):Q (λx=>decide (bo R ps x%2=1)) (aH R ps):=by
 have b:∀l:AE,(∀p∈l,Q (rg R p).1 (rg R p).2)->Q (λx=>decide (bo R l.reverse x%2=1)) (aH R l.reverse):=λl=>by
  induction l with
  | nil=>exact λ_=>f h0 λx _=>rfl
  | cons p l g=>
    intro e;rw[List.reverse_cons,Hw];refine f (c (g λq i=>e q (qg _ i)) (e p qh)) λx c=>?_;rw[Hv];cases a:(rg R p).1 x
    .rw[if_neg λz=>by rw[Ql,a]at z;exact qi z.2]
     cases decide (bo R _ x%2=1)<;>rfl
    .rw[if_pos (List.mem_filter.mpr ⟨List.mem_range.mpr c,a⟩)]
     by_cases z:bo R l.reverse x%2=1
     .rw[wm z,wn (by lia)];rfl
     .rw[wn z,wm (by lia)];rfl
 have:=b _ λp a=>h p (List.mem_reverse.mp a)
 rwa [List.reverse_reverse]at this
def aF(b:Bool):D:=.str (if b=true then .ofString "keeper" else .ofString "storm")
theorem Y7(c:Int)(n:Nat)(hn:n<=1000):∃hs:AG,hs.length=n/\xF [.int c,.int n]=some (.tup (hs.map aF)):=by
 obtain⟨v,h,g⟩:=Hk c 1442695040888963407;rw[xF,Yj (by rfl)];have e:=pZ (n:=n) (by lia) (by lia);rw[l7]at e
 have f:=dC (fe:=xE) (r:=[↑(.int v)]) (enc:=λi:Nat=>.int (0+i)) (λi=>aF (decide (v/2^i%2=0))) (l:=.range ((n:Int)-0).toNat) (λi _=>by
  have d:=Cw v i
  have b:v/2^i%2=0\/v/2^i%2=1:=by lia
  rcases b with b|b
  .simp[xE,d,b,aF]
  .simp[xE,d,b,aF])
 refine⟨(List.range n).map λi=>decide (v/2^i%2=0),by simp,?_⟩;simp[OD,Yd,g,e,ak]at f ⊢;rw[f];simp[wu]
theorem HK(l:AE)(hn:l.Nodup)(j:l.length<64):∃a:AE,a.Perm l/\a.Pairwise (·<·)/\fF [.lst (l.map nD)]=some (a.map nD):=by
 have i:l.map nD=(l.map .ofNat).map .int:=by simp_all
 have g:=Yx (l.map .ofNat);have f:=gC (l.map .ofNat)
 have d:∃a:AE,c6 (l.map .ofNat)=a.map .ofNat:=by
  refine⟨(c6 (l.map .ofNat)).map Int.toNat,?_⟩;rw[Qf];refine(List.map_id _).symm.trans (Qq λx k=>?_);grind
 obtain⟨a,d⟩:=d;rw[d]at g f
 have c:=by
  have:=g.map Int.toNat;simpa [wu]using this
 refine⟨a,c,?_,?_⟩
 .have e:a.Pairwise (·<=·):=by
   have:=List.pairwise_map.mp f
   simp_all
  exact(e.and (c.nodup_iff.mpr hn)).imp λh=>Nat.lt_of_le_of_ne h.1 h.2
 .show lO _=_
  rw[i];unfold lO;rw[l9]
  simp_all
theorem Y8(l:AX)(h:l.length<=2)(hn:(l.map (·.1)).Nodup):∃d:AX,d.Perm l/\d.Pairwise vT/\fF [.lst (l.map af)]=some (d.map af):=by
 match l,h,hn with
 | [],_,_=>exact⟨[],.refl _,.nil,rfl⟩
 | [a],_,_=>exact⟨[a],.refl _,by simp,rfl⟩
 | [a,b],_,hn=>
   have f:=by simpa using hn
   have e:fF [.lst ([a,b].map af)]=some (if d8 b.1 b.2 a.1 a.2=true then _ else _):=rfl;obtain⟨x,p⟩:=a;obtain⟨y,q⟩:=b
   cases c:d8 y q x p with
   | true=>
     refine⟨[(y,q),(x,p)],.swap _ _ [],?_,by rw[e];simp[c]⟩;unfold d8 at c;rw[if_neg (λz=>f (by lia))]at c;simp at c;simp[vT,c]
   | false=>
     refine⟨[(x,p),(y,q)],.refl _,?_,by rw[e];simp[c]⟩;unfold d8 at c
     have:x<y:=by lia
     simp[vT,this]
theorem HL(k:Kd)(c:Int)(st n:Nat)(h0:st<n)(hn:n<=1000):∃r:Rl,In k n r/\gi r/\(∀x∈bV r,st<=x)/\rP [br k,.int c,.int st,.int n]=some (aL r):=by
 obtain⟨v,hv0,hv⟩:=Hk c 1181783497276652981
 have S:(0:Int)<(n:Int)-st:=by lia
 have hd1:(n:Int)-st<1073741824:=by lia
 have w:∀x:Int,a7 (.int x) (.int ((n:Int)-st))=some (.int (x%((n:Int)-st))):=λx=>T3 S;have O:∀x:Int,de (.int x) (.int ((n:Int)-st))=some (.int (x/((n:Int)-st))):=λx=>Et S hd1
 have hbe:∀x:Int,∃b:Nat,st<=b/\b<n/\(st:Int)+x%((n:Int)-st)=(b:Int):=λx=>by
  have Z:=Int.emod_nonneg x (show(n:Int)-st≠0 by lia);have h2:=Int.emod_lt_of_pos x S;exact⟨((st:Int)+x%((n:Int)-st)).toNat,by lia,by lia,by lia⟩
 have hst:Yd 8 [br k,.int c,.int st,.int n]=[↑(br k),↑(.int c),↑(.int st),↑(.int n),none,none,none,none]:=rfl;rw[rP,Yj (by rfl),hst];obtain⟨u,hsm,hsa⟩:=EC (l:=([1,2,2,2,1,2,3,4]:AF)) (i:=v%8) (by lia) (by simp;lia)
 have hsz0:1<=u/\u<=4:=by
  simp at hsm;lia
 have C:bE [D.int 1,D.int 2,D.int 2,D.int 2,D.int 1,D.int 2,D.int 3,D.int 4] (v%8)=some (.int u):=by
  rw[show[D.int 1,D.int 2,D.int 2,D.int 2,D.int 1,D.int 2,D.int 3,D.int 4]=([1,2,2,2,1,2,3,4]:AF).map D.int from rfl,gK,hsa];rfl
 have F:∀ρ:Ro,j_ [1,2,2,2,1,2,3,4] ρ=some (([1,2,2,2,1,2,3,4]:AF).map D.int):=λρ=>by
  unfold j_;rw[if_pos (by decide)]
 have K:∀(f:Int),0<=f->f<=4->∃(l:AE) (d:Int) (y:AQ),(l.length:Int)<=f/\l.Nodup/\(∀x∈l,st<=x/\x<n)/\
  M.forM (ai 7) rO ((List.range (f-0).toNat).map λi:Nat=>D.int (0+(i:Nat))) [↑(br k),↑(.int c),↑(.int st),↑(.int n),↑(.int (v/8)),↑(.int f),some (.ow []),none] =
   some (.nx [↑(br k),↑(.int c),↑(.int st),↑(.int n),↑(.int d),↑(.int f),some (.ow (l.map nD)),y]):=by
  intro f hs0 hs4
  obtain⟨ρ',A,l,d,y,hl,o,p,rfl⟩:=gJ (gt:=ai 7) (fb:=rO) (λi:Nat=>D.int (0+(i:Nat))) (λpre ρ=>∃(l:AE) (d:Int) (y:AQ),l.length<=pre.length/\l.Nodup/\(∀s∈l,st<=s/\s<n)/\
   ρ=[↑(br k),↑(.int c),↑(.int st),↑(.int n),↑(.int d),↑(.int f),some (.ow (l.map nD)),y]) (List.range (f-0).toNat) []
   [↑(br k),↑(.int c),↑(.int st),↑(.int n),↑(.int (v/8)),↑(.int f),some (.ow []),none] ⟨[],v/8,none,qv _,.nil,by simp,rfl⟩ (by
    rintro q a r ρ e ⟨l,d,y,hl,o,p,rfl⟩
    have hq:q.length<1000:=by have:=congrArg List.length e;simp at this;lia
    have hcap:l.length<1000000:=by lia
    obtain⟨b,H,J,hb⟩:=hbe d;have T:=eE (c:=.lst (l.map nD)) b l true rfl;simp only[nD]at T;by_cases Y:b∈l
    .refine⟨_,_,rfl,?_,l,d/((n:Int)-st),↑(.int (0+(a:Int))),by simp;lia,o,p,rfl⟩
     simp[rO,w,O,hb,T,Y,nD]
    .refine⟨_,_,rfl,?_,l++[b],d/((n:Int)-st),↑(.int (0+(a:Int))),by simp;lia,?_,?_,rfl⟩
     .simp[rO,w,O,hb,T,Y,b_,hcap,nD]
     .rw[List.nodup_append]
      refine⟨o,by simp,?_⟩;intro x j y hy z;simp at hy;subst hy;exact Y (z ▸ j)
     .intro s g
      rcases qw g with g|g
      .exact p s g
      .simp at g
       subst g
       exact⟨H,J⟩)
  refine⟨l,d,y,?_,o,p,A⟩;simp at hl;lia
 by_cases N:k=.e
 .subst N
  obtain⟨f,hsz,hs0,hs2⟩:∃f:Int,(if (2:Int)<u then 2 else u)=f/\0<=f/\f<=2:=⟨_,rfl,by split<;>lia,by split<;>lia⟩
  obtain⟨l,d,y,hl,o,p,A⟩:=K f hs0 (by lia);have L:=pZ (n:=f) (by lia) (by lia);rw[l7]at L;have hr2:=pZ (n:=(l.length:Int)) (by lia) (by lia);rw[l7]at hr2
  have hc:=dC (fe:=xG) (r:=[↑(.lst (l.map nD)),↑(.int d)]) (enc:=λi:Nat=>D.int (0+(i:Nat))) (λi:Nat=>af (l.getD i 0,decide (d/2^i%2=1))) (l:=List.range ((l.length:Int)-0).toNat) (λi hi=>by
   have hi':i<l.length:=by simpa using hi
   have Z:=Cw d i
   have e0:(0:Int)+(i:Int)=(i:Int):=by lia
   have hat:bE (l.map nD) (i:Int)=some (.int (l.getD i 0:Nat)):=by
    rw[gK,l8 hi'];simp[hi',nD]
   rw[e0]
   simp[xG,Z,hat,af])
  generalize I:(List.range l.length).map (λi:Nat=>((l.getD i 0,decide (d/2^i%2=1)):aC))=sl
  have Q:sl.map (·.1)=l:=by
   rw[<-I,Qf];refine List.ext_getElem (by simp) λi Z h2=>?_;simp[h2]
  obtain⟨U,hp,E,g⟩:=Y8 sl (by rw[<-I];simp;lia) (by rw[Q];exact o);have h:∀s∈U,st<=s.1/\s.1<n:=λs g=>p s.1 (by rw[<-Q];exact Qs (hp.mem_iff.mp g));refine⟨.ei U,⟨rfl,λs g=>(h s g).2⟩,⟨by rw[hp.length_eq,<-I];simp;lia,E⟩,λx j=>?_,?_⟩
  .obtain⟨s,hs',rfl⟩:=qy j
   exact(h s hs').1
  .have hc':cU (ai 0) tY xG [none,↑(.lst (l.map nD)),↑(.int d)] ((List.range ((l.length:Int)-0).toNat).map λi:Nat=>D.int (0+(i:Nat)))=some (sl.map af):=by
    rw[hc,<-I,Qf];simp[wu]
   simp[mu,hv,F,C,hsz,L]at A ⊢;rw[A];simp[hr2,ak]at hc' ⊢;rw[hc'];simp[g,aL]
 .obtain⟨l,d,y,hl,o,p,A⟩:=K u (by lia) hsz0.2
  have L:=pZ (n:=u) (by lia) (by lia);rw[l7]at L;obtain⟨U,hp,E,g⟩:=HK l o (by lia);have h:∀s∈U,st<=s/\s<n:=λs g=>p s (hp.mem_iff.mp g);by_cases t:k=.s
  .subst t
   refine⟨.su U (decide (d%2=1)),⟨rfl,λs g=>(h s g).2⟩,E,λx j=>(h x j).1,?_⟩;simp[mu,hv,F,C,L]at A ⊢;rw[A];simp[g,aL]
  .have G:k=.i\/k=.n:=by cases k<;>simp at N t ⊢
   by_cases h4:d%4=0
   .refine⟨.im U none,⟨G,λs g=>(h s g).2,λx j=>by cases j⟩,E,λx j=>(h x j).1,?_⟩
    simp[mu,hv,F,C,L,N,t]at A ⊢;rw[A];simp[g,aL,t,h4,N,av]
   .obtain⟨b,H,J,hb⟩:=hbe (d/4)
    by_cases Z:d%4=1
    .have hcut:bN (l.map nD) (some 1) none=(l.map nD).drop 1:=by
      have Y:=HT.sIx_nat (l.map nD).length 0 1;unfold bN;simp at Y;simp[Y,HT.sIx]
      cases l with
      | nil=>simp
      | cons a l=>simp;exact List.take_of_length_le (by simp)
     obtain⟨m,hpm,hpwm,R⟩:=HK (l.drop 1) (o.sublist (List.drop_sublist 1 l)) (by simp;lia);have hmm:∀s∈m,st<=s/\s<n:=λs g=>p s (List.mem_of_mem_drop (hpm.mem_iff.mp g));refine⟨.im m (some b),⟨G,λs g=>(hmm s g).2,λx j=>by cases j;exact J⟩,hpwm,λx j=>?_,?_⟩
     .simp[bV]at j
      rcases j with j|rfl
      .exact(hmm x j).1
      .exact H
     .simp[mu,hv,F,C,L,N,t]at A ⊢
      rw[A];simp at R;simp[g,aL,t,h4,Z,N,av,hcut,w,hb,R]
    .refine⟨.im U (some b),⟨G,λs g=>(h s g).2,λx j=>by cases j;exact J⟩,E,λx j=>?_,?_⟩
     .simp[bV]at j
      rcases j with j|rfl
      .exact(h x j).1
      .exact H
     .simp[mu,hv,F,C,L,N,t]at A ⊢
      rw[A];simp[g,aL,t,h4,Z,N,av,w,hb]
def HM(a b:Bool):aI false (aF a) (aF b)=some (a==b):=by
 cases a<;>cases b<;>decide +kernel
def aB(hs:AG)(st:Nat)(b:Bool):AE:=(List.range hs.length).filter λi=>decide (st<=i)&&(hs.getD i false==b)
theorem mx(hs:AG)(h:Yc c=some (hs.map aF))(q:hs.length<=1000)(st:Nat)(n:st<=hs.length)(b:Bool):Yw [c,.int st,aF b]=some (.lst ((aB hs st b).map nD)):=by
 rw[Yw,Yj (by rfl)];have g:=EB (a:=st) (n:=hs.length) (by lia) (by lia) (by lia) (by lia);rw[l7]at g
 have d:=gL (fc:=FO) (fe:=FP) (r:=[↑c,↑(aF b)]) (enc:=λi:Nat=>D.int (st+i)) (λi=>hs.getD (st+i) false==b) (λi=>nD (st+i)) (l:=List.range ((hs.length:Int)-st).toNat) (λi p=>by
  have e:st+i<hs.length:=by grind
  have k:st+(i:Int)=((st+i:Nat)):=by lia
  have f:bE (hs.map aF) ((st+i:Nat))=some (aF (hs.getD (st+i) false)):=by
   rw[gK,l8 e];simp[e]
  rw[k]
  simp only[FO,Eh,T8,T5,qd,Ew,h,f,HM]) (λi _ _=>by simp[FP,nD])
 have m:(((List.range ((hs.length:Int)-st).toNat).filter λi=>hs.getD (st+i) false==b).map λi=>nD (st+i))=(aB hs st b).map nD:=by
  unfold aB
  have o:List.range hs.length=List.range st++(List.range (hs.length-st)).map (st+·):=by
   rw[<-List.range_add];grind
  rw[o,List.filter_append,List.filter_map]
  have l:(List.range st).filter (λi=>decide (st<=i)&&(hs.getD i false==b))=[]:=by
   rw[List.filter_eq_nil_iff];grind
  rw[l,Qj];simp[wu]
 have j:((hs.length:Int)-st).toNat=hs.length-st:=by lia
 rw[m,j]at d;simp[NV,Yd,h,g,ak,d]
def my(k:Kd)(r:Rl):Bool:=bP (aL r) (aL (vd k))
def Y9{R:List Rl}(b:∀r∈R,In k n r/\sz r<=999999):rq [Yl k R]=some (.bl (R.any (my k))):=by
 rw[rq,Yj (by rfl)]
 simp[Od,Yd,ak,dC (fe:=Gk) (r:=[↑(Yl k R)]) (enc:=aL) (λr=>.bl (my k r)) (λr a=>by
  have:=YV (b r a).1 (b r a).2
  simp[Gk,this,my])]
def cg(ks:AE):D:=.dct false (ks.map nD) (ks.map λ_=>.bl true)
theorem xN(l:AE):intsD (l.map nD)=some (l.map λx:Nat=>(x:Int)):=by simp_all
theorem xO(x:Nat)(ks:AE):((x:Int)∈ks.map λx:Nat=>(x:Int))↔x∈ks:=by grind
def HN(x:Nat)(ks:AE)(a:Bool):dj a (nD x) (cg ks)=some (decide (x∈ks)!=a):=by
 rw[cg,Co,xN,Option.map_some,decide_eq_decide.mpr (xO x ks)]
def HP(x:Nat)(ks:AE)(a:Bool):cQ a (.int (x:Int)) (cg ks)=some (decide (x∈ks)!=a):=by
 rw[cg,uQ,xN,Option.map_some,decide_eq_decide.mpr (xO x ks)]
theorem HQ(ks:AE)(b:∀x∈ks,x<60)(a:Bool):cQ a .non (cg ks)=some (false != a):=by
 rw[cg,CK,xN];unfold lX;grind
def HR(x:Nat)(ks:AE):dU false (nD x) (cg ks)=none:=rfl
def Y_(r:bL)(ks:AE):kQ [dX r,cg ks]=some (.bl (kn r.1 ks)):=by
 rw[kQ,Yj (by rfl)];simp[xf,Yd,ak,dC (fe:=Yy) (r:=[↑(cg ks)]) (enc:=nD) (λx=>.bl (decide (x∈ks))) (l:=r.1) (λx _=>by simp[Yy,HN x ks false,HR x ks]),kn]
theorem Za(R:List bL)(ks:AE)(i:Nat)(h:i<R.length):xg [bf R,cg ks,.int (i:Int)]=some (.bl ((aA R i).2.isSome&&kn (aA R i).1 ks)):=by
 rw[xg,Yj (by rfl)];have b:=k8 (R:=R) (i:=i) ⟨by lia,by lia⟩;have a:=Y2 R i;rw[wm (by lia)]at a
 cases c:(aA R i).2 with
 | none=>simp[Gj,Yd,a,b,c,av]
 | some x=>simp[Gj,Yd,a,b,Y_ (aA R i) ks,c,av]
def se(R:List bL)(ks:AE)(i:Nat):Bool:=match (aA R i).2 with
 | none=>false
 | some x=>!decide (x∈ks)&&kn (aA R i).1 ks
def dO(R:List bL)(ks:AE):AL:=(List.range R.length).find? (se R ks)
theorem HU{f:Type}(enc:f->D)(p:f->Bool)(e:f->D)(I:Ro->Prop):∀(l:List f) (ρ:Ro),I ρ->
 (∀a∈l,∀ρ,I ρ->∃d,gt (enc a) ρ=some d/\((p a=false/\∃c,fb d=some (.nx c)/\I c)\/(p a=true/\fb d=some (.rt (e a)))))->
 (∃a,l.find? p=some a/\M.forM gt fb (l.map enc) ρ=some (.rt (e a)))\/(l.find? p=none/\∃ρ',M.forM gt fb (l.map enc) ρ=some (.nx ρ')/\I ρ')
 | [],ρ,g,_=>.inr ⟨rfl,ρ,rfl,g⟩
 | a::l,ρ,g,k=>by
   obtain⟨d,m,h⟩:=k a qh ρ g;rw[Qd,M.forM,m,qd,List.find?_cons];rcases h with⟨i,c,j,n⟩|⟨i,j⟩
   .rw[j,i]
    exact HU enc p e I l c n λb o=>k b (qg _ o)
   grind
def xP(R:List bL):fi (R.map dX)=(List.range R.length).map λi:Nat=>D.tup [.int (i:Int),dX (aA R i)]:=by
 unfold fi;rw[qf];refine Qq λi a=>?_;rw[aA,w5,List.getD_eq_getElem?_getD,Qm,List.getD_eq_getElem?_getD,qr (Qb a)];rfl
theorem Pd(R:List bL)(ks:AE)(o:∀x∈ks,x<60):ro [bf R,cg ks]=some (av (dO R ks)):=by
 rw[ro,Yj (by rfl)];have k:Yd 4 [bf R,cg ks]=[some _,some _,none,none]:=rfl;rw[k]
 have h:=HU (gt:=ew 2 3) (fb:=mj) (λi:Nat=>.tup [.int i,dX (aA R i)]) (se R ks) (λi=>.int i) (λm=>∃y z,m=[↑(bf R),↑(cg ks),y,z]) _
  _ ⟨none,none,rfl⟩ (by
   rintro i p m ⟨y,z,rfl⟩;have f:i<R.length:=Qb p;refine⟨[some _,some _,some _,some _],rfl,?_⟩;have a:=Za R ks i f;have g:=HQ ks o true;unfold se
   cases d:(aA R i).2 with
   | none=>
     left;refine⟨rfl,[some _,some _,↑(.int i),↑(dX (aA R i))],?_,_,_,rfl⟩;simp[mj,d,av,g,a]
   | some x=>
     have e:=HP x ks true;by_cases c:x∈ks
     .left
      refine⟨by simp[c],[some _,some _,↑(.int i),↑(dX (aA R i))],?_,_,_,rfl⟩;simp[mj,d,av,e,c]
     .cases b:kn _ ks with
      | false=>
        left;rw[b]at a;refine⟨by simp,[some _,some _,↑(.int i),↑(dX (aA R i))],?_,_,_,rfl⟩;simp[mj,d,av,e,c,a]
      | true=>
        right;rw[b]at a;refine⟨by simp[c],?_⟩
        simp[mj,d,av,e,c,a])
 rw[Ob];rcases h with⟨i,j,l⟩|⟨j,n,l,q⟩
 .simp[fG,xP,l,dO,j,av]
 .simp[fG,xP,l,dO,j,av]
theorem Pe(h:dO R ks=some i):i<R.length/\∃x,(aA R i).2=some x/\x∉ks/\kn (aA R i).1 ks=true:=by
 unfold dO at h;have a:=List.find?_some h;unfold se at a;grind
theorem HV(h:dO R ks=none)(a:i<R.length)(c:(aA R i).2=some x)(b:kn (aA R i).1 ks=true):x∈ks:=by
 have:=List.find?_eq_none.mp h i (List.mem_range.mpr a);unfold se at this;grind
theorem sg:∀(n:Nat) (l:AE),l.Nodup->(∀x∈l,x<n)->l.length<=n
 | 0,l,_,h=>by
   cases l with
   | nil=>simp
   | cons a l=>exact absurd (h a qh) (by lia)
 | n+1,l,b,h=>by
   have d:=sg n _ (b.erase n) λx c=>by
    grind
   grind
def Der(R:List bL):AE->AE->Prop
 | _,[]=>True
 | ks,i::is=>(i<R.length/\(∃x,(aA R i).2=some x)/\kn (aA R i).1 ks=true)/\Der R (ks++[bu (aA R i)]) is
theorem Pf(h:∀x,x∈ks↔x∈fs):kn b ks=kn b fs:=by
 unfold kn;grind
theorem Der.congr:∀{a ks fs:AE},(∀x,x∈ks↔x∈fs)->Der R ks a->Der R fs a
 | [],_,_,_,_=>trivial
 | i::a,ks,fs,h,d=>by
   obtain⟨⟨b,c,e⟩,d⟩:=d;refine⟨⟨b,c,by rwa [<-Pf h]⟩,.congr (λx=>?_) d⟩;simp[h x]
theorem Zb(R:List bL)(g:∀r∈R,∀x,r.2=some x->x<60)(y:AQ):∀(m a:Nat) (ks b:AE),60<=ks.length+m->m+1<=a->ks.Nodup->(∀x∈ks,x<60)->b.length+m<=1000->
 ∃js:AE,dO R (ks++js.map λi:Nat=>bu (aA R i))=none/\(ks++js.map λi:Nat=>bu (aA R i)).Nodup/\(∀x∈ks++js.map (λi:Nat=>bu (aA R i)),x<60)/\Der R ks js/\js.length<=m/\
  c5 (b2 (aa 4) (kD .non) (bU true)) xi a [↑(bf R),y,some (.od false (ks.map nD) (ks.map λ_=>.bl true)),some (.ow (b.map nD)),↑(av (dO R ks))] =
   some (.nx [↑(bf R),y,some (.od false ((ks++js.map λi:Nat=>bu (aA R i)).map nD) ((ks++js.map λi:Nat=>bu (aA R i)).map λ_=>.bl true)),some (.ow ((b++js).map nD)),↑.non]):=by
 intro m
 induction m with
 | zero=>
   intro a ks b J L E A G
   have s:dO R ks=none:=by
    cases h:dO R ks with
    | none=>rfl
    | some i=>
      obtain⟨C,x,e,l,_⟩:=Pe h
      have j:x<60:=by
       refine g (aA R i) ?_ x e;unfold aA;grind
      have:=sg 60 (ks++[x]) (by
       grind) (λz F=>by
       grind)
      grind
   refine⟨[],by grind,by grind,by grind,trivial,qv _,?_⟩
   cases a with
   | zero=>lia
   | succ a=>
     rw[c5,s];simp[av]
 | succ m H=>
   intro a ks b J L E A G
   cases a with
   | zero=>lia
   | succ a=>
     cases h:dO R ks with
     | none=>
       refine⟨[],by simpa using h,by grind,by grind,trivial,Qh _,?_⟩;rw[c5];simp[av]
     | some i=>
       obtain⟨C,x,e,l,p⟩:=Pe h
       have j:x<60:=by
        refine g (aA R i) ?_ x e;unfold aA;grind
       have u:bu (aA R i)=x:=by simp[bu,e]
       have t:(ks++[x]).Nodup:=by
        grind
       have k:∀z∈ks++[x],z<60:=λz F=>by
        grind
       obtain⟨js,k1,Z,k3,U,T,N⟩:=H a (ks++[x]) (b++[i]) (by simp;lia) (by lia) t k (by simp;lia)
       have I:ks++(i::js).map (λi:Nat=>bu (aA R i))=ks++[x]++js.map λi:Nat=>bu (aA R i):=by simp[u]
       refine⟨i::js,by grind,by grind,by grind,⟨⟨C,⟨x,e⟩,p⟩,by grind⟩,by simp;lia,?_⟩;rw[I]
       have O:b++i::js=b++[i]++js:=by simp
       rw[O,<-N,c5]
       have c:b.length<1000000:=by lia
       have d:ks.length<1000000:=by have:=sg 60 ks E A;lia
       have w:=Pd R (ks++[x]) k;have v:=k8 (R:=R) (i:=(i:Int)) ⟨by lia,by lia⟩
       have n:lT (ks.map nD) (ks.map λ_=>.bl true) (.int (x:Int)) (.bl true)=some ((ks++[x]).map nD,(ks++[x]).map λ_=>.bl true):=by
        have Q:¬(x:Int)∈ks.map λx:Nat=>(x:Int):=λz=>l ((xO x ks).mp z);rw[lU,xN,qd,qf,if_pos (show ks.length<ax from d),if_neg Q];simp[nD]
       have o:scal (av (dO R (ks++[x])))=some (av (dO R (ks++[x]))):=by cases dO R (ks++[x])<;>simp[av]
       have q:frz1 2 [↑(bf R),y,some (.od false ((ks++[x]).map nD) ((ks++[x]).map λ_=>.bl true)),some (.ow ((b++[i]).map nD)),↑(.int (i:Int))]=[↑(bf R),y,↑(cg (ks++[x])),some (.ow ((b++[i]).map nD)),↑(.int (i:Int))]:=rfl
       have M:xi [↑(bf R),y,some (.od false (ks.map nD) (ks.map λ_=>.bl true)),some (.ow (b.map nD)),↑(.int (i:Int))] =
        some (.nx [↑(bf R),y,some (.od false ((ks++[x]).map nD) ((ks++[x]).map λ_=>.bl true)),some (.ow ((b++[i]).map nD)),↑(av (dO R (ks++[x])))]):=by
        have f:b.map nD++[D.int (i:Int)]=(b++[i]).map nD:=by simp[nD]
        unfold xi;simp only[eS,Eo];have K:av (some x)=.int (x:Int):=rfl;generalize av (dO R (ks++[x]))=nx,(ks++[x]).map nD=V,((ks++[x]).map λ_=>D.bl true)=Y,(b++[i]).map nD=S at *;simp[b_,c,v,e,K,n,f,q,w,o,-lU]
       simp[av,M,-wt]
theorem Pg[DecidableEq a](x:a)(y:b):∀(ks:List a),aJ ks (ks.map λ_=>y) x y=ks.map λ_=>y
 | []=>rfl
 | k::ks=>by
   rw[Qd,aJ]
   split
   .rfl
   .rw[Pg x y ks]
def dd(ks:AE):AE->AE
 | []=>ks
 | x::fs=>dd (if x∈ks then ks else ks++[x]) fs
theorem HX:∀(fs ks:AE) (x:Nat),x∈dd ks fs↔x∈ks\/x∈fs
 | [],ks,x=>by simp[dd]
 | k::fs,ks,x=>by
   rw[dd,HX fs];grind
theorem Ph:∀(fs ks:AE),ks.Nodup->(dd ks fs).Nodup
 | [],_,h=>h
 | k::fs,ks,h=>by
   refine Ph fs _ ?_;grind
theorem HY:∀(fs ks:AE),ay (ks.map λx:Nat=>(x:Int)) (ks.map λ_=>D.bl true) (fs.map λx:Nat=>((x:Int),D.bl true))=((dd ks fs).map (λx:Nat=>(x:Int)),(dd ks fs).map λ_=>D.bl true)
 | [],ks=>rfl
 | x::fs,ks=>by
   rw[Qd,ay,dd];unfold a_;by_cases h:x∈ks
   .rw[if_pos ((xO x ks).mpr h),if_pos h]
    have e:=Pg (x:Int) (D.bl true) (ks.map λx:Nat=>x);rw[Qf]at e;have a:aJ _ (ks.map λ_=>D.bl _) _ _=_:=e;rw[a];exact HY fs ks
   .have:=HY fs (ks++[x])
    grind
theorem Pi:∀fs:AE,fv (fs.map λx=>D.tup [nD x,.bl true])=some (fs.map λx:Nat=>((x:Int),D.bl true))
 | []=>by simp[fv]
 | x::fs=>by
   rw[Qd,fv,Pi fs];rfl
theorem HZ(l:AE)(vs:AN)(hn:l.Nodup)(b:l.length<64):∃a:AE,a.Perm l/\a.Pairwise (·<·)/\kf [.dct false (l.map nD) vs]=some (a.map nD):=by
 obtain⟨a,d,c,e⟩:=HK l hn b;refine⟨a,d,c,?_⟩;rw[<-e];show _=lO _;unfold lO
 simp_all
structure cD(R:List bL)(fs l js:AE):Prop where
 pw:l.Pairwise (·<·)
 mem:∀x,x∈l↔x∈fs++js.map λi:Nat=>bu (aA R i)
 der:Der R fs js
 none:∀i,i<R.length->∀x,(aA R i).2=some x->kn (aA R i).1 l=true->x∈l
 lt:∀x∈l,x<60
 len:js.length<=60
theorem si(R:List bL)(j:∀r∈R,∀x,r.2=some x->x<60)(fs:AE)(I:∀x∈fs,x<60)(w:fs.length<=1000)(E:Yc c=some (fs.map nD)):
 ∃l js,cD R fs l js/\Yv [bf R,c]=some (.tup [.lst (l.map nD),.tup (js.map nD)]):=by
 have e:∀x∈dd [] fs,x<60:=λx b=>by
  rw[HX]at b;grind
 have g:(dd [] fs).Nodup:=Ph fs [] .nil;obtain⟨js,A,p,n,u,B,J⟩:=Zb R j (↑c) 60 4000 (dd [] fs) [] (by lia) (by lia) g e (by simp);have q:=sg 60 _ p n;obtain⟨l,h,F,H⟩:=HZ (dd [] fs++js.map λi:Nat=>bu (aA R i)) ((dd [] fs++js.map λi:Nat=>bu (aA R i)).map λ_=>.bl true) p (by lia)
 have f:∀x,x∈dd [] fs↔x∈fs:=λx=>by rw[HX];simp
 refine⟨l,js,⟨F,λx=>?_,u.congr f,λi G x b t=>?_,λx b=>n x (h.mem_iff.mp b),B⟩,?_⟩
 .grind
 .rw[h.mem_iff]
  exact HV A G b (by rw[<-t];exact Pf λz=>h.mem_iff.symm)
 .rw[Yv,Yj (by rfl)]
  have k:Yd 5 [bf R,c]=[↑(bf R),↑c,none,none,none]:=rfl;rw[k];have a:=dC (fe:=xh) (r:=[]) (enc:=nD) (λx=>D.tup [nD x,.bl true]) (l:=fs) (λx _=>by simp[xh,nD]);have m:=Pd R (dd [] fs) e
  have y:scal (av (dO R (dd [] fs)))=some (av (dO R (dd [] fs))):=by cases dO R (dd [] fs)<;>simp[av]
  have d:=HY fs [];rw[List.map_nil,List.map_nil]at d
  have o:(fs.map λx:Nat=>((x:Int),D.bl true)).length<1000000:=by grind
  have C:((dd [] fs).map λx:Nat=>(x:Int)).map D.int=(dd [] fs).map nD:=by simp_all
  have s:frz1 2 [↑(bf R),↑c,some (.od false ((dd [] fs).map nD) ((dd [] fs).map λ_=>.bl true)),some (.ow []),none]=[↑(bf R),↑c,↑(cg (dd [] fs)),some (.ow []),none]:=rfl
  have v:(fw 2 (lF (bq (b1 (ab 1) Yc) [none] (ai 0) tY (xh)))) [↑(bf R),↑c,none,none,none]=some (.nx [↑(bf R),↑c,some (.od false ((dd [] fs).map nD) ((dd [] fs).map λ_=>.bl true)),none,none]):=by
   simp only[CD];simp[E,ak,a,Pi];grind
  rw[Oc]
  simp_all
def Pj(c:Bool)(a b:aC):aI c (af a) (af b)=some (if c then !decide (a=b)else decide (a=b)):=by
 rw[pV (by simp) (by simp),Nb]
def iC(a:aC)(l:AX):Option aC:=if a∈l then some ((l.filter λt=>!decide (t=a)).headD a)else none
def bJ(L:AW)(s:aC):AX:=L.filterMap (iC (aP s))
abbrev mz(l:AX):D:=aL (.ei l)
abbrev ba(L:AW):D:=.tup [br .e,.tup (L.map mz)]
theorem H8(p:L.length<=1000)(s:aC):wH [ba L,af s]=some (.lst ((bJ L s).map af)):=by
 have k:∀a,(∃r,[]++L=a++r)->(bJ a s).length<1000000:=λa ⟨r,e⟩=>by
  have u:(bJ a s).length<=a.length:=List.length_filterMap_le _ _;grind
 obtain⟨n,m,y,z,rfl⟩:=gJ (gt:=ai 4) (fb:=qX) mz (λa j=>∃(y z:AQ),
  j=[some _,some _,some _,some (.ow ((bJ a s).map af)),y,z]) L []
  [some _,some _,↑(af (aP s)),some (.ow []),none,none] ⟨none,none,rfl⟩ (by
   rintro q l r j e ⟨y,z,rfl⟩;have f:=qC (c:=mz l) (aP s) l false rfl
   have b:bJ (q++[l]) s=bJ q s++(iC (aP s) l).toList:=by
    simp only[bJ];grind
   by_cases h:aP s∈l
   .have g:=gL (fc:=FG) (fe:=FH) (r:=[↑(af (aP s))]) (enc:=af) (λt=>!decide (t=aP s)) af (l:=l) (λx _=>by
     simp[FG,Pj]) (λx _ _=>by simp[FH])
    have i:iC (aP s) l=some ((l.filter λt=>!decide (t=aP s)).headD (aP s)):=by rw[iC,if_pos h]
    rw[i]at b;generalize (l.filter _)=os at g b;have c:∀d:D,b_ ((bJ q s).map af) d=_:=λd=>vN (by grind);refine⟨_,_,rfl,?_,↑(mz l),some (.ow (os.map af)),rfl⟩
    cases os with
    | nil=>simp[qX,f,h,ak,g,c,b]
    | cons o os=>simp[qX,f,h,ak,g,c,b]
   .have i:iC (aP s) l=none:=by rw[iC,if_neg h]
    rw[i]at b;refine⟨_,_,rfl,?_,↑(mz l),z,rfl⟩
    simp[qX,f,h,b])
 rw[wH,Yj (by rfl)];simp[FI,Yd,xK];rw[m];simp
def eT(a:AX)(i:Nat):aC:=a.getD i (0,false)
def Pk(L:AW)(a:AX)(i:Nat):Bool:=decide (eT a (i+1)∈bJ L (eT a i))
def iD(L:AW)(a:AX):Bool:=decide (0<a.length)&&(List.range (a.length-1)).all (Pk L a)
def k9(l:AX):aC:=eT l (l.length-1)
theorem Pl(h:iD L l=true):0<l.length:=by
 unfold iD at h;grind
def H_(L:AW):Yl .e (L.map Rl.ei)=ba L:=by simp[Yl,wu]
def there(L:AW)(o k:AX):Bool:=iD L o&&(iD L k&&(decide (k9 o=eT k 0)&&decide (k9 k=eT o 0)))
def dw(R:List bL)(a:AF):AE:=a.map λi=>bu (aA R i)
theorem Ia(a:Bool)(x:Nat)(b:AL):aI a (.int (x:Int)) (av b)=some (if a then !decide (some x=b)else decide (some x=b)):=by
 cases b with
 | none=>
   have:bP (.int x) .non=false:=by simp[bP,aE,PyData.eqv]
   rw[pV (by simp) (by simp)];simp[av,this]
 | some y=>simp[av]
def gO(b:AL)(S:AE):AE:=S.filter λy=>!decide (some y=b)
theorem Zc(S:AE)(b:AL):jn [.lst (S.map nD),av b]=some (.tup ((gO b S).map nD)):=by
 rw[jn,Yj (by rfl)]
 simp[F9,Yd,ak,gL (fc:=ri) (fe:=rj) (r:=[↑(av b)]) (enc:=nD) (λy=>!decide (some y=b)) nD (l:=S) (λy _=>by
  simp[ri,Ia]) (λ_ _ _=>by simp[rj]),gO]
def Ib(R:List bL)(S:AE)(b:AL)(a:AF):Bool:=match b with
 | none=>decide (a.length=0)
 | some x=>decide (x∈S)&&d_ R S a
def k_(R:List bL)(a:AE)(b:AL)(c:AF):AE:=match b with
 | none=>[]
 | some x=>a.filter λy=>decide (y<x)&&decide (y∈dw R c)
def iE(R:List bL)(b:AL)(a:AF)(fs:AE):Bool:=decide (0<a.length)&&(decide (0<=a.getD (a.length-1) 0/\a.getD (a.length-1) 0<R.length)&&(d_ R fs a.dropLast&&(kn (aA R (a.getD (a.length-1) 0)).1 (fs++dw R a.dropLast)&&(decide ((aA R (a.getD (a.length-1) 0)).2=none)||decide ((aA R (a.getD (a.length-1) 0)).2=b)))))
theorem Ic(h:∀x,x∈ks↔x∈fs):kn b ks=kn b fs:=by
 unfold kn;grind
def la(R:List bL)(c S:AE)(b:AL)(a js:AF):Bool:=Ib R S b a&&iE R b js (gO b S++k_ R c b a)
abbrev fN:=Nat×Option Nat×Bool
def cG(r:fN):D:=.tup [.int r.1,av r.2.1,.bl r.2.2]
abbrev lb:=Option Nat×Bool
def dY(rows:List fN)(s:aC):lb:=
 match rows.find? (λr=>r.1==s.1)with
 | none=>(some s.1,s.2)
 | some r=>(r.2.1,s.2==r.2.2)
def mC(e:lb):lb:=(e.1,!e.2)
def lg(a:List lb):Bool:=a.any λe=>decide (e=(none,true))||decide (mC e∈a)
def iF(S:AE)(r:fN):Bool:=match r.2.1 with
 | none=>true
 | some x=>decide (x∈S)&&decide (x<r.1)
theorem Pm:∀{a b:AE},a.Pairwise (·<·)->b.Pairwise (·<·)->(∀x,x∈a↔x∈b)->a=b
 | [],[],_,_,_=>rfl
 | [],y::b,_,_,h=>absurd ((h y).mpr qh) (by simp)
 | x::a,[],_,_,h=>absurd ((h x).mp qh) (by simp)
 | x::a,y::b,d,g,h=>by
   rw[List.pairwise_cons]at d g
   have c:x=y:=by
    have f:=(h x).mp qh;have e:=(h y).mpr qh;grind
   subst c
   have:=Pm d.2 g.2 λz=>by
    grind
   rw[this]
abbrev cH:=Nat×List Nat×Bool
def a6(r:cH):D:=.tup [.int r.1,.tup (r.2.1.map nD),.bl r.2.2]
@[simp] theorem mD(r:cH):Yc (a6 r)=some [.int r.1,.tup (r.2.1.map nD),.bl r.2.2]:=nr rfl
def Ie(a b c:D):bE [a,b,c] 1=some b:=rfl
def Ig(a b c:D):bE [a,b,c] 2=some c:=rfl
def gP(rows:List cH):D:=.dct false (rows.map λr=>nD r.1) (rows.map a6)
theorem Pn:∀(c:List (Int×a)) (ns:AF) (vs:List a),(ns++c.map (·.1)).Nodup->ay ns vs c=(ns++c.map (·.1),vs++c.map (·.2))
 | [],ns,vs,_=>by simp[ay]
 | p::c,ns,vs,h=>by
   rw[ay,a_,if_neg (λb=>by
    grind)]
   have d:((ns++[p.1])++c.map (·.1)).Nodup:=by simpa using h
   rw[Pn c _ _ d];simp
theorem Zd{l:AE}(h:l.Nodup):(l.map λx:Nat=>(x:Int)).Nodup:=by grind
theorem Ih(x:Nat):∀rows:List cH,Yn (rows.map λr=>((r.1:Nat):Int)) (rows.map a6) (x:Int)=(rows.find? (λr=>r.1==x)).map a6
 | []=>rfl
 | r::l=>by
   rw[Qd,Qd,Yn,Ih x l];grind
def cT(rows:List cH)(x:Nat):cH:=(rows.find? (λr=>r.1==x)).getD (x,[x],false)
def cu(rows:List cH)(x:Nat):Sm:=(λy=>decide (y∈(cT rows x).2.1),(cT rows x).2.2)
theorem Ii(h:∀r∈rows,r.2.1.Pairwise (·<·)/\∀y∈r.2.1,y<60)(a:x<60):(cT rows x).2.1.Pairwise (·<·)/\∀y∈(cT rows x).2.1,y<60:=by
 unfold cT
 cases e:rows.find? _ with
 | none=>grind
 | some r=>grind
def Ij(rows:List cH)(x:Nat):iY (gP rows) (.int (x:Int)) (.tup [.int (x:Int),.tup [.int (x:Int)],.bl false])=some (a6 (cT rows x)):=by
 rw[gP,Cp,vK _ _,Option.map_some,Ih];unfold cT;cases rows.find? _<;>rfl
def Ik(h:∀r∈rows,r.2.1.Pairwise (·<·)/\∀y∈r.2.1,y<60)(b:x<60):D.tup [.tup ((cT rows x).2.1.map nD),.bl (cT rows x).2.2]=bg (cu rows x):=by
 obtain⟨a,c⟩:=Ii h b;exact rY a c _
def fC(rows:List cH)(a:Sm)(x:Nat):Sm:=(λy=>a.1 y != (cu rows x).1 y,a.2 != (cu rows x).2)
def aY(rows:List cH)(l:AE):Sm:=l.foldl (fC rows) (λ_=>false,false)
theorem Il(rows:List cH)(q:AE)(x:Nat):aY rows (q++[x])=fC rows (aY rows q) x:=by
 unfold aY;grind
theorem Ze(h:∀r∈rows,r.2.1.Pairwise (·<·)/\∀y∈r.2.1,y<60)(a:Sm):rG [bg a,gP rows]=some (bg (aY rows (fl 60 a.1))):=by
 have k:∀x∈fl 60 a.1,x<60:=λx c=>Qb (Qc c).1;have i:Yc (bg a)=some _:=rfl;generalize bg a=d,fl 60 a.1=F at *
 obtain⟨o,n,g,f,rfl⟩:=gJ (gt:=ai 3) (fb:=GC) nD (λj l=>∃(g f:AQ),l=[↑d,↑(gP rows),↑(bg (aY rows j)),g,f]) F []
  _ ⟨none,none,rfl⟩ (by
   rintro q x r l e ⟨g,f,rfl⟩;have c:=k x (by grind)
   have b:mf [bg (aY rows q),bg (cu rows x)]=some (bg (aY rows (q++[x]))):=by rw[Il];exact(O8 _ _ _ _)
   rw[<-(Ik h c)]at b;refine⟨_,[some _,some _,some _,↑(nD x),↑(a6 (cT rows x))],rfl,?_,_,_,rfl⟩
   simp[GC,Ij rows x,Ig,b])
 rw[rG,Yj (by rfl)];have m:.tup [.tup [],.bl false]=bg (aY rows []):=rfl;simp[Os,Yd,m,i,n]
abbrev jr:=Nat×AE
def c4(r:jr):D:=.tup [.int r.1,.tup (r.2.map nD)]
theorem Zf(l:AE)(x:Nat):xt [.tup (l.map nD),.int x]=some (.lst ((l.filter λy=>decide (y<x)).map nD)):=by
 rw[xt,Yj (by rfl)]
 simp[Ot,Yd,ak,gL (fc:=GE) (fe:=GF) (r:=[↑(.int x)]) (enc:=nD) (λy=>decide (y<x)) nD (l:=l) (λy _=>by
  simp[GE]) (λy _ _=>by simp[GF])]
def od(l:AE)(E:AH):Bool:=decide ((l.filter E).length%2=1)
def xQ(E:AH):od [] E=false:=rfl
theorem gq(a:Nat)(l:AE)(E:AH):od (a::l) E=(E a != od l E):=by
 unfold od;grind
def gQ(h:∀x∈l,E x=F x):od l E=od l F:=by
 unfold od;rw[List.filter_congr h]
theorem mE(h:∀x∈l,E x=false):od l E=false:=by
 unfold od;rw[List.filter_eq_nil_iff.mpr λx a=>by grind];rfl
theorem sj:∀{l:AE},l.Nodup->∀y:Nat,od l (λx=>decide (y=x))=decide (y∈l)
 | [],_,y=>by simp[xQ]
 | a::l,h,y=>by
   rw[List.nodup_cons]at h;rw[gq,sj h.2];grind
def xr(T E:AH):Bool:=od (.range 60) (λx=>T x&&E x)
theorem xR(f g:AH):∀l:AE,od l (λx=>f x != g x)=(od l f != od l g)
 | []=>rfl
 | a::l=>by
   rw[gq,gq,gq,xR f g l];cases f a<;>cases g a<;>cases od l f<;>cases od l g<;>rfl
theorem sk(T S E:AH):xr (λx=>T x != S x) E=(xr T E != xr S E):=by
 unfold xr;rw[<-xR];grind
theorem sq(b:a<60)(E:AH):xr (λx=>decide (x=a)) E=E a:=by
 unfold xr
 have h:od (.range 60) (λx=>decide (x=a)&&E x)=od _ (λx=>decide (a=x)&&E a):=gQ λx _=>by
  grind
 rw[h]
 cases E a with
 | false=>exact mE λx _=>by simp
 | true=>
   have c:od (.range 60) (λx=>decide (a=x)&&true)=od _ (λx=>decide (a=x)):=gQ λx _=>by simp
   rw[c,sj List.nodup_range];simp[b]
theorem xS(E:AH):∀{l:AE},l.Nodup->(∀x∈l,x<60)->xr (λx=>decide (x∈l)) E=od l E
 | [],_,_=>mE λx _=>by simp
 | a::l,b,c=>by
   rw[List.nodup_cons]at b
   have e:(λx=>decide (x∈a::l))=λx=>decide (x=a)!=decide (x∈l):=funext λx=>by
    by_cases h:x=a
    .subst h
     simp[b.1]
    .simp[h]
   rw[e,sk,sq (c a (by simp)),xS E b.2 λx d=>c x (by simp[d]),gq]
theorem sv(f E:AH):od (fl 60 f) E=xr f E:=by
 unfold od xr od fl;rw[List.filter_filter];grind
theorem sx(rows:List cH):∀(l:AE) (a:Sm),(∀y,(l.foldl (fC rows) a).1 y=(a.1 y != od l (λx=>(cu rows x).1 y)))/\(l.foldl (fC rows) a).2=(a.2 != od l (λx=>(cu rows x).2))
 | [],a=>⟨λy=>by rw[xQ];grind,by rw[xQ];grind⟩
 | x::l,a=>by
   obtain⟨b,c⟩:=sx _ l _;refine⟨λy=>?_,?_⟩
   .rw[List.foldl_cons,b y,gq]
    show((a.1 y != _)!=_)=_;grind
   .rw[List.foldl_cons,c,gq]
    show((a.2 != _)!=_)=_;grind
def kp(rows:List cH)(T:AH)(o:Bool):Prop:=(∀y,y<60->xr T (λx=>(cu rows x).1 y)=false)/\xr T (λx=>(cu rows x).2)=o
def lh(h:∀x,x<60->(T x&&E x)=(S x&&F x)):xr T E=xr S F:=gQ λx a=>h x (Qb a)
theorem sy(rows:List cH)(T:AH):(∀y,(aY rows (fl 60 T)).1 y=xr T (λx=>(cu rows x).1 y))/\(aY rows (fl 60 T)).2=xr T (λx=>(cu rows x).2):=by
 obtain⟨a,b⟩:=sx _ _ _;refine⟨λy=>?_,?_⟩
 .show((fl 60 T).foldl (fC _) _).1 y=_
  rw[a y,sv];grind
 .show((fl 60 T).foldl (fC _) _).2=_
  rw[b,sv];grind
theorem fl_nil:fl 60 T=[]↔∀x,x<60->T x=false:=by simp_all
def Im(h:kp rows T o)(h':kp rows S u):kp rows (λx=>T x != S x) (o != u):=
 ⟨λy a=>by rw[sk,h.1 y a,h'.1 y a];rfl,by rw[sk,h.2,h'.2]⟩
theorem sA(h:∀x,x<60->T x=false):xr T E=false:=mE λx a=>by
 grind
def Io(h:∀x,x<60->T x=false):kp rows T false:=⟨λ_ _=>sA h,sA h⟩
theorem Red.kp(a:∀r∈BL,kp rows (tP R r.2) (aH R (fl 60 r.2)))(h:Red R BL false T o):Lw.kp rows T o:=by
 induction h with
 | zero e d=>
   rw[d rfl];exact Io e
 | step r b f _ c=>
   have:=Im c (a r b)
   simp_all
theorem Zg(h:x≠r.1):cT (rows++[r]) x=cT rows x:=by
 unfold cT;grind
theorem Zh(h:r.1∉rows.map (·.1)):cT (rows++[r]) r.1=r:=by
 unfold cT;grind
theorem xT(h:x∉rows.map (·.1)):cT rows x=(x,[x],false):=by
 unfold cT
 have e:(rows.find? λq=>q.1==x)=none:=by
  grind
 rw[e];rfl
theorem Ip(h:x∈rows.map (·.1)):cT rows x∈rows/\(cT rows x).1=x:=by
 unfold cT
 cases e:rows.find? _ with
 | none=>
   grind
 | some q=>grind
def wl(T:AH)(k:Nat):AH:=λx=>T x&&!decide (x=k)
theorem iG(a:k<60)(b:T k=true)(E:AH):xr T E=(xr (wl T k) E != E k):=by
 rw[<-sq a E,<-sk];refine lh λx _=>?_;unfold wl;grind
def eH(rows:List cH)(k:Nat)(T:AH)(o:Bool):cH:=(k,fl 60 (aY rows (fl 60 (wl T k))).1,(aY rows (fl 60 (wl T k))).2 != o)
inductive Mk (S:AE) (Tf:Nat->AH) (of:AH):List cH->Prop
 | nil:Mk S Tf of []
 | snoc {rows:List cH}{k:Nat}:Mk S Tf of rows->(∀r∈rows,r.1<k)->Last (Tf k) k->(∀x,x<k->Tf k x=true->x∈S\/x∈rows.map (·.1))->Mk S Tf of (rows++[eH rows k (Tf k) (of k)])
theorem Iq(h:Mk S c e rows):∀r∈rows,∀x,x<60->c r.1 x=true->x<=r.1:=by
 induction h with
 | nil=>grind
 | snoc g f d i b=>
   intro r a;rcases qw a with a|a
   .exact b r a
   .rw[List.mem_singleton]at a
    subst a;exact d.2.2
theorem Ir(h:Mk S a b rows):∀r∈rows,kp rows (a r.1) (b r.1):=by
 induction h with
 | nil=>grind
 | snoc q B i F C=>
   rename_i rows k;have u:∀x,x<k->cT (rows++[eH rows k (a k) (b k)]) x=cT rows x:=λx e=>Zg (λz=>by have G:x=k:=z;lia)
   have l:k∉rows.map (·.1):=λz=>by
    grind
   have g:cT (rows++[eH rows k (a k) (b k)]) k=eH rows k (a k) (b k):=Zh (r:=eH rows k (a k) (b k)) l;intro r d;rcases qw d with d|d
   .have v:=B r d
    obtain⟨E,s⟩:=C r d;have n:∀x,x<60->a r.1 x=true->x<k:=λx e o=>Nat.lt_of_le_of_lt (Iq q r d x e o) v;refine⟨λy p=>?_,?_⟩
    .rw[<-E y p]
     refine lh λx e=>?_
     cases o:a r.1 x with
     | false=>rfl
     | true=>
       unfold cu;grind
    .rw[<-s]
     refine lh λx e=>?_
     cases o:a r.1 x with
     | false=>rfl
     | true=>
       unfold cu;grind
   .rw[List.mem_singleton]at d
    subst d;show kp _ (a k) (b k);obtain⟨D,A⟩:=sy rows (wl (a k) k)
    have n:∀x,x<60->wl (a k) k x=true->x<k:=λx e j=>by
     unfold wl at j;rw[Qe]at j;have:=i.2.2 x e j.1;grind
    have c:∀f:cH->Bool,xr (wl (a k) k) (λx=>f (cT (rows++[eH rows k (a k) (b k)]) x))=xr (wl (a k) k) (λx=>f (cT rows x)):=λf=>lh λx e=>by
     grind
    refine⟨λy p=>?_,?_⟩
    .rw[iG i.1 i.2.1]
     have t:(cu (rows++[eH rows k (a k) (b k)]) k).1 y=(aY rows (fl 60 (wl (a k) k))).1 y:=by
      unfold cu;rw[g];show decide (y∈fl 60 (aY rows (fl 60 (wl (a k) k))).1)=_;grind
     have m:=c λr=>decide (y∈r.2.1)
     have w:xr (wl (a k) k) (λx=>(cu (rows++[eH rows k (a k) (b k)]) x).1 y)=(aY rows (fl 60 (wl (a k) k))).1 y:=by
      rw[D y];exact m
     grind
    .rw[iG i.1 i.2.1]
     have t:(cu (rows++[eH rows k (a k) (b k)]) k).2=((aY rows (fl 60 (wl (a k) k))).2 != b k):=by
      unfold cu;rw[g];rfl
     have m:=c λr=>r.2.2
     have w:xr (wl (a k) k) (λx=>(cu (rows++[eH rows k (a k) (b k)]) x).2)=(aY rows (fl 60 (wl (a k) k))).2:=by
      rw[A];exact m
     simp_all
theorem Po:∀{l:AE}{E:AH},od l E=true->∃x∈l,E x=true
 | [],_,h=>by cases h
 | a::l,E,h=>by
   rw[gq]at h
   cases c:E a with
   | true=>grind
   | false=>
     have b:od l E=true:=by grind
     obtain⟨x,d,e⟩:=Po b;grind
theorem Pp(h:xr T E=true):∃x,x<60/\T x=true/\E x=true:=by
 obtain⟨x,a,e⟩:=Po h;grind
theorem sC(h:Mk S v t rows):∀r∈rows,r.1<60/\r.2.1.Pairwise (·<·)/\∀y∈r.2.1,y∈S/\y<r.1:=by
 induction h with
 | nil=>grind
 | snoc u w i m j=>
   rename_i rows k;intro r b;rcases qw b with b|b
   .exact j r b
   .rw[List.mem_singleton]at b
    subst b;refine⟨i.1,.filter _ List.pairwise_lt_range,λy n=>?_⟩;have d:=(Qc n).2;rw[(sy _ _).1 y]at d;obtain⟨x,q,f,p⟩:=Pp d;unfold wl at f;rw[Qe]at f
    have e:x<k:=by
     have:=i.2.2 x q f.1;grind
    have c:=wq p;by_cases a:x∈rows.map (·.1)
    .obtain⟨s,A⟩:=Ip a
     obtain⟨_,_,o⟩:=j _ s;obtain⟨l,z⟩:=o y c;exact⟨l,by show y<k;lia⟩
    .rw[xT a]at c
     have g:y=x:=by grind
     subst g;exact⟨(m y e f.1).resolve_right a,e⟩
def Pq(S:AE)(T:AH)(o:Bool):Prop:=fl 60 T=[]/\o=true\/∃l∈S,Last T l
theorem never(w:rows.map (·.1)=K)(v:∀r∈rows,∀y∈r.2.1,y<r.1)(i:∀x∈S,x∉K)(h:kp rows T o):¬Pq S T o:=λn=>by
 rcases n with⟨f,rfl⟩|⟨l,p,b⟩
 .have:=h.2
  rw[sA (fl_nil.mp f)]at this;cases this
 .have m:=h.1 l b.1
  rw[iG b.1 b.2.1]at m
  have q:(cu rows l).1 l=true:=by
   unfold cu;rw[xT (by grind)];simp
  have u:xr (wl T l) (λx=>(cu rows x).1 l)=false:=by
   cases e:xr _ _ with
   | false=>rfl
   | true=>
     obtain⟨x,k,c,g⟩:=Pp e;unfold wl at c;rw[Qe]at c
     have j:x<l:=by
      have:=b.2.2 x k c.1;grind
     have d:=wq g;by_cases a:x∈rows.map (·.1)
     .obtain⟨t,s⟩:=Ip a
      grind
     .rw[xT a]at d
      grind
  grind
def Iu(R:List Sm)(W:AH):Yc (aG R W)=some [.tup ((fl 60 W).map nD),.tup [.tup ((fl 60 (tP R W)).map nD),.bl (aH R (fl 60 W))]]:=rfl
def Pr(h:Last (tP R W) b):rM [aG R W]=some (.int (b:Int)):=by
 rcases Hz (tP R W)with d|⟨c,f,_,a⟩
 .have:=fl_nil.mp d b h.1
  rw[h.2.1]at this;cases this
 .have e:=h.uniq f
  subst e;rw[rM,Yj (by rfl)];simp[Ox,Yd,Iu R W,a]
def iH(R:List Sm)(S:AE)(W:AH):Prop:=(∀p,W p=true->p<R.length)/\Pq S (tP R W) (aH R (fl 60 W))
theorem Zi(d:jq R R.length BL)(j:r_ R R.length U)(S:AE):
 ∃V:Option AH,(V=none->U=none/\∀r∈BL,r.1∉S)/\(∀W,V=some W->iH R S W)/\mn [.lst (aX R BL),cS U,.lst (S.map nD)]=some (cS V):=by
 cases U with
 | some g=>
   refine⟨some g,λh=>(nomatch h),λW b=>?_,?_⟩
   .cases b
    obtain⟨n,m,k⟩:=j g rfl;exact⟨k,.inl ⟨n,m⟩⟩
   .rw[mn,Yj (by rfl)]
    simp[xy,Yd,cS]
 | none=>
   have c:=gL (fc:=GM) (fe:=GN) (r:=[↑(.lst (S.map nD))]) (enc:=λr:c1=>aG R r.2) (λr=>decide (r.1∈S)) (λr=>.tup ((fl 60 r.2).map nD)) (λr a=>by
    have i:=Pr (d.1 r a).1;have e:=eE (c:=.lst _) r.1 S false rfl
    simp[GM,i,e]) (λr a _=>by
    have p:=Iu R r.2
    simp[GN])
   have l:(BL.map _)=aX R BL:=rfl
   cases f:BL.filter _ with
   | nil=>
     rw[f]at c;refine⟨none,λ_=>⟨rfl,λr a z=>?_⟩,λW b=>(nomatch b),?_⟩
     .have:r∈BL.filter λr=>decide (r.1∈S):=List.mem_filter.mpr ⟨a,wm z⟩
      grind
     .rw[mn,Yj (by rfl)]
      simp[xy,Yd,cS,ak,c]
   | cons r L=>
     rw[f]at c;have a:=Qc (by rw[f];exact qh);refine⟨some r.2,λh=>(nomatch h),λW b=>?_,?_⟩
     .cases b
      exact⟨(d.1 r a.1).2,.inr ⟨r.1,wq a.2,(d.1 r a.1).1⟩⟩
     .rw[mn,Yj (by rfl)]
      have o:cS (some r.2)=_:=rfl;simp[xy,Yd,cS,ak,c]
theorem Iv(h:Last T k):fl 60 T=fl 60 (wl T k)++[k]:=by
 refine Pm (.filter _ List.pairwise_lt_range) ?_ λx=>?_
 .rw[List.pairwise_append]
  refine⟨.filter _ List.pairwise_lt_range,by simp,λa e b f=>?_⟩;obtain⟨d,c⟩:=Qc e;unfold wl at c;rw[Qe]at c;have:=h.2.2 a (Qb d) c.1;grind
 .rw[List.mem_append,List.mem_singleton,Ql,Ql,List.mem_range]
  unfold wl;constructor
  .grind
  .rintro(⟨d,c⟩|rfl)
   .grind
   .exact⟨h.1,h.2.1⟩
theorem Iw(h:Last T k):bN ((fl 60 T).map nD) none (some (-1))=(fl 60 (wl T k)).map nD:=by
 have e:HT.sIx ((fl 60 T).map nD).length ((fl 60 T).map nD).length (some (-1))=(fl 60 T).length-1:=by
  unfold HT.sIx;simp;lia
 unfold bN;rw[e,HT.sIx_none,Iv h];simp
def b7(R:List Sm)(BL:List c1)(k:Nat):AH:=if k∈BL.map (·.1)then tP R (bX BL k)else λx=>decide (x=k)
def ef(R:List Sm)(BL:List c1)(k:Nat):Bool:=if k∈BL.map (·.1)then aH R (fl 60 (bX BL k))else false
theorem Pt(f:(AH)->D){b:Nat}:∀{BL:List c1},b∉BL.map (·.1)->Yn ((BL.map (·.1)).map λx:Nat=>(x:Int)) (BL.map λr=>f r.2) (b:Int)=none
 | [],_=>rfl
 | r::BL,h=>by
   show Yn (_::_) (f r.2::_) _=none;have e:¬r.1=b:=λz=>h (by grind);rw[Yn,if_neg (by lia)];exact Pt f λz=>h (qg _ z)
abbrev jt(R:List Sm)(BL:List c1):AN:=BL.map λr=>bW R (fl 60 r.2)
theorem Iy(R:List Sm)(BL:List c1){k:Nat}(a:k<60):iY (.dct false (bA BL) (jt R BL)) (.int (k:Int)) (.tup [.tup [.int (k:Int)],.bl false])=some (bg (b7 R BL k,ef R BL k)):=by
 rw[Cp,gn,Option.map_some];unfold b7 ef;by_cases h:k∈BL.map (·.1)
 .have:=(mw (λW=>bW R (fl 60 W)) h).2
  rw[this,if_pos h,if_pos h];rfl
 .have:=Pt (λW=>bW R (fl 60 W)) h
  have e:=xM a;grind
theorem Pu(b:jq R R.length BL)(a:k<60):Last (b7 R BL k) k:=by
 unfold b7;by_cases h:k∈BL.map (·.1)
 .rw[if_pos h]
  exact(b.1 _ (mw (λ_=>.non) h).1).1
 .rw[if_neg h]
  exact⟨a,by simp,λx _ c=>by grind⟩
theorem Pv(R:List Sm):∀BL:List c1,fv (BL.map λr=>.tup [.int r.1,bW R (fl 60 r.2)])=some (BL.map λr=>((r.1:Int),bW R (fl 60 r.2)))
 | []=>rfl
 | r::l=>by rw[Qd,fv,Pv R l];rfl
def Iz(a:Sm):dV (bg a)=true:=by
 simp [dV,bG,HB (fl 60 a.1)]
theorem Zj(J:jq R R.length BL)(w:k<60)(O:rows.length<=1000)(x:∀r∈rows,r.1<k/\r.2.1.Pairwise (·<·)/\∀y∈r.2.1,y<60)(h j C l:AQ):
 ∃I F:AQ,xA [h,j,some (.od false (bA BL) (jt R BL)),some (.od false (rows.map λr=>nD r.1) (rows.map a6)),↑(nD k),C,l] =
  some (.nx [h,j,some (.od false (bA BL) (jt R BL)),some (.od false ((rows++[eH rows k (b7 R BL k) (ef R BL k)]).map λr=>nD r.1) ((rows++[eH rows k (b7 R BL k) (ef R BL k)]).map a6)),↑(nD k),I,F]):=by
 have A:=Pu J w;have H:=Iy R BL w;have s:Yc (bg (b7 R BL k,ef R BL k))=some [.tup ((fl 60 (b7 R BL k)).map nD),.bl (ef R BL k)]:=rfl;have v:=Iw A;have b:=Ze (rows:=rows) (λr K=>(x r K).2) (wl (b7 R BL k) k,false);have p:bg (wl (b7 R BL k) k,false)=.tup [.tup ((fl 60 (wl (b7 R BL k) k)).map nD),.bl false]:=rfl;rw[p]at b;have u:Yc (bg (aY rows (fl 60 (wl (b7 R BL k) k))))=some _:=rfl;have E:=Iz (aY rows (fl 60 (wl (b7 R BL k) k)))
 have f:k∉rows.map (·.1):=λz=>by
  grind
 have e:(rows.map λr=>nD r.1)=(rows.map (·.1)).map nD:=by simp_all
 have g:∀d:D,lT (rows.map λr=>nD r.1) (rows.map a6) (.int (k:Int)) d=some ((rows.map λr=>nD r.1)++[.int (k:Int)],rows.map a6++[d]):=λd=>by
  rw[lU,e,gn,qd,if_pos (show(rows.map a6).length<ax by rw[qf];show rows.length<1000000;lia),if_neg (λz=>f (mem_castI.mp z))]
 have c:((rows++[eH rows k (b7 R BL k) (ef R BL k)]).map λr=>nD r.1)=(rows.map λr=>nD r.1)++[.int (k:Int)]:=by rw[wt];rfl
 have a:(rows++[eH rows k (b7 R BL k) (ef R BL k)]).map a6=rows.map a6++[.tup [.int (k:Int),.tup ((fl 60 (aY rows (fl 60 (wl (b7 R BL k) k))).1).map nD),.bl ((aY rows (fl 60 (wl (b7 R BL k) k))).2 != ef R BL k)]]:=by rw[wt];rfl
 rw[c,a];have i:gP rows=.dct false (rows.map λr=>nD r.1) (rows.map a6):=rfl;rw[i]at b;refine⟨some (.sh (bg (b7 R BL k,ef R BL k))),↑(bg (aY rows (fl 60 (wl (b7 R BL k) k)))),?_⟩;generalize (aY rows (fl 60 (wl (b7 R BL k) k))).2=Q at *;generalize (fl 60 (aY rows (fl 60 (wl (b7 R BL k) k))).1).map nD=N at *;generalize bg (aY rows (fl 60 (wl (b7 R BL k) k)))=G,(fl 60 (wl (b7 R BL k) k)).map nD=S,(fl 60 (b7 R BL k)).map nD=L,bg (b7 R BL k,ef R BL k)=q at *;generalize ef R BL k=M at *;clear e c a i x f;generalize (rows.map λr=>nD r.1)=n,rows.map a6=o,bA BL=KB,jt R BL=m at *
 have t:gE [3] (cC (Yb (ar (Yb (oY (b2 (aa 5) (kD (.int 0)) ao) none (some (b1 (kD (.int 1)) dh))) (Yb (kD (.bl false)) ae))) (Yb (ab 3) ae)) rG) [h,j,some (.od false KB m),some (.od false n o),↑(nD k),↑q,l]=some G:=by
  unfold gE;have T:frz [3] [h,j,some (.od false KB m),some (.od false n o),↑(nD k),↑q,l]=[h,j,some (.od false KB m),↑(.dct false n o),↑(nD k),↑q,l]:=rfl
  simp_all
 simp[xA,H,t,u,s,g,-Cp,-lU];grind
theorem IA(hn:(rows.map (·.1)).Nodup)(c:r∈rows):cP (gP rows) (.int (r.1:Int))=some (a6 r):=by
 have b:intsD (rows.map λr=>nD r.1)=_:=vK _ _;rw[gP,kg,b,qd,Ih]
 have f:rows.find? (λq=>q.1==r.1)=some r:=by
  cases e:rows.find? _ with
  | none=>
    grind
  | some q=>
    have g:=List.mem_of_find?_eq_some e
    have d:q.1=r.1:=by grind
    clear e b
    induction rows with
    | nil=>cases c
    | cons a l h=>
      grind
 rw[f];rfl
theorem Zk(E:jq R R.length BL)(hBl:BL.length<=1000)(hK:K.Pairwise (·<·))(b:∀k∈K,k<60)(v:∀x∈S,x<60)(hT:∀k∈K,∀x,x<60->b7 R BL k x=true->x∈S\/x∈K):
 ∃rows:List cH,Mk S (b7 R BL) (ef R BL) rows/\rows.map (·.1)=K/\xC [.lst (aX R BL),.lst (K.map nD)]=some (.tup (rows.map a6)):=by
 have hKl:K.length<=60:=HI (hK.imp λh=>qm h) b
 have I:=dC (fe:=rN) (r:=[]) (enc:=λr:c1=>aG R r.2) (λr=>.tup [.int r.1,bW R (fl 60 r.2)]) (l:=BL) (λr d=>by
  have hl:=Pr (E.1 r d).1;have Y:=Iu R r.2;have ht:bW R (fl 60 r.2)=.tup [.tup ((fl 60 (tP R r.2)).map nD),.bl (aH R (fl 60 r.2))]:=rfl;rw[<-ht]at Y;generalize bW R (fl 60 r.2)=TT,aG R r.2=PW at *
  simp[rN,hl,Y])
 have t:(BL.map λr:c1=>aG R r.2)=aX R BL:=rfl;rw[t]at I;have h1:=Pv R BL;have L:=Zd E.2
 have hd:=Pn (BL.map λr=>((r.1:Int),bW R (fl 60 r.2))) [] [] (by
  grind)
 have z:(BL.map λr=>((r.1:Int),bW R (fl 60 r.2))).length<1000000:=by grind
 obtain⟨ρ',e1,rows,m,j,g,u,a,rfl⟩:=gJ (gt:=ai 4) (fb:=xA) nD (λJ V=>∃(rows:List cH) (m j g:AQ),Mk S (b7 R BL) (ef R BL) rows/\rows.map (·.1)=J/\
  V=[↑(.lst (aX R BL)),↑(.lst (K.map nD)),some (.od false (bA BL) (jt R BL)),some (.od false (rows.map λr=>nD r.1) (rows.map a6)),m,j,g]) K []
  [↑(.lst (aX R BL)),↑(.lst (K.map nD)),some (.od false (bA BL) (jt R BL)),some (.od false [] []),none,none,none] ⟨[],none,none,none,.nil,rfl,rfl⟩ (by
   rintro q k r V e ⟨rows,m,j,g,u,a,rfl⟩;rw[Qj]at e
   have s:k∈K:=by rw[e];simp
   have c:=b k s;have l:=hK;rw[e,List.pairwise_append]at l;have w:∀r∈rows,r.1<k:=λr d=>l.2.2 r.1 (by grind) k (by simp);have n:=sC u
   have G:rows.length<=1000:=by
    grind
   obtain⟨z5,z6,T⟩:=Zj E c (rows:=rows) G (λr d=>⟨w r d,(n r d).2.1,λy hy=>v y ((n r d).2.2 y hy).1⟩) (↑(.lst (aX R BL))) (↑(.lst (K.map nD))) j g;refine⟨_,_,rfl,T,rows++[eH rows k (b7 R BL k) (ef R BL k)],_,_,_,.snoc u w (Pu E c) λx hx O=>?_,?_,rfl⟩
   .rcases hT k s x (by lia) O with h|h
    .exact .inl h
    .right
     rw[a];rw[e]at h;rcases qw h with h|h
     .exact h
     .rcases qu h with h|h
      .lia
      .have Z:=l.2.1
       rw[List.pairwise_cons]at Z;grind
   .rw[wt,a]
    rfl)
 rw[Qj]at a
 have U:(rows.map (·.1)).Nodup:=by grind
 have i:=dC (fe:=GO) (r:=[↑(gP rows)]) (enc:=λr:cH=>nD r.1) a6 (l:=rows) (λr d=>by
  have hg:=IA U d;generalize gP rows=sd,a6 r=rr at *
  simp[GO,hg])
 have p:(rows.map λr:cH=>nD r.1)=K.map nD:=by rw[<-a,Qf];rfl
 rw[p]at i;refine⟨rows,u,a,?_⟩
 have f:fw 2 (lF (bq (b1 (ab 0) Yc) [none] (ai 0) tY (rN))) [↑(.lst (aX R BL)),↑(.lst (K.map nD)),none,none,none,none,none]=some (.nx [↑(.lst (aX R BL)),↑(.lst (K.map nD)),some (.od false (bA BL) (jt R BL)),none,none,none,none]):=by
  have F:(lF (bq (b1 (ab 0) Yc) [none] (ai 0) tY rN)) [↑(.lst (aX R BL)),↑(.lst (K.map nD)),none,none,none,none,none]=some (.lst (BL.map λr=>.tup [.int r.1,bW R (fl 60 r.2)])):=by
   generalize aX R BL=D at *;simp[ak,I]
  simp_all
 have o:gP rows=.dct false (rows.map λr=>nD r.1) (rows.map a6):=rfl;rw[o]at i;rw[xC,Yj (by rfl)];have A:Yd 7 [.lst (aX R BL),.lst (K.map nD)]=[↑(.lst (aX R BL)),↑(.lst (K.map nD)),none,none,none,none,none]:=rfl;rw[A,GP,eS,f,qd,pD];clear f hd I h1 L z t o p U a u;generalize (rows.map λr=>nD r.1)=M,rows.map a6=C,bA BL=KB,jt R BL=N,aX R BL=D,K.map nD=H at *
 have Z:xB [↑(.lst D),↑(.lst H),some (.od false KB N),some (.od false M C),m,j,g]=some (.rt (.tup C)):=by
  have Q:frz [3] [↑(.lst D),↑(.lst H),some (.od false KB N),some (.od false M C),m,j,g]=[↑(.lst D),↑(.lst H),some (.od false KB N),↑(.dct false M C),m,j,g]:=rfl;rw[xB,pC,Q];simp[ak,i]
 simp_all
abbrev xU(R:List Sm):D:=.tup [.str "sums",.tup (R.map bg)]
theorem IB(h:tP R W x=true):∃p,(rg R p).1 x=true:=by
 have a:=by simpa [tP]using h
 unfold bo at a
 cases e:(fl 60 W).filter λp=>decide (x∈fl 60 (rg R p).1)with
 | nil=>grind
 | cons p l=>
   have:p∈(fl 60 W).filter λp=>decide (x∈fl 60 (rg R p).1):=by rw[e];simp
   grind
theorem IC(h:(rg R p).1 x=true):rg R p∈R/\p<R.length:=by
 by_cases a:p<R.length
 .unfold rg
  grind
 .unfold rg at h
  grind
def mF(h:x∈aB hs st b):x<hs.length:=Qb (Qc h).1
def Pw(R:List Sm)(st n:Nat):Prop:=∀q∈R,∀x,x<60->q.1 x=true->st<=x/\x<n
theorem sD(d:st<=x)(c:x<hs.length):x∈aB hs st false\/x∈aB hs st true:=by
 have a:∀b,hs.getD x false=b->x∈aB hs st b:=λb e=>by
  unfold aB;grind
 grind
theorem xV:∀x∈aB hs st false,x∉aB hs st true:=λx a b=>by
 unfold aB at a b;grind
structure ju(R:List Sm)(K S:AE)(rows:List cH):Prop where
 ks:rows.map (·.1)=K
 row:∀r∈rows,r.1<60/\r.2.1.Pairwise (·<·)/\∀y∈r.2.1,y∈S/\y<r.1
 kept:∀p,p<R.length->kp rows (rg R p).1 (rg R p).2
def bS(a:Bool)(b:D):D:=.tup [.str (if a=true then .ofString "storm" else .ofString "keeper"),b]
theorem Zl(hR:R.length<=60)(N:Yc c=some (hs.map aF))(O:hs.length<=60)(y:st<=hs.length)(B:Pw R st hs.length):
 (∃W:AH,iH R (aB hs st false) W/\mq [xU R,c,.int st]=some (bS true (.tup [.str "odd",.tup ((fl 60 W).map nD)])))\/
 (∃rows:List cH,ju R (aB hs st true) (aB hs st false) rows/\mq [xU R,c,.int st]=some (bS false (.tup [.str "sums",.tup (rows.map a6)]))):=by
 have b1:=mx hs N (by lia) st y true;have b2:=mx hs N (by lia) st y false;simp only[aF,if_true,Qo,if_false]at b1 b2;obtain⟨BL,U,i,T,Q,u,b⟩:=Y6 hR;have a:qZ [xU R]=_:=b;clear b;obtain⟨V,H,C,d⟩:=Zi i T (aB hs st false)
 have m:∀W x,x<60->tP R W x=true->st<=x/\x<hs.length:=λW x v E=>by
  obtain⟨p,A⟩:=IB E;exact B _ (IC A).1 x v A
 have Y:BL.length<=60:=by
  have:=HI i.2 (λx v=>by
   obtain⟨r,j,rfl⟩:=qy v
   exact(i.1 r j).1.1)
  grind
 cases V with
 | some W=>
   refine .inl ⟨W,C W rfl,?_⟩;have Z:cS (some W)=.tup ((fl 60 W).map nD):=rfl;rw[Z]at d;rw[mq,Yj (by rfl)];simp[GQ,Yd,b1,b2,a,d,bS]
 | none=>
   obtain⟨G,F⟩:=H rfl;subst G;have s:(aB hs st true).Pairwise (·<·):=List.Pairwise.filter _ List.pairwise_lt_range
   have E:∀k∈aB hs st true,∀x,x<60->b7 R BL k x=true->_:=λk z x v g=>by
    unfold b7 at g;by_cases h:k∈BL.map (·.1)
    .rw[if_pos h]at g
     obtain⟨K,L⟩:=m _ x v g;exact sD K L
    simp_all
   obtain⟨rows,M,l,f⟩:=Zk i (by lia) (K:=aB hs st true) (S:=aB hs st false) s (λk z=>Qi (mF z) O) (λk z=>Qi (mF z) O) E;refine .inr ⟨rows,⟨l,sC M,λp A=>?_⟩,?_⟩
   .refine Red.kp (R:=R) (BL:=BL) (λr j=>?_) (u p A)
    have w:=(i.1 r j).1;obtain⟨K,L⟩:=m _ r.1 w.1 w.2.1;have n:=(sD K L).resolve_left (F r j);rw[<-l]at n;obtain⟨q,hq,e⟩:=qy n;have t:=Ir M q hq;rw[e]at t;have o:r.1∈BL.map (·.1):=Qs (f:=(·.1)) j;have I:=(mw (λ_=>D.non) o).1;have S:=Pc i.2 I j rfl;unfold b7 ef at t;grind
   .rw[mq,Yj (by rfl)]
    have J:cS none=.non:=rfl;rw[J]at d a;simp[GQ,Yd,b1,b2,a,d,f,bS]
def Hl(A:AE)(r:bL):Prop:=(∀x∈r.1,x∈A)->∃y,r.2=some y/\y∈A
theorem sE{A b fs:AE}(h:kn b fs=true)(a:∀x∈fs,x∈A):∀x∈b,x∈A:=λx c=>by
 unfold kn at h;grind
theorem xW(h:0<=i/\i<R.length):aA R i∈R:=by
 unfold aA;grind
theorem ID(h:r∈R):∃i:Nat,i<R.length/\aA R (i:Int)=r:=by
 obtain⟨i,a,e⟩:=List.mem_iff_getElem.mp h;refine⟨i,a,?_⟩;unfold aA;grind
structure eU(R:List bL)(K S:AE)(first:AE)(rows:List jr):Prop where
 fK:first.Pairwise (·<·)/\∀y∈first,y∈K
 rs:rows.map (·.1)=S
 rK:∀r∈rows,r.2.Pairwise (·<·)/\(∀y∈r.2,y∈K)/\(r.2.filter λy=>decide (y<r.1))=first.filter λy=>decide (y<r.1)
 h0:∀q∈R,Hl (S++first) q
 hb:∀r∈rows,∀q∈R,Hl ((S.filter λy=>!decide (y=r.1))++r.2) q
abbrev ci(js:AE):AF:=js.map λi:Nat=>i
theorem iI:∀{js fs:AE},Der R fs js->d_ R fs (ci js)=true
 | [],_,_=>rfl
 | i::js,fs,h=>by
   obtain⟨⟨b,⟨x,c⟩,d⟩,a⟩:=h;show(_&&_)=true;rw[Qe];refine⟨?_,iI a⟩;unfold rW;grind
theorem sF(R:List bL)(js:AE):dw R (ci js)=js.map λi:Nat=>bu (aA R i):=by
 unfold dw
 simp_all
theorem Px:∀{p:AF}{fs:AE}{i:Int}{q:AF},d_ R fs (p++i::q)=true->d_ R fs p=true/\rW R (fs++dw R p) i=true
 | [],fs,i,q,h=>by
   have b:(_&&_)=true:=h;refine⟨rfl,?_⟩;have:fs++dw R []=fs:=w6 _;grind
 | a::p,fs,i,q,h=>by
   have b:(_&&_)=true:=h;rw[Qe]at b;obtain⟨c,d⟩:=Px b.2;refine⟨?_,?_⟩
   .show(_&&_)=true
    grind
   .have e:fs++dw R (a::p)=(fs++[bu (aA R a)])++dw R p:=by rw[w9];rfl
    grind
theorem Py(a:d_ R fs (ci p)=true)(e:i<R.length)(d:kn (aA R (i:Int)).1 (fs++dw R (ci p))=true)(c:(aA R (i:Int)).2=none\/(aA R (i:Int)).2=b):iE R b (ci (p++[i])) fs=true:=by
 unfold iE;grind
theorem Pz(h:cD R fs l js)(j:cD R a k d)(hs:∀x∈a,x∈l):∀x∈k,x∈l:=by
 have v:∀r∈R,r.2≠none->Hl l r:=λr s D F=>by
  obtain⟨i,m,rfl⟩:=ID s
  cases e:(aA R i).2 with
  | none=>grind
  | some y=>
    refine⟨y,rfl,h.none i m y e ?_⟩;unfold kn;grind
 have f:∀(b c:_),Der R c b->(∀x∈c,x∈l)->∀x∈c++b.map λi:Nat=>bu (aA R i),x∈l:=λb=>by
  induction b with
  | nil=>grind
  | cons i b u=>
    intro c hd n x g;obtain⟨⟨E,⟨y,q⟩,t⟩,p⟩:=hd;obtain⟨z,A,o⟩:=v _ (xW ⟨by lia,by lia⟩) (by rw[q];simp) (sE t n)
    have C:bu (aA R i)=z:=by unfold bu;rw[A];rfl
    refine u _ p (λw B=>?_) x (by grind);grind
 intro x g;exact f d a j.der hs x ((j.mem x).mp g)
theorem PC(h:cD R fs l js)(hn:∀r∈R,r.2=none->kn r.1 l=false)(a:∀x,x∈A↔x∈l):∀q∈R,Hl A q:=λq b f=>by
 have d:kn q.1 l=true:=by
  unfold kn;grind
 cases e:q.2 with
 | none=>
   grind
 | some y=>
   obtain⟨i,c,rfl⟩:=ID b;exact⟨y,rfl,(a y).mpr (h.none i c y e d)⟩
theorem jv{i:Type}(enc:i->D)(I:List i->Ro->Prop)(O:D->Prop):∀(l c:List i) (ρ:Ro),I c ρ->
 (∀q a r ρ,c++l=q++a::r->I q ρ->∃f,gt (enc a) ρ=some f/\((∃g,fb f=some (.nx g)/\I (q++[a]) g)\/∃d,fb f=some (.rt d)/\O d))->
 (∃ρ',M.forM gt fb (l.map enc) ρ=some (.nx ρ')/\I (c++l) ρ')\/∃d,M.forM gt fb (l.map enc) ρ=some (.rt d)/\O d
 | [],c,ρ,k,_=>.inl ⟨ρ,rfl,by grind⟩
 | a::l,c,ρ,k,m=>by
   obtain⟨f,o,h⟩:=m c a l ρ rfl k;rw[Qd,M.forM];rcases h with⟨g,n,j⟩|⟨d,n,j⟩
   .have:=jv enc I O l _ g j λq b r ρ e=>m q b r ρ (by grind)
    grind
   grind
def PD(r:bL):Yc (dX r)=some [.tup (r.1.map nD),av r.2]:=rfl
def c8(l js:AE):D:=.tup [.lst (l.map nD),.tup (js.map nD)]
def xX(l js:AE):Yc (c8 l js)=some [.lst (l.map nD),.tup (js.map nD)]:=rfl
def jw(R:List bL)(l:AE)(i:Nat):Bool:=(aA R i).2.isNone&&kn (aA R i).1 l
theorem Zm(R:List bL)(q:js.length<=1000):
 (∃i,i<R.length/\jw R l i=true/\rJ [bf R,c8 l js]=some (.tup ((js++[i]).map nD)))\/((∀i,i<R.length->jw R l i=false)/\rJ [bf R,c8 l js]=some .non):=by
 rw[rJ,Yj (by rfl)];have g:Yd 4 [bf R,c8 l js]=[some _,some _,none,none]:=rfl;rw[g]
 have h:=HU (gt:=ew 2 3) (fb:=rH) (λi:Nat=>.tup [.int i,dX (aA R i)]) (jw R l) (λi=>.tup ((js++[i]).map nD)) (λm=>∃y z,m=[↑(bf R),↑(c8 l js),y,z]) (.range R.length)
  _ ⟨none,none,rfl⟩ (by
   rintro i p m ⟨y,z,rfl⟩;refine⟨[some _,some _,some _,some _],rfl,?_⟩;have e:=Y1 (d:=.lst _) (aA R i) l rfl;have c:=xX l js;have a:=PD (aA R i)
   have b:o9 (.tup (js.map nD)) (.tup [.int i])=some (.tup ((js++[i]).map nD)):=by
    rw[wt];exact if_pos (by simp;lia)
   unfold jw
   cases k:(aA R _).2 with
   | some x=>
     left;rw[k]at a;simp only[av]at a;simp[rH,a,jV]
   | none=>
     rw[k]at a;simp only[av]at a
     cases d:kn _ l with
     | false=>
       left;rw[d]at e;refine⟨rfl,[some _,some _,↑(.int i),↑(dX (aA R i))],?_,_,_,rfl⟩;simp[rH,a,c,e]
     | true=>
       right;rw[d]at e;refine⟨rfl,?_⟩;generalize (js++[i]).map nD=s at *
       simp[rH,a,c,e,b])
 rw[Ou];rcases h with⟨i,j,f⟩|⟨j,o,f,t⟩
 .left
  have n:=List.mem_of_find?_eq_some j;have r:=List.find?_some j;refine⟨i,Qb n,r,?_⟩;simp[fG,xP,f]
 .right
  refine⟨λi p=>?_,?_⟩
  .grind
  .simp[fG,xP,f]
theorem PF(x:Nat):∀l:AE,(l.map λy:Nat=>(y:Int)).idxOf (x:Int)=l.idxOf x
 | []=>rfl
 | y::l=>by
   rw[Qd,List.idxOf_cons,PF x l];grind
theorem PH{x:Nat}:∀{js:AE},x∈js.map f->∃p i q,js=p++i::q/\f i=x/\js.take ((js.map f).idxOf x+1)=p++[i]
 | [],h=>nomatch h
 | j::js,h=>by
   by_cases e:f j=x
   .refine⟨[],j,js,rfl,e,?_⟩
    grind
   .have a:x∈js.map f:=by
     grind
    obtain⟨p,i,q,b,c,d⟩:=PH a;grind
theorem IE{b:Type}(f:b->D)(l:List b)(k:Nat):bN (l.map f) none (some (k:Int))=(l.take k).map f:=by
 have a:HT.sIx (l.map f).length (l.map f).length (some k)=min k l.length:=by
  have:=HT.sIx_nat (l.map f).length (l.map f).length k;grind
 unfold bN;rw[a,HT.sIx_none]
 simp_all
theorem Der.mem:∀{b ks:AE},Der R ks b->∀i∈b,i<R.length/\av (aA R (i:Int)).2=nD (bu (aA R (i:Int)))
 | [],_,_,i,a=>nomatch a
 | j::b,ks,h,i,a=>by
   rcases qu a with rfl|a
   .obtain⟨⟨c,⟨x,d⟩,_⟩,_⟩:=h
    refine⟨c,?_⟩;unfold bu;rw[d];rfl
   .exact Der.mem h.2 i a
theorem Zn(h:cD R fs l js)(x:Nat):
 (∃(p:AE) (i:Nat) (q:AE),js=p++i::q/\bu (aA R (i:Int))=x/\Yz [bf R,c8 l js,.int (x:Int)]=some (.tup ((p++[i]).map nD)))\/(x∉js.map (λi:Nat=>bu (aA R (i:Int)))/\Yz [bf R,c8 l js,.int (x:Int)]=some .non):=by
 have k:=dC (fe:=GG) (r:=[↑(bf R)]) (enc:=nD) (λi:Nat=>nD (bu (aA R i))) (λi w=>by
  obtain⟨z,t⟩:=h.der.mem i w;have j:=k8 (R:=R) (i:=i) ⟨by lia,by lia⟩;have f:=PD (aA R (i:Int));have g:=Y0 R
  simp[GG,g,j,f,t])
 have s:(js.map λi:Nat=>nD (bu (aA R (i:Int))))=(js.map λi:Nat=>bu (aA R (i:Int))).map nD:=by simp_all
 rw[s]at k;have c:=xX l js;have b:=eE (c:=.lst _) x (js.map λi:Nat=>bu (aA R i)) true rfl;by_cases d:x∈js.map λi:Nat=>bu (aA R i)
 .obtain⟨p,i,q,u,r,o⟩:=PH d
  refine .inl ⟨p,i,q,u,r,?_⟩
  have m:iu (.lst ((js.map λi:Nat=>bu (aA R (i:Int))).map nD)) (.int (x:Int))=some (.int ((js.map λi:Nat=>bu (aA R (i:Int))).idxOf x)):=by
   have e:∀L:AE,L.map nD=(L.map λy:Nat=>(y:Int)).map D.int:=λL=>by simp_all
   rw[e,EX,if_pos (Qs d),PF]
  have a:=IE nD js ((js.map λi:Nat=>bu (aA R (i:Int))).idxOf x+1);rw[o]at a
  have n:(((js.map λi:Nat=>bu (aA R (i:Int))).idxOf x+1:Nat))=((js.map λi:Nat=>bu (aA R (i:Int))).idxOf x:Int)+1:=by lia
  rw[n]at a;simp only[d,if_true]at b;rw[Yz,Yj (by rfl)];generalize (js.map _).map nD=v,(p++[i]).map nD=A at *;simp[GH,Yd,c,ak,k,b,m,a]
 .refine .inr ⟨d,?_⟩
  simp only[d,if_true]at b;rw[Yz,Yj (by rfl)];generalize (js.map _).map nD=v at *;simp[GH,Yd,c,ak,k,b]
def b8(K l:AE):AE:=K.filter λy=>decide (y∈l)
theorem PJ(K l:AE):rL [.lst (K.map nD),.lst (l.map nD)]=some (.tup ((b8 K l).map nD)):=by
 rw[rL,Yj (by rfl)];unfold b8
 simp[Ov,Yd,ak,gL (fc:=GJ) (fe:=GK) (r:=[↑(.lst (l.map nD))]) (enc:=nD) (λy=>decide (y∈l)) nD (l:=K) (λy _=>by
  simp[GJ,eE (c:=.lst _) y l false rfl]) (λy _ _=>by simp[GK])]
def eV(x:Nat)(S first:AE):AE:=gO (some x) S++first.filter λy=>decide (y<x)
theorem Zo{x:Nat}(c:S.length<=100)(f:first.length<=100):xu [.int (x:Int),.lst (S.map nD),.tup (first.map nD)]=some (.lst ((eV x S first).map nD)):=by
 have b:=Zc S (some x);have g:av (some x)=.int _:=rfl;rw[g]at b;have d:(gO (some x) S).length<=100:=Qg (Qn _ _) c;have e:(first.filter λy=>decide (y<x)).length<=100:=Qg (Qn _ _) f
 have a:cY (.lst ((gO (some x) S).map nD)) (.lst ((first.filter λy=>decide (y<x)).map nD))=some ((eV x S first).map nD):=by
  unfold eV;rw[M7 (by simp;lia),wt]
 rw[xu,Yj (by rfl)];simp[Ow,Yd,b,Zf first x,λ_=>rfl,a]
def xY(R:List bL)(st n:Nat):Prop:=∀r∈R,r.1.Pairwise (·<·)/\(∀x∈r.1,st<=x/\x<n)/\∀x,r.2=some x->st<=x/\x<n
def lj(b:AL)(a js:AF):AN:=[.str "lone",av b,.tup (a.map .int),.tup (js.map .int)]
def PK(first:AE)(rows:List jr):AN:=[.str "rows",.tup (first.map nD),.tup (rows.map c4)]
theorem lk(l:AE):l.map nD=(ci l).map D.int:=by simp_all
def iJ(R:List bL)(K S:AE)(b:AL)(a js:AF):Prop:=la R K S b a js=true/\a.length<=100/\js.length<=100
theorem IF(c:xY R st n)(h:cD R fs l js)(d:x∈l):x∈fs\/(st<=x/\x<n):=by
 rcases qw ((h.mem x).mp d)with w|w
 .exact .inl w
 .obtain⟨i,b,rfl⟩:=qy w
  obtain⟨f,a⟩:=h.der.mem i b
  cases e:(aA R i).2 with
  | none=>rw[e]at a;cases a
  | some y=>
    have:bu (aA R i)=y:=by unfold bu;rw[e];rfl
    rw[this];exact .inr ((c _ (xW (R:=R) (i:=i) ⟨by lia,by lia⟩)).2.2 y e)
def sG(h:cD R fs l js)(a:x∈fs):x∈l:=(h.mem x).mpr (List.mem_append.mpr (.inl a))
theorem Zp(h:cD R S l js)(c:i<R.length)(a:jw R l i=true):iJ R K S none [] (ci (js++[i])):=by
 unfold jw at a;rw[Qe,Option.isNone_iff_eq_none]at a;refine⟨?_,by simp,by have:=h.len;simp;lia⟩;unfold la;rw[Qe];refine⟨rfl,?_⟩
 have b:gO none S=S:=List.filter_eq_self.mpr λy _=>by simp
 have d:gO none S++k_ R K none []=S:=by rw[b];exact w6 _
 rw[d];refine Py (iI h.der) c ?_ (.inl a.1);rw[sF,<-a.2];exact(Ic λx=>h.mem x).symm
theorem IG(h:cD R S l js)(a:∀x∈S,x∉K)(x:Nat):eV x S (b8 K l)=gO (some x) S++k_ R K (some x) (ci js):=by
 unfold eV b8
 congr 1
 rw[List.filter_filter];refine List.filter_congr λy b=>?_
 congr 1
 rw[sF];refine decide_eq_decide.mpr ⟨λw=>?_,λw=>(h.mem y).mpr (List.mem_append.mpr (.inr w))⟩;rcases qw ((h.mem y).mp w)with z|z
 .grind
 .exact z
theorem Zq{p q:AE}(h:cD R S l js)(a:∀x∈S,x∉K)(c:x∈S)(d:cD R (eV x S (b8 K l)) s (p++i::q))(o:bu (aA R (i:Int))=x):iJ R K S (some x) (ci js) (ci (p++[i])):=by
 have f:=d.len;have k:=h.len;refine⟨?_,by simp;lia,by grind⟩;unfold la;rw[Qe];refine⟨?_,?_⟩
 .show(_&&_)=true
  rw[iI h.der,wm c];rfl
 .rw[<-IG h a x]
  have hd:=iI d.der
  have e:ci (p++i::q)=ci p++(i:Int)::ci q:=by
   grind
  rw[e]at hd;obtain⟨m,b⟩:=Px hd;unfold rW at b;rw[Qe,Qe]at b;obtain⟨r,j,n⟩:=b;refine Py m (by lia) n (.inr ?_);obtain⟨y,g⟩:=Option.isSome_iff_exists.mp j
  have:bu (aA R i)=y:=by unfold bu;rw[g];rfl
  grind
def sH(R:List bL)(K S c:AE)(r:jr):Prop:=∃b a:AE,cD R (eV r.1 S (b8 K c)) b a/\r.1∉a.map (λi:Nat=>bu (aA R i))/\r.2=b8 K b
theorem Zr(E:xY R st n)(p:K.Pairwise (·<·))(C:∀x∈S,x∉K)(t:∀x,st<=x->x<n->x∈S\/x∈K)(h:cD R S l js)(hn:∀i,i<R.length->jw R l i=false)(o:rows.map (·.1)=S)(g:∀r∈rows,sH R K S l r):eU R K S (b8 K l) rows:=by
 have s:∀x∈l,x∈S\/x∈K:=λx b=>by
  rcases IF E h b with w|w
  .exact .inl w
  grind
 have m:∀r∈R,r.2=none->kn r.1 l=false:=λr g e=>by
  obtain⟨i,D,rfl⟩:=ID g;have:=hn i D;unfold jw at this;grind
 refine⟨⟨p.filter _,λy c=>(Qc c).1⟩,o,λr j=>?_,?_,λr j=>?_⟩
 .obtain⟨f,u,b,k,e⟩:=g r j
  have a:=Pz h b λy c=>by
   rcases qw c with w|w
   .exact sG h (Qc w).1
   .exact wq (Qc (Qc w).1).2
  refine⟨by rw[e];exact p.filter _,λy c=>by rw[e]at c;exact(Qc c).1,?_⟩;rw[e];unfold b8;rw[List.filter_filter,List.filter_filter];refine List.filter_congr λy c=>?_;by_cases d:y<r.1
  .have:(y∈f)↔(y∈l):=⟨a y,λw=>sG b (List.mem_append.mpr (.inr (List.mem_filter.mpr ⟨List.mem_filter.mpr ⟨c,wm w⟩,wm d⟩)))⟩
   grind
  .simp[d]
 .refine PC h m λx=>?_
  rw[List.mem_append];constructor
  .rintro(w|w)
   .exact sG h w
   .exact wq (Qc w).2
  .intro w
   rcases s x w with z|z
   .exact .inl z
   .exact .inr (List.mem_filter.mpr ⟨z,wm w⟩)
 .obtain⟨f,u,b,k,e⟩:=g r j
  have a:=Pz h b λy c=>by
   rcases qw c with w|w
   .exact sG h (Qc w).1
   .exact wq (Qc (Qc w).1).2
  have v:r.1∉f:=λw=>by
   rcases qw ((b.mem _).mp w)with z|z
   .rcases qw z with z|z
    .have:=(Qc z).2
     simp at this
    grind
   grind
  refine PC b (λq F e=>?_) λx=>?_
  .cases B:kn q.1 f with
   | false=>rfl
   | true=>
     have:kn q.1 l=true:=by
      exact List.all_eq_true.mpr λx b=>wm (sE B a x b)
     grind
  .rw[List.mem_append]
   constructor
   .rintro(w|w)
    .obtain⟨A,G⟩:=Qc w
     refine sG b (List.mem_append.mpr (.inl (List.mem_filter.mpr ⟨A,?_⟩)));grind
    .rw[e]at w
     exact wq (Qc w).2
   .intro w
    rcases s x (a x w)with z|z
    .grind
    .rw[e]
     exact .inr (List.mem_filter.mpr ⟨z,wm w⟩)
def PL(h:K.length<=60):(b8 K l).length<=60:=Qg (Qn _ _) h
theorem Zs(hc:Yc c=some (hs.map aF))(hl:hs.length<=60)(hst:st<=hs.length)(j:xY R st hs.length):
 (∃b E js,iJ R (aB hs st true) (aB hs st false) b E js/\kT [bf R,c,.int st]=some (bS true (.tup (lj b E js))))\/
 (∃first rows,eU R (aB hs st true) (aB hs st false) first rows/\kT [bf R,c,.int st]=some (bS false (.tup (PK first rows)))):=by
 have b1:=mx hs hc (by lia) st hst true;have b2:=mx hs hc (by lia) st hst false;simp only[aF,if_true,Qo,if_false]at b1 b2;have a:(aB hs st true).Pairwise (·<·):=List.Pairwise.filter _ List.pairwise_lt_range;have h:=xV (hs:=hs) (st:=st);have f:∀x,st<=x->x<hs.length->x∈aB hs st false\/x∈aB hs st true:=λx h1 h2=>sD h1 h2;have hSl:(aB hs st false).length<=60:=Qg (Qn _ _) (by grind);have U:(aB hs st true).length<=60:=Qg (Qn _ _) (by grind);have C:∀x∈aB hs st false,x<60:=λx V=>Qi (mF V) hl;have hK60:∀x∈aB hs st true,x<60:=λx V=>Qi (mF V) hl;have Y:∀r∈R,∀x,r.2=some x->x<60:=λr t x V=>Qi ((j r t).2.2 x V).2 hl;generalize aB hs st false=S,aB hs st true=K at *;obtain⟨l,js,u,k⟩:=si (c:=.lst (S.map nD)) R Y S C (by lia) rfl;have g:Yv [bf R,.lst (S.map nD)]=some (c8 l js):=k;clear k;have Q:=xX l js;have hso:=PJ K l;have hst0:Yd 11 [bf R,c,.int (st:Int)]=[↑(bf R),↑c,↑(.int st),none,none,none,none,none,none,none,none]:=rfl;rw[kT,Yj (by rfl),hst0];rcases Zm R (l:=l) (js:=js) (by have:=u.len;lia)with⟨i,hi,hp,J⟩|⟨T,J⟩
 .refine .inl ⟨none,[],ci (js++[i]),Zp u hi hp,?_⟩
  have H:D.tup (lj none [] (ci (js++[i])))=.tup [.str "lone",.non,.tup [],.tup ((js++[i]).map nD)]:=by
   unfold lj;rw[<-lk];rfl
  rw[H];clear u f j h a;generalize (js++[i]).map nD=JI,c8 l js=fu,S.map nD=SS,K.map nD=KK,bf R=bk at *;simp[xx,b1,b2,g,J,bS]
 .have A:xx [↑(bf R),↑c,↑(.int st),none,none,none,none,none,none,none,none] =
   GL [↑(bf R),↑c,↑(.int st),↑(.lst (K.map nD)),↑(.lst (S.map nD)),↑(c8 l js),↑.non,↑(.tup ((b8 K l).map nD)),some (.ow []),none,none]:=by
   clear u f j h a T;generalize (b8 K l).map nD=SO at *;generalize l.map nD=LL at *;generalize js.map nD=JJ,c8 l js=fu,S.map nD=SS,K.map nD=KK,bf R=bk at *;simp[xx,b1,b2,g,J,Q,hso,-GL]
  rw[A]
  have F:=jv (gt:=ai 9) (fb:=xw) nD (λA ρ=>∃(rows:List jr) (y6 y9 v:AQ),rows.map (·.1)=A/\(∀r∈rows,sH R K S l r)/\
   ρ=[↑(bf R),↑c,↑(.int st),↑(.lst (K.map nD)),↑(.lst (S.map nD)),↑(c8 l js),y6,↑(.tup ((b8 K l).map nD)),some (.ow (rows.map c4)),y9,v])
   (λd=>∃b E js,iJ R K S b E js/\d=bS true (.tup (lj b E js))) S []
   [↑(bf R),↑c,↑(.int st),↑(.lst (K.map nD)),↑(.lst (S.map nD)),↑(c8 l js),↑.non,↑(.tup ((b8 K l).map nD)),some (.ow []),none,none] ⟨[],_,_,_,rfl,λr t=>(nomatch t),rfl⟩ (by
    rintro q x r ρ e ⟨rows,y6,y9,v,z,o,rfl⟩;rw[Qj]at e
    have hxS:x∈S:=by rw[e];simp
    have hrl:rows.length<=1000:=by
     grind
    have O:=Zo (x:=x) (S:=S) (first:=b8 K l) (by lia) (by have:=PL (l:=l) U;lia)
    have hfl:(eV x S (b8 K l)).length<=1000:=by
     have g1:(gO (some x) S).length<=S.length:=Qn _ _;have g3:=PL (l:=l) U;unfold eV;grind
    obtain⟨n,I,L,s⟩:=si (c:=.lst ((eV x S (b8 K l)).map nD)) R Y (eV x S (b8 K l)) (λy hy=>by
     rcases qw hy with w|w
     .exact C y (Qc w).1
     grind) hfl rfl
    have m:Yv [bf R,.lst ((eV x S (b8 K l)).map nD)]=some (c8 n I):=s;clear s;refine⟨[↑(bf R),↑c,↑(.int st),↑(.lst (K.map nD)),↑(.lst (S.map nD)),↑(c8 l js),y6,↑(.tup ((b8 K l).map nD)),some (.ow (rows.map c4)),↑(.int (x:Int)),v],rfl,?_⟩;rcases Zn L x with⟨p,i,q',hj,he,G⟩|⟨M,G⟩
    .right
     rw[hj]at L;refine⟨bS true (.tup (lj (some x) (ci js) (ci (p++[i])))),?_,some x,ci js,ci (p++[i]),Zq u h hxS L he,rfl⟩
     have H:D.tup (lj (some x) (ci js) (ci (p++[i])))=.tup [.str "lone",.int (x:Int),.tup (js.map nD),.tup ((p++[i]).map nD)]:=by
      unfold lj;rw[<-lk,<-lk];rfl
     rw[H];clear u f j h a T o L hj;generalize (p++[i]).map nD=PI,(eV x S (b8 K l)).map nD=FA at *;generalize (b8 K l).map nD=SO at *;generalize l.map nD=LL,js.map nD=JJ,c8 n I=fx,c8 l js=fu,S.map nD=SS,K.map nD=KK,bf R=bk,rows.map c4=RW at *;simp[xw,O,m,G,Q,bS]
    .left
     have hsx:=PJ K n;have hfx:=xX n I;have N:∀d:D,b_ (rows.map c4) d=some (rows.map c4++[d]):=λd=>vN (by grind)
     have Z:(rows++[(x,b8 K n)]).map c4=rows.map c4++[.tup [.int (x:Int),.tup ((b8 K n).map nD)]]:=by rw[wt];rfl
     refine⟨[↑(bf R),↑c,↑(.int st),↑(.lst (K.map nD)),↑(.lst (S.map nD)),↑(c8 l js),↑.non,↑(.tup ((b8 K l).map nD)),some (.ow ((rows++[(x,b8 K n)]).map c4)),↑(.int (x:Int)),↑(c8 n I)],?_,rows++[(x,b8 K n)],_,_,_,by grind,λr t=>?_,rfl⟩
     .rw[Z]
      clear u f j h a T o L M Z;generalize (b8 K n).map nD=SX,(eV x S (b8 K l)).map nD=FA at *;generalize (b8 K l).map nD=SO at *;generalize l.map nD=LL,n.map nD=LX,js.map nD=JJ,I.map nD=JX,c8 n I=fx,c8 l js=fu,S.map nD=SS,K.map nD=KK,bf R=bk,rows.map c4=RW at *;simp[xw,O,m,G,hfx,hsx,N]
     .rcases qw t with t|t
      .grind
      .rw[List.mem_singleton]at t
       subst t
       exact⟨n,I,L,M,rfl⟩)
  rcases F with⟨ρ',e1,rows,y6,y9,v,z,o,rfl⟩|⟨d,e1,b,E,js',hW,rfl⟩
  .rw[Qj]at z
   refine .inr ⟨b8 K l,rows,Zr j a h f u T z o,?_⟩;clear u f j h a T o z A;unfold PK;generalize (b8 K l).map nD=SO,c8 l js=fu,S.map nD=SS,K.map nD=KK,bf R=bk,rows.map c4=RW at *;simp[e1,bS]
  .refine .inl ⟨b,E,js',hW,?_⟩
   simp_all
def eI(l:AX):Prop:=l.length<=2/\l.Nodup
def iK(s:aC):aP (aP s)=s:=by
 simp[aP]
def IH(s:aC):aP s≠s:=by
 obtain⟨a,b⟩:=s;simp[aP]
def ed(L:AW)(s t:aC):Prop:=∃l∈L,aP s∈l/\t∈l/\(t=aP s->l.length=1)
def II(h:ed L s t):ed L (aP t) (aP s):=by
 obtain⟨l,a,c,d,b⟩:=h;refine⟨l,a,by rwa [iK],c,λe=>b ?_⟩;rw[iK]at e;exact e.symm
inductive Rch (L:AW) (s:aC):aC->Prop
 | refl:Rch L s s
 | step {t u:aC}:Rch L s t->ed L t u->Rch L s u
theorem Rch.trans(h:Rch L s t)(h':Rch L t u):Rch L s u:=by
 induction h' with
 | refl=>exact h
 | step _ e a=>exact .step a e
def Rch.one(h:ed L s t):Rch L s t:=.step .refl h
theorem Rch.skew(h:Rch L s t):Rch L (aP t) (aP s):=by
 induction h with
 | refl=>exact .refl
 | step _ e a=>exact(Rch.one (II e)).trans a
def IJ(e:lb):mC e≠e:=by
 obtain⟨a,b⟩:=e;simp[mC]
theorem IK(h:s.1∉rows.map (·.1)):dY rows s=(some s.1,s.2):=by
 unfold dY;grind
theorem IL(h:s.1∈rows.map (·.1)):∃r∈rows,r.1=s.1/\dY rows s=(r.2.1,s.2==r.2.2):=by
 unfold dY;grind
structure gu(L:AW)(K S:AE)(rows:List fN):Prop where
 ks:rows.map (·.1)=K
 row:∀r∈rows,iF S r=true
 kept:∀l∈L,lg (l.map (dY rows))=true
inductive bY (L:AW) (K S:AE):Prop
 | broken:[]∈L->bY L K S
 | clash (s:aC):Rch L s (aP s)->Rch L (aP s) s->bY L K S
 | cross (s t:aC):s.1∈S->t.1∈S->s≠t->Rch L s t->bY L K S
 | late (s t:aC):s.1∈S->t.1∈K->t.1<s.1->Rch L s t->Rch L t s->bY L K S
def eJ(L:AW)(S:AE)(k:Nat)(s:aC):Prop:=s.1∈S/\Rch L s (k,true)/\Rch L (k,true) s
def loose(L:AW)(S:AE)(k:Nat):Prop:=∀s,¬eJ L S k s
structure eK(L:AW)(K S:AE)(τ:AH)(rows:List fN):Prop where
 ks:rows.map (·.1)=K
 row:∀r∈rows,(∃s,eJ L S r.1 s/\r.2=(some s.1,s.2))\/(loose L S r.1/\r.2=(none,τ r.1))
structure Tr(L:AW)(K S:AE)(τ:AH):Prop where
 one:∀k∈K,loose L S k->∀s:aC,s.1∈S->∀v,Rch L s (k,v)->τ k=v
 two:∀k∈K,loose L S k->∀j∈K,loose L S j->∀v,Rch L (k,τ k) (j,v)->τ j=v
def PM(c:¬bY L K S)(hs:s.1∈S)(b:t.1∈S)(h:Rch L s t):s=t:=
 Classical.byContradiction λz=>c (.cross s t hs b z h)
theorem cls(l:∀x∈S,x∉K)(c:eK L K S τ rows)(b:a.1∈S\/a.1∈K):
 (∃e:aC,e.1∈S/\dY rows a=(some e.1,e.2)/\Rch L a e/\Rch L e a)\/(a.1∈K/\loose L S a.1/\dY rows a=(none,a.2==τ a.1)):=by
 rcases b with b|b
 .exact .inl ⟨a,b,IK (by rw[c.ks];grind),.refl,.refl⟩
 .obtain⟨r,o,m,h⟩:=IL (by rwa [c.ks])
  rcases c.row r o with⟨s,n,g⟩|⟨k,g⟩
  .left
   rw[g]at h;obtain⟨i,d,f⟩:=n;rw[m]at d f;obtain⟨p,j⟩:=a
   cases j with
   | true=>
     refine⟨s,i,?_,f,d⟩
     simp_all
   | false=>
     refine⟨aP s,i,?_,d.skew,f.skew⟩;rw[h];show(some s.1,_)=(some s.1,!s.2);cases s.2<;>rfl
  grind
theorem xZ(h:((none,true):lb)∈a):lg a=true:=by
 unfold lg;grind
theorem IM(h:e∈a)(b:mC e∈a):lg a=true:=by
 unfold lg;grind
theorem IP(h:¬v=a.2):(a.1,v)=aP a:=by
 obtain⟨x,y⟩:=a
 cases v<;>cases y<;>first|rfl|grind
theorem PN(c:∀x∈S,x∉K)(t:¬bY L K S)(d:eK L K S τ rows)(i:Tr L K S τ)(r:a.1∈S\/a.1∈K)(o:b.1∈S\/b.1∈K)(h:Rch L (aP a) b):
 dY rows a=(none,true)\/dY rows b=(none,true)\/mC (dY rows a)=dY rows b:=by
 have q:=by
  have:=h.skew
  rwa [iK]at this
 rcases cls c d r with⟨e,n,v,p,w⟩|⟨l,m,y⟩
 .rcases cls c d o with⟨f,j,k,g,s⟩|⟨b1,b2,b3⟩
  .have:=PM t (s:=aP e) n j ((p.skew.trans h).trans g)
   refine .inr (.inr ?_);rw[v,k,<-this];rfl
  .have:=i.one b.1 b1 b2 (aP e) n b.2 (p.skew.trans h)
   grind
 .by_cases u:τ a.1=a.2
  .grind
  .rcases cls c d o with⟨f,j,k,g,s⟩|⟨b1,b2,b3⟩
   .have:=i.one a.1 l m (aP f) j a.2 (g.skew.trans q)
    grind
   .have e:=IP u
    have:=i.two a.1 l m b.1 b1 b2 b.2 (by grind);grind
theorem Zt(w:∀l∈L,eI l)(d:∀l∈L,∀s∈l,s.1∈S\/s.1∈K)(g:∀x∈S,x∉K)(i:¬bY L K S)(f:eK L K S τ rows)(m:Tr L K S τ):gu L K S rows:=by
 refine⟨f.ks,λr q=>?_,λl c=>?_⟩
 .rcases f.row r q with⟨s,⟨A,y,v⟩,p⟩|⟨_,p⟩
  .have j:r.1∈K:=by rw[<-f.ks];grind
   have u:s.1<r.1:=by
    rcases Nat.lt_trichotomy s.1 r.1 with h|h|h
    .exact h
    .grind
    .exact absurd (.late s _ A j h y v) i
   unfold iF;grind
  .unfold iF
   rw[p]
 .obtain⟨t,n⟩:=w l c
  match l,t,n,c with
  | [],_,_,c=>exact absurd (.broken c) i
  | [a],_,_,c=>
    have h:Rch L (aP a) a:=.one ⟨[a],c,by rw[iK];simp,by simp,λ_=>rfl⟩;have o:=d [a] c a (by simp);rcases PN g i f m o o h with e|e|e
    .exact xZ (by simp[e])
    .exact xZ (by simp[e])
    .exact absurd e (IJ _)
  | [a,b],_,n,c=>
    have k:¬a=b:=by grind
    have h:Rch L (aP a) b:=.one ⟨[a,b],c,by rw[iK];simp,by simp,λz=>absurd (by rw[z,iK]) k⟩;rcases PN g i f m (d _ c a (by simp)) (d _ c b (by simp)) h with e|e|e
    .exact xZ (by simp[e])
    .exact xZ (by simp[e])
    .exact IM (e:=dY rows a) (by simp) (by rw[e];simp)
def ll(L:AW)(s:aC)(f g:Nat->Option Bool):Prop:=∀j,(∀v,Rch L s (j,v)->(g j).isSome=true)/\(∀v,g j=some v->Rch L s (j,v)\/((∀u,¬Rch L s (j,u))/\f j=some v))/\((∀u,¬Rch L s (j,u))->g j=f j)
structure sI(L:AW)(T:AX)(f:Nat->Option Bool):Prop where
 up:∀j v,f j=some v->∃s∈T,Rch L s (j,v)
 dom:∀j,∀s∈T,∀v,Rch L s (j,v)->(f j).isSome=true
def IQ(L:AW):sI L [] λ_=>none:=⟨λj v h=>(nomatch h),λj s a=>nomatch a⟩
theorem IR(h:sI L T f)(a:ll L s f g):sI L (T++[s]) g:=by
 refine⟨λj v e=>?_,λj t b v c=>?_⟩
 .rcases(a j).2.1 v e with w|⟨_,w⟩
  .grind
  .obtain⟨t,b,c⟩:=h.up j v w
   grind
 .by_cases z:∃u,Rch L s (j,u)
  .obtain⟨u,d⟩:=z
   exact(a j).1 u d
  .rw[(a j).2.2 (λu a=>z ⟨u,a⟩)]
   rcases qw b with b|b
   .exact h.dom j t b v c
   grind
def x2(k:Nat)(v:Bool):aP (k,v)=(k,!v):=rfl
theorem Zu(h:¬bY L K S)(b:loose L S k)(hs:s.1∈S)(i:t.1∈S)(c:Rch L s (k,v))(f:Rch L t (k,u)):v=u:=by
 refine Classical.byContradiction λz=>?_
 have e:(k,u)=aP (k,v):=by
  cases v<;>cases u<;>first|rfl|grind
 rw[e]at f;have g:=f.skew;rw[iK]at g;have j:=PM h (t:=aP t) hs i (c.trans g)
 have d:Rch L (k,v) s:=by grind
 cases v with
 | true=>exact b s ⟨hs,c,d⟩
 | false=>
   refine b (aP s) ⟨hs,?_,?_⟩
   .have:=d.skew
    exact this
   .have:=c.skew
    exact this
structure mG(L:AW)(K S:AE)(f:Nat->Option Bool):Prop where
 one:∀k,loose L S k->∀s:aC,s.1∈S->∀v,Rch L s (k,v)->f k=some v
 two:∀k j,loose L S k->loose L S j->∀v u,f k=some v->Rch L (k,v) (j,u)->f j=some u
 dom:∀k,¬loose L S k->(f k).isSome=true
theorem Zv(r:¬bY L K S)(d:∀s:aC,s∈T↔s.1∈S)(h:sI L T f):mG L K S f:=by
 have c:∀k,_->∀s,_->∀v,_->f k=some v:=λk m s i v g=>by
  have hd:=h.dom k s ((d s).mpr i) v g
  cases e:f k with
  | none=>grind
  | some u=>
    obtain⟨t,l,a⟩:=h.up k u e;rw[Zu r m i ((d t).mp l) g a]
 refine⟨c,λk j n q v u e g=>?_,λk n=>?_⟩
 .obtain⟨t,l,a⟩:=h.up k v e
  exact c j q t ((d t).mp l) u (a.trans g)
 .have:∃s,_:=Classical.byContradiction λz=>n λs i=>z ⟨s,i⟩
  obtain⟨s,p,o,_⟩:=this;exact h.dom k s ((d s).mpr p) _ o
def sJ(L:AW)(k:Nat)(l:aC):Prop:=l.1=k/\¬Rch L l (aP l)
theorem IS(G:¬bY L K S)(h:mG L K S f)(E:f k=none)(p:sJ L k l)(b:ll L l f g):mG L K S g/\(g k).isSome=true/\∀j,(f j).isSome=true->(g j).isSome=true:=by
 have q:=Classical.byContradiction λz=>by
  have:=h.dom k z;grind
 have y:∀j v u,Rch L l (j,v)->Rch L l (j,u)->v=u:=λj v u B t=>by
  refine Classical.byContradiction λz=>p.2 ?_
  have e:(j,u)=aP (j,v):=by
   cases v<;>cases u<;>first|rfl|grind
  rw[e]at t;have m:=t.skew;rw[iK]at m;exact B.trans m
 have o:∀j v,_->g j=some v:=λj v n=>by
  have hd:=(b j).1 v n
  cases e:g j with
  | none=>grind
  | some u=>
    rcases(b j).2.1 u e with w|⟨w,_⟩
    .grind
    grind
 have c:∀j,_->∀v,_->g j=some v:=λj d v e=>by
  by_cases z:∃u,Rch L l (j,u)
  .obtain⟨u,x⟩:=z
   have:u=v:=Classical.byContradiction λF=>by
    have A:(j,u)=aP (j,v):=by
     cases v<;>cases u<;>first|rfl|grind
    rw[A]at x;have m:=x.skew;rw[iK]at m
    have r:aP l=(k,!l.2):=by rw[<-p.1];rfl
    rw[r]at m;have:=h.two j k d q v _ e m;grind
   grind
  .rw[(b j).2.2 λu b=>z ⟨u,b⟩]
   exact e
 refine⟨⟨λj d s D v n=>c j d v (h.one j d s D v n),λi j C d v u e n=>?_,λj d=>?_⟩,?_,λj d=>?_⟩
 .rcases(b i).2.1 v e with w|⟨_,w⟩
  .exact o j u (w.trans n)
  .exact c j d u (h.two i j C d v u w n)
 .have hd:=h.dom j d
  by_cases z:∃u,Rch L l (j,u)
  .grind
  .rw[(b j).2.2 λu b=>z ⟨u,b⟩]
   exact hd
 .have:Rch L l (k,l.2):=by rw[<-p.1];exact .refl
  grind
 .by_cases z:∃u,Rch L l (j,u)
  .grind
  .rw[(b j).2.2 λu b=>z ⟨u,b⟩]
   exact d
theorem IT(h:mG L K S f)(hd:∀k∈K,(f k).isSome=true):Tr L K S λk=>(f k).getD false:=by
 have g:∀k∈K,f k=some ((f k).getD false):=λk b=>by
  cases e:f k with
  | none=>grind
  | some v=>rfl
 refine⟨λk b a s i v c=>?_,λk b a j l d v c=>?_⟩
 .rw[h.one k a s i v c]
  rfl
 .rw[h.two k j a d _ v (g k b) c]
  rfl
def kN(s:aC):AF:=[s.1,if s.2 then 1 else 0]
theorem IU(h:kN s=kN t):s=t:=by
 unfold kN at h;grind
def x3(s:aC):eB (af s)=some (kN s):=rfl
theorem mH:∀l:AX,fj (l.map af)=some (l.map kN)
 | []=>rfl
 | s::l=>by
   rw[Qd,fj,mH l];rfl
theorem mem_kN{l:AX}:kN s∈l.map kN↔s∈l:=by
 constructor
 .intro h
  obtain⟨t,a,e⟩:=qy h
  rwa [<-IU e]
 grind
def PP(a:Bool)(s:aC)(l:AX)(vs:AN):cO a (af s) (.dct true (l.map af) vs)=some (decide (s∈l)!=a):=by
 show(fj _).bind _=_;rw[mH,qd,x3,Option.map_some,decide_eq_decide.mpr mem_kN]
def bT:Option aC->D
 | none=>.non
 | some s=>af s
abbrev Wy:=List (aC×Option aC)
def au(W:Wy):AX:=W.map (·.1)
def bB(W:Wy):D:=.dct true ((au W).map af) (W.map λp=>bT p.2)
structure WOk(L:AW)(s:aC)(W:Wy):Prop where
 nd:(au W).Nodup
 hd:∃X,W=(s,none)::X
 par:∀i p,W[i]?=some p->0<i->∃(k:Nat) (q:aC×Option aC),k<i/\W[k]?=some q/\p.2=some q.1/\p.1∈bJ L q.1
theorem IV(h:WOk L s W){j:Nat}(l:W[j]?=some q)(m:t∈bJ L q.1)(hn:t∉au W):WOk L s (W++[(t,some q.1)]):=by
 refine⟨?_,?_,λi p a f=>?_⟩
 .unfold au
  rw[wt,List.nodup_append];refine⟨h.nd,by simp,λx g y d e=>?_⟩;simp at d;subst d e;exact hn g
 .obtain⟨X,e⟩:=h.hd
  grind
 .by_cases b:i<W.length
  .rw[List.getElem?_append_left b]at a
   obtain⟨k,r,o,v,n⟩:=h.par i p a f;exact⟨k,r,o,by grind,n⟩
  .rw[List.getElem?_append_right (by lia)]at a
   have c:i-W.length=0:=by
    grind
   rw[c]at a;have:=w4 a.symm;subst this;have u:=(qo l).1;exact⟨j,q,by lia,by grind,rfl,m⟩
def dZ(bk:D)(s:aC)(W:Wy)(j:Nat)(y:AQ):Ro:=[↑bk,↑(af s),some (.od true ((au W).map af) (W.map λp=>bT p.2)),some (.ow ((au W).map af)),↑(.int j),y]
theorem IW(a:W.length<=1000)(hn:t∉au W)(d:D):j8 ((au W).map af) (W.map λp=>bT p.2) (af t) d=some ((au W).map af++[af t],(W.map λp=>bT p.2)++[d]):=by
 unfold j8;rw[mH,qd,x3,qd,if_pos (by rw[qf];show _<1000000;lia),if_neg (λz=>hn (mem_kN.mp z))]
theorem IX:∀(b:AX) (W:Wy) (y:AQ),WOk L s W->W.length+b.length<=1000->W[j]?=some q->(∀t∈b,t∈bJ L q.1)->
 ∃(X:Wy) (g:AQ),WOk L s (W++X)/\(∀t∈b,t∈au (W++X))/\(∀p∈X,p.1∈b)/\M.forM (ai 5) ma (b.map af) (dZ bk s W j y)=some (.nx (dZ bk s (W++X) j g))
 | [],W,y,v,_,_,_=>⟨[],y,by grind,λt h=>(nomatch h),λp l=>(nomatch l),by rw[w6];rfl⟩
 | t::b,W,y,v,O,w,h=>by
   have N:bE ((au W).map af) (j:Int)=some (af q.1):=by
    have K:j<W.length:=(qo w).1;rw[gK]
    have:(au W)[j]?=some q.1:=by unfold au;grind
    rw[lH this];rfl
   rw[Qd,M.forM];have H:ai 5 (af t) (dZ bk s W j y)=some (dZ bk s W j (↑(af t))):=rfl;rw[H,qd]
   have G:W.length+b.length+1<=1000:=by grind
   have n:=PP true t (au W) (W.map λp=>bT p.2);by_cases d:t∈au W
   .have A:ma (dZ bk s W j (↑(af t)))=some (.nx (dZ bk s W j (↑(af t)))):=by
     simp only[d,decide_true]at n;unfold dZ;generalize (au W).map af=c,(W.map λp=>bT p.2)=k,af t=f,af s=m at *;simp[ma,n]
    obtain⟨X,g,o,D,F,r⟩:=IX b W (↑(af t)) v (by lia) w λu a=>h u (qg _ a);refine⟨X,g,o,λu a=>?_,λp l=>qg _ (F p l),?_⟩
    .rcases qu a with rfl|a
     .unfold au
      rw[wt];exact List.mem_append.mpr (.inl d)
     grind
    .rw[A,qd]
     exact r
   .have z:=IV v w (h t (by simp)) d
    have A:ma (dZ bk s W j (↑(af t)))=some (.nx (dZ bk s (W++[(t,some q.1)]) j (↑(af t)))):=by
     simp only[d,decide_false]at n;have l:=IW (by lia) d (af q.1);have e:b_ ((au W).map af) (af t)=some ((au W).map af++[af t]):=vN (by unfold au;simp;lia)
     have E:(au (W++[(t,some q.1)])).map af=(au W).map af++[af t]:=by unfold au;grind
     have C:((W++[(t,some q.1)]).map λp=>bT p.2)=(W.map λp=>bT p.2)++[af q.1]:=by rw[wt];rfl
     unfold dZ;rw[E,C];clear E C;generalize (au W).map af=c,(W.map λp=>bT p.2)=k,af t=f,af s=m,af q.1=J at *;have I:h8 2 [↑bk,↑m,some (.od true c k),some (.ow c),↑(.int (j:Int)),↑f]=some (c,k):=rfl
     have i:h9 2 (aa 5) (b2 (aa 3) (aa 4) ao) [↑bk,↑m,some (.od true c k),some (.ow c),↑(.int (j:Int)),↑f]=some (.nx [↑bk,↑m,some (.od true (c++[f]) (k++[J])),some (.ow c),↑(.int (j:Int)),↑f]):=by
      unfold h9
      simp_all
     simp[ma,n,i,e]
    have x:(W++[(t,some q.1)])[j]?=some q:=by
     grind
    obtain⟨X,g,o,D,F,r⟩:=IX b (W++[(t,some q.1)]) (↑(af t)) z (by grind) x λu a=>h u (qg _ a);rw[w9]at o D r;refine⟨[(t,some q.1)]++X,g,o,λu a=>?_,λp l=>?_,?_⟩
    .rcases qu a with rfl|a
     .unfold au
      simp
     grind
    .grind
    .rw[A,qd]
     exact r
theorem sL(hn:(au W).Nodup)(h:∀s∈au W,s.1<60):W.length<=120:=by
 have a:((au W).map λs=>2*s.1+(if s.2 then 1 else 0)).Nodup:=by
  grind
 have:=sg 120 _ a λx b=>by
  grind
 simpa [au]using this
theorem IY(c:∀l∈L,∀s∈l,s.1<60)(h:t∈bJ L s):t.1<60:=by
 obtain⟨l,b,e⟩:=List.mem_filterMap.mp h;unfold iC at e
 split at e
 .injection e with e
  subst e
  cases d:l.filter _ with
  | nil=>grind
  | cons a r=>
    grind
 .cases e
def x4(L:AW)(W:Wy)(j:Nat):Prop:=∀k q,W[k]?=some q->k<j->∀t∈bJ L q.1,t∈au W
theorem Zw(u:L.length<=500)(J:∀l∈L,∀s∈l,s.1<60):∀(m a j:Nat) (W:Wy) (y:AQ),121<=j+m->m+1<=a->WOk L s W->(∀t∈au W,t.1<60)->j<=W.length->x4 L W j->
 ∃(f:Wy) (C:Nat) (x:AQ),WOk L s f/\(∀t∈au f,t.1<60)/\x4 L f f.length/\c5 (b2 (aa 4) (cC (Yb (aa 3) ae) aV) hB) wJ a (dZ (ba L) s W j y)=some (.nx (dZ (ba L) s f C x)):=by
 intro m
 induction m with
 | zero=>
   intro a j W y S K n c O E;have:=sL n.nd c;lia
 | succ m N=>
   intro a j W y S K n c O E
   cases a with
   | zero=>lia
   | succ a=>
     have d:(b2 (aa 4) (cC (Yb (aa 3) ae) aV) hB) (dZ (ba L) s W j y)=some (decide (j<W.length)):=by
      have F:(((au W).map af).length:Int)=(W.length:Int):=by unfold au;simp
      unfold dZ
      simp_all
     rw[c5,d];by_cases w:j<W.length
     .have H:W[j]?=some W[j]:=qr w
      have i:=H8 (L:=L) (by lia) W[j].1;have M:=sL n.nd c;have T:(bJ L W[j].1).length<=500:=Qg (List.length_filterMap_le _ _) u;obtain⟨X,A,R,k2,Q,D⟩:=IX (bk:=ba L) (j:=j) (q:=W[j]) (bJ L W[j].1) W y n (by lia) H λt b=>b
      have r:wJ (dZ (ba L) s W j y)=some (.nx (dZ (ba L) s (W++X) (j+1) A)):=by
       have v:bE ((au W).map af) (j:Int)=some (af W[j].1):=by
        rw[gK]
        have:(au W)[j]?=some W[j].1:=by unfold au;grind
        rw[lH this];rfl
       have h:((j+1:Nat):Int)=(j:Int)+1:=by lia
       unfold dZ at D ⊢;rw[h];generalize ((W++X).map λp=>bT p.2)=VX,(au W).map af=Y,af W[j].1=Z,af s=V,ba L=bk at *;simp[wJ,v,i,D]
      have g:∀t∈au (W++X),t.1<60:=λt b=>by
       unfold au at b;rw[wt]at b;rcases qw b with b|b
       .exact c t b
       .obtain⟨p,G,rfl⟩:=qy b
        exact IY J (Q p G)
      have o:x4 L (W++X) (j+1):=λk q z I t b=>by
       by_cases e:k=j
       .grind
       .rw[List.getElem?_append_left (by lia)]at z
        have:=E k q z (by lia) t b;unfold au at this ⊢;grind
      obtain⟨f,C,x,U,r2,r3,r4⟩:=N a (j+1) (W++X) A (by lia) (by lia) R g (by grind) o;grind
     grind
structure eL(L:AW)(s:aC)(W:Wy):Prop extends WOk L s W where
 cl:x4 L W W.length
 lt:∀t∈au W,t.1<60
theorem Zx(c:L.length<=500)(f:∀l∈L,∀s∈l,s.1<60)(hs:s.1<60):∃W:Wy,eL L s W/\md [ba L,af s]=some (bB W):=by
 have e:WOk L s _:=⟨by simp[au],⟨[],rfl⟩,λi p v r=>by
  grind⟩
 obtain⟨W,j,y,h,n,o,d⟩:=Zw c f 121 4000 0 _ _ (by lia) (by lia) e (λt m=>by simp[au]at m;grind) (Qh _) (λk q _ u=>by lia);refine⟨W,{ h with cl:=o,lt:=n },?_⟩;rw[md,Yj (by rfl)];have b:Yd 6 [ba L,af s]=[_,_,none,none,none,none]:=rfl;have a:j9 2 (ab 1) (kD .non) [↑(ba L),↑(af s),none,none,none,none]=some (.nx _):=rfl;rw[b,FL,eS,a,qd];have g:c5 _ _ _ [_,_,some (.od _ [af s] [.non]),some (.ow [af s]),↑(.int 0),none]=_:=d;have w:FK (dZ (ba L) s W j y)=some (.rt (bB W)):=rfl
 simp_all
theorem IZ(j:∀l∈L,eI l):t∈bJ L s↔ed L s t:=by
 unfold bJ ed;rw[List.mem_filterMap];constructor
 .rintro⟨l,g,e⟩
  unfold iC at e
  split at e
  .rename_i i
   injection e with e
   cases k:l.filter _ with
   | nil=>
     rw[k]at e;refine⟨l,g,i,by grind,λ_=>?_⟩
     have c:∀x∈l,x=aP s:=λx o=>by
      grind
     obtain⟨_,f⟩:=j l g
     match l,f,i,c with
     | [a],_,_,_=>rfl
     | a::b::r,f,_,c=>
       grind
   | cons a r=>
     grind
  .cases e
 .rintro⟨l,g,d,h,m⟩
  refine⟨l,g,?_⟩;unfold iC;obtain⟨n,f⟩:=j l g;by_cases e:t=aP s
  .match l,m e,d with
   | [a],_,d=>
     grind
  .have k:l.filter (λt=>!decide (t=aP s))=[t]:=by
    match l,n,f,d,h with
    | [a],_,_,d,h=>
      grind
    | [a,b],_,f,d,h=>
      grind
   grind
theorem x5(f:∀l∈L,eI l)(h:eL L s W):t∈au W↔Rch L s t:=by
 have b:∀(n i:Nat) p,i<n->W[i]?=some p->Rch L s p.1:=λn=>by
  induction n with
  | zero=>grind
  | succ n d=>
    intro i p c a;by_cases r:i=0
    .subst r
     obtain⟨X,e⟩:=h.hd;rw[e]at a;cases a;exact .refl
    .obtain⟨k,q,u,g,v,o⟩:=h.par i p a (by lia)
     exact .step (d k q (by lia) g) ((IZ f).mp o)
 constructor
 .intro m
  obtain⟨p,a,rfl⟩:=qy m;obtain⟨i,c,e⟩:=List.mem_iff_getElem.mp a;exact b (i+1) i p (by lia) (by grind)
 .intro j
  induction j with
  | refl=>
    obtain⟨X,e⟩:=h.hd;rw[e];simp[au]
  | step _ e d=>
    obtain⟨p,a,rfl⟩:=qy d;obtain⟨i,c,w⟩:=List.mem_iff_getElem.mp a;exact h.cl i p (by grind) c _ ((IZ f).mpr e)
inductive ec (L:AW) (s:aC):AX->aC->Prop
 | one:ec L s [s] s
 | cons {p:AX}{q t:aC}:ec L s p q->t∈bJ L q->ec L s (t::p) t
theorem I0:∀{W:List (aC×b)}{i:Nat}{p:aC×b},(W.map (·.1)).Nodup->W[i]?=some p->Yn ((W.map (·.1)).map kN) (W.map (·.2)) (kN p.1)=some p.2
 | [],i,p,_,h=>by simp at h
 | w::W,i,p,a,h=>by
   rw[Qd,List.nodup_cons]at a;rw[Qd,Qd,Qd,Yn]
   cases i with
   | zero=>
     grind
   | succ i=>
     rw[List.getElem?_cons_succ]at h;rw[if_neg (λz=>a.1 (by rw[IU z];exact(Qs (f:=(·.1)) (List.mem_of_getElem? h))))];exact I0 a.2 h
theorem I1(hn:(au W).Nodup){i:Nat}(h:W[i]?=some p):bx (bB W) (af p.1)=some (bT p.2):=by
 show(fj _).bind _=_;rw[mH,x3];have:=I0 (W:=W.map λp=>(p.1,bT p.2)) (i:=i) (p:=(p.1,bT p.2)) (by rwa [Qf]) (by grind)
 have a:((W.map λp=>(p.1,bT p.2)).map (·.1))=au W:=by rw[Qf];rfl
 have b:((W.map λp=>(p.1,bT p.2)).map (·.2))=W.map λp=>bT p.2:=by simp_all
 grind
theorem Zy(h:WOk L s W)(C:W.length<=120)(d:AQ):∀(n a i:Nat) (p:aC×Option aC) (R:AX),i<n->i+2<=a->R.length+i<=500->W[i]?=some p->
 ∃b:AX,ec L s b p.1/\b.length<=i+1/\c5 (b2 (aa 3) (kD .non) (bU true)) wI a [↑(bB W),d,some (.ow (R.map af)),↑(af p.1)]=some (.nx [↑(bB W),d,some (.ow ((R++b).map af)),↑.non]):=by
 intro n
 induction n with
 | zero=>grind
 | succ n r=>
   intro a i p R A E v l
   cases a with
   | zero=>lia
   | succ a=>
     have c:∀(x:aC) (R:AX),b2 (aa 3) (kD .non) (bU true) [↑(bB W),d,some (.ow (R.map af)),↑(af x)]=some true:=λx R=>rfl;have j:∀R:AX,b2 (aa 3) (kD .non) (bU true) [↑(bB W),d,some (.ow (R.map af)),↑.non]=some false:=λR=>rfl;have u:=I1 h.nd l
     have f:wI [↑(bB W),d,some (.ow (R.map af)),↑(af p.1)]=some (.nx [↑(bB W),d,some (.ow ((R++[p.1]).map af)),↑(bT p.2)]):=by
      have g:b_ (R.map af) (af p.1)=_:=vN (by grind);rw[wt];have m:[p.1].map af=[af p.1]:=rfl;rw[m];simp[wI,g,u]
     rw[c5,c,qd,if_pos rfl,f,qd];by_cases o:i=0
     .subst o
      obtain⟨X,e⟩:=h.hd;rw[e]at l;cases l;refine⟨[s],.one,by simp,?_⟩
      cases a with
      | zero=>lia
      | succ a=>
        show c5 _ _ (a+1) [_,d,some (.ow ((R++[s]).map af)),↑.non]=_;rw[c5,j,qd,if_neg qi]
     .obtain⟨k,q,D,t,y,w⟩:=h.par i p l (by lia)
      obtain⟨b,b1,z,b3⟩:=r a k q (R++[p.1]) (by lia) (by lia) (by simp;lia) t;refine⟨p.1::b,.cons b1 w,by simp;lia,?_⟩;rw[y]
      have e:R++p.1::b=(R++[p.1])++b:=by simp
      rw[e];exact b3
structure eM(L:AW)(s t:aC)(r:AX):Prop where
 ok:iD L r=true
 fst:eT r 0=s
 lst:k9 r=t
 len:r.length<=120
theorem x6(h:i<r.length)(x:aC):eT (r++[x]) i=eT r i:=by
 unfold eT;grind
theorem PQ(r:AX)(x:aC):eT (r++[x]) r.length=x:=by
 unfold eT;grind
theorem Zz(h:ec L s b t):iD L b.reverse=true/\eT b.reverse 0=s/\k9 b.reverse=t:=by
 induction h with
 | one=>
   refine⟨?_,rfl,rfl⟩;unfold iD;simp
 | @cons p q t _ k d=>
   obtain⟨a,l,f⟩:=d;rw[List.reverse_cons];refine⟨?_,by rwa [x6 (Pl a)],?_⟩
   .unfold iD at a ⊢
    rw[Qe,List.all_eq_true]at a ⊢;refine⟨by simp,λi j=>?_⟩;have c:=Qb j;rw[qz,ja]at c;unfold Pk;by_cases e:i+1<p.reverse.length
    .have:=a.2 i (List.mem_range.mpr (by lia))
     rwa [x6 e,x6 (by lia)]
    .have g:i+1=p.reverse.length:=by lia
     rw[g,PQ,x6 (by lia)]
     have:eT p.reverse i=q:=by
      rw[<-f];unfold k9;grind
     grind
   .unfold k9
    rw[qz,ja,Nat.add_sub_cancel,PQ]
theorem sM(h:eL L s W)(g:t∈au W):∃r:AX,eM L s t r/\jm [bB W,af t]=some (.tup (r.map af)):=by
 obtain⟨p,o,rfl⟩:=qy g;obtain⟨i,u,e⟩:=List.mem_iff_getElem.mp o;have l:=sL h.nd h.lt;obtain⟨b,b1,m,b3⟩:=Zy h.toWOk l (↑(af p.1)) (i+1) 4000 i p [] (by lia) (by lia) (by simp;lia) (by grind);obtain⟨f,n,k⟩:=Zz b1;refine⟨b.reverse,⟨f,n,k,by grind⟩,?_⟩;rw[jm,Yj (by rfl)];have a:Yd 4 [bB W,af p.1]=[_,_,none,none]:=rfl;rw[a];rw[Qj,List.map_nil]at b3;rw[List.map_reverse];generalize b.map _=d,bB W=q,af p.1=j at *;have c:j3 (aa 2) [↑q,↑j,some (.ow d),↑.non]=some _:=rfl;simp[NP,b3,c]
def aD(B:AE):AX:=B.flatMap λb=>[(b,false),(b,true)]
theorem mem_sayL{B:AE}:s∈aD B↔s.1∈B:=by
 unfold aD;rw[List.mem_flatMap];constructor
 .grind
 .intro h
  refine⟨s.1,h,?_⟩;obtain⟨a,b⟩:=s;cases b<;>simp
theorem I_(B:AE):(aD B).length=2*B.length:=by
 induction B with
 | nil=>rfl
 | cons b B a=>
   have:aD (b::B)=_++aD B:=rfl;grind
theorem mI{B:AE}(i:Yc c=some (B.map nD))(n:B.length<=1000):Yu [c]=some (.lst ((aD B).map af)):=by
 obtain⟨k,j,g,rfl⟩:=gJ (gt:=ai 2) (fb:=Gm) nD (λd h=>∃g:Option M.B,h=[↑c,some (.ow ((aD d).map af)),g]) B []
  [↑c,some (.ow []),none] ⟨none,rfl⟩ (by
   rintro q b r h e ⟨g,rfl⟩
   have m:q.length<=1000:=by
    grind
   refine⟨_,[↑c,some _,↑(nD b)],rfl,?_,_,rfl⟩
   have f:(aD (q++[b])).map af=(aD q).map af++[.tup [.int (b:Int),.bl false],.tup [.int (b:Int),.bl true]]:=by
    unfold aD;rw[List.flatMap_append,wt];rfl
   have l:=I_ q
   have a:eA ((aD q).map af) (.lst [.tup [.int (b:Int),.bl false],.tup [.int (b:Int),.bl true]])=some ((aD q).map af++[.tup [.int (b:Int),.bl false],.tup [.int (b:Int),.bl true]]):=by
    unfold eA;simp;lia
   rw[f]
   simp[Gm,a])
 rw[Yu,Yj (by rfl)];simp[Gn,Yd,i,j]
def aK(A:AX)(wf:aC->Wy):D:=.dct true (A.map af) (A.map λs=>bB (wf s))
theorem gR(hn:A.Nodup)(h:s∈A):bx (aK A wf) (af s)=some (bB (wf s)):=by
 show(fj _).bind _=_;rw[mH,x3];obtain⟨i,c,e⟩:=List.mem_iff_getElem.mp h;have:=I0 (W:=A.map λs=>(s,bB (wf s))) (i:=i) (p:=(s,bB (wf s))) (by grind) (by grind)
 have d:((A.map λs=>(s,bB (wf s))).map (·.1))=A:=by simp[wu]
 have b:((A.map λs=>(s,bB (wf s))).map (·.2))=A.map λs=>bB (wf s):=by simp_all
 grind
structure dP(L:AW)(A:AX)(wf:aC->Wy):Prop where
 nd:A.Nodup
 all:∀s∈A,eL L s (wf s)
def x8(t:aC):cO false (af t) (bB W)=some (decide (t∈au W)):=by
 unfold bB;rw[PP];simp
def Ja(h:dP L A wf)(hs:s∈A)(d:t∈A):Yq [aK A wf,af s,af t]=some (.bl (decide (t∈au (wf s))&&decide (s∈au (wf t)))):=by
 have c:=gR (wf:=wf) h.nd hs;have a:=x8 (W:=wf s) t;rw[Yq,Yj (by rfl)]
 cases b:decide (t∈au _)with
 | true=>
   rw[b]at a;simp[Gp,Yd,c,gR (wf:=wf) h.nd d,a,x8 (W:=wf t) s]
 | false=>
   rw[b]at a;simp[Gp,Yd,c,a]
inductive aS (L:AW) (K S:AE):D->Prop
 | clash {s:aC}{a b:AX}:eM L s (aP s) a->eM L (aP s) s b->aS L K S (.tup [.str "clash",.tup (a.map af),.tup (b.map af)])
 | cross {s t:aC}{a:AX}:s.1∈S->t.1∈S->s≠t->eM L s t a->aS L K S (.tup [.str "cross",.tup (a.map af)])
 | late {s t:aC}{a b:AX}:s.1∈S->t.1∈K->t.1<s.1->eM L s t a->eM L t s b->aS L K S (.tup [.str "late",.tup (a.map af),.tup (b.map af)])
theorem ZD(C:A.length<=1000)(h:dP L A wf)(g:∀s∈A,aP s∈A)(K S:AE):
 (∃d,aS L K S d/\ry [aK A wf]=some d)\/((∀s∈A,¬(aP s∈au (wf s)/\s∈au (wf (aP s))))/\ry [aK A wf]=some .non):=by
 have f:=jv (gt:=ai 1) (fb:=xj) af (λm w=>(∀s∈m,¬(aP s∈au (wf s)/\s∈au (wf (aP s))))/\∃o j:Option M.B,w=[↑(aK A wf),o,j]) (aS L K S) A []
  _ ⟨λs c=>(nomatch c),none,none,rfl⟩ (by
   rintro q s r w e ⟨p,o,j,rfl⟩;rw[Qj]at e
   have c:s∈A:=by rw[e];simp
   have u:=xK s;have k:=Ja h c (g s c);refine⟨[some _,some _,j],rfl,?_⟩;by_cases i:aP s∈au (wf s)/\s∈au (wf (aP s))
   .right
    obtain⟨a,z,F⟩:=sM (h.all s c) i.1;obtain⟨b,E,B⟩:=sM (h.all _ (g s c)) i.2;refine⟨_,?_,.clash z E⟩;have D:=gR (wf:=wf) h.nd c;have y:=gR (wf:=wf) h.nd (g s c);simp [i.1,i.2,Bool.and_self]at k;simp[xj,u,k,D,y,F,B]
   .left
    have l:(decide (aP s∈au (wf s))&&decide (s∈au (wf (aP s))))=false:=by
     grind
    rw[l]at k;refine⟨[some _,↑(af s),↑(af (aP s))],?_,λt G=>?_,_,_,rfl⟩
    .simp[xj,u,k]
    grind)
 have v:qK (aK A wf)=some (A.map af):=by
  unfold aK;rw[Uj,if_pos (by rw[qf];show _<=1000000;lia)]
 rw[ry,Yj (by rfl)];rcases f with⟨x,n,p,o,j,rfl⟩|⟨d,n,hd⟩
 .refine .inr ⟨p,?_⟩
  simp[Gs,Yd,v,n]
 .refine .inl ⟨d,hd,?_⟩
  simp[Gs,Yd,v,n]
theorem ZH(h:dP L A wf)(C:S.length<=1000)(Q:∀s∈aD S,s∈A)(K:AE):
 (∃d,aS L K S d/\rA [aK A wf,.lst (S.map nD)]=some d)\/((∀s∈aD S,∀t∈aD S,¬(t≠s/\t∈au (wf s)))/\rA [aK A wf,.lst (S.map nD)]=some .non):=by
 have f:=mI (c:=.lst (S.map nD)) (B:=S) rfl C
 have j:=jv (gt:=ai 2) (fb:=xk) af (λk n=>(∀s∈k,∀t∈aD S,¬(t≠s/\t∈au (wf s)))/\∃x l:Option M.B,n=[↑(aK A wf),↑(.lst (S.map nD)),x,l]) (aS L K S) (aD S) []
  _ ⟨λs m=>(nomatch m),none,none,rfl⟩ (by
   rintro q s r n e ⟨w,x,l,rfl⟩;rw[Qj]at e
   have o:s∈aD S:=by rw[e];simp
   have m:=Q s o;have D:=gR (wf:=wf) h.nd m;refine⟨[↑(aK A wf),some _,↑(af s),l],rfl,?_⟩
   have B:=jv (gt:=ai 3) (fb:=rz) af (λk n=>(∀t∈k,¬(t≠s/\t∈au (wf s)))/\∃l:Option M.B,n=[↑(aK A wf),↑(.lst (S.map nD)),↑(af s),l]) (aS L K S) (aD S) []
    _ ⟨λs m=>(nomatch m),l,rfl⟩ (by
     rintro N t Y n E ⟨R,O,rfl⟩;rw[Qj]at E
     have y:t∈aD S:=by rw[E];simp
     have c:=Pj true t s;have v:=x8 (W:=wf s) t;refine⟨[↑(aK A wf),some _,↑(af s),↑(af t)],rfl,?_⟩
     have g:¬(t≠s/\t∈au (wf s))->(∀u∈N++[t],¬(u≠s/\u∈au (wf s))):=λp u U=>by
      grind
     by_cases b:t=s
     .left
      refine⟨[↑(aK A wf),some _,↑(af s),↑(af t)],?_,g (λz=>z.1 b),_,rfl⟩;simp only[b,decide_true,if_true,Bool.not_true]at c;rw[b];simp[rz,c]
     .simp only[b,decide_false,if_true,Bool.not_false]at c
      by_cases p:t∈au (wf s)
      .right
       obtain⟨a,H,G⟩:=sM (h.all s m) p;refine⟨_,?_,.cross (mem_sayL.mp o) (mem_sayL.mp y) (λz=>b z.symm) H⟩;simp only[p,decide_true]at v;simp[rz,c,D,v,G]
      .left
       refine⟨[↑(aK A wf),some _,↑(af s),↑(af t)],?_,g (λz=>p z.2),_,rfl⟩;simp only[p,decide_false]at v
       simp[rz,c,D,v])
   rcases B with⟨T,i,F,I,rfl⟩|⟨d,i,hd⟩
   .left
    refine⟨[↑(aK A wf),some _,↑(af s),I],?_,λu U=>?_,_,_,rfl⟩
    .simp[xk,f,i]
    grind
   .right
    refine⟨d,?_,hd⟩
    simp[xk,f,i])
 rw[rA,Yj (by rfl)];rcases j with⟨J,i,w,V,x,rfl⟩|⟨d,i,hd⟩
 .rw[Qj]at w
  refine .inr ⟨w,?_⟩;simp[Gu,Yd,f,i]
 .refine .inl ⟨d,hd,?_⟩
  simp[Gu,Yd,f,i]
def gw(wf:aC->Wy)(s t:aC):Prop:=t.1<s.1/\t∈au (wf s)/\s∈au (wf t)
theorem ZJ(h:dP L A wf)(H:K.length<=1000)(F:S.length<=1000)(Y:∀s∈aD K,s∈A)(V:∀s∈aD S,s∈A):
 (∃d,aS L K S d/\rC [aK A wf,.lst (K.map nD),.lst (S.map nD)]=some d)\/((∀s∈aD S,∀t∈aD K,¬gw wf s t)/\rC [aK A wf,.lst (K.map nD),.lst (S.map nD)]=some .non):=by
 have x:=mI (c:=.lst (S.map nD)) (B:=S) rfl F;have B:=mI (c:=.lst (K.map nD)) (B:=K) rfl H
 have j:=jv (gt:=ai 3) (fb:=xl) af (λm y=>(∀s∈m,∀t∈aD K,¬gw wf s t)/\∃E o:Option M.B,y=[↑(aK A wf),↑(.lst (K.map nD)),↑(.lst (S.map nD)),E,o]) (aS L K S) (aD S) []
  _ ⟨λs k=>(nomatch k),none,none,rfl⟩ (by
   rintro q s r y e ⟨N,E,o,rfl⟩;rw[Qj]at e
   have w:s∈aD S:=by rw[e];simp
   have k:=V s w;have g1:=gR (wf:=wf) h.nd k;refine⟨[↑(aK A wf),↑(.lst (K.map nD)),↑(.lst (S.map nD)),↑(af s),o],rfl,?_⟩
   have D:=jv (gt:=ai 4) (fb:=rB) af (λm y=>(∀t∈m,¬gw wf s t)/\∃o:Option M.B,y=[↑(aK A wf),↑(.lst (K.map nD)),↑(.lst (S.map nD)),↑(af s),o]) (aS L K S) (aD K) []
    _ ⟨λs k=>(nomatch k),o,rfl⟩ (by
     rintro Z t r' y Q ⟨hq',y3',rfl⟩;rw[Qj]at Q
     have v:t∈aD K:=by rw[Q];simp
     have G:=Y t v;have T:=gR (wf:=wf) h.nd G;have C:=Ja h k G;have i:Yc (af s)=some [.int (s.1:Int),.bl s.2]:=rfl;have n:Yc (af t)=some [.int (t.1:Int),.bl t.2]:=rfl;refine⟨[↑(aK A wf),↑(.lst (K.map nD)),↑(.lst (S.map nD)),↑(af s),↑(af t)],rfl,?_⟩
     have g:¬gw wf s t->(∀u∈Z++[t],¬gw wf s u):=λp u hu=>by
      grind
     by_cases f:t.1<s.1
     .have c:(t.1:Int)<(s.1:Int):=by lia
      by_cases p:t∈au (wf s)/\s∈au (wf t)
      .right
       obtain⟨a,ra,U⟩:=sM (h.all s k) p.1;obtain⟨b,rb,eb⟩:=sM (h.all t G) p.2;refine⟨_,?_,.late (mem_sayL.mp w) (mem_sayL.mp v) f ra rb⟩;simp only[p.1,p.2,decide_true,Bool.and_self]at C;simp[rB,i,n,f,c,C,g1,T,U,eb]
      .left
       refine⟨[↑(aK A wf),↑(.lst (K.map nD)),↑(.lst (S.map nD)),↑(af s),↑(af t)],?_,g (λz=>p z.2),_,rfl⟩
       have I:(decide (t∈au (wf s))&&decide (s∈au (wf t)))=false:=by
        grind
       rw[I]at C;simp[rB,i,n,f,c,C]
     .left
      have c:¬(t.1:Int)<(s.1:Int):=by lia
      refine⟨[↑(aK A wf),↑(.lst (K.map nD)),↑(.lst (S.map nD)),↑(af s),↑(af t)],?_,g (λz=>f z.1),_,rfl⟩
      simp[rB,i,n,f,c])
   rcases D with⟨ρ2,l,J,y4,rfl⟩|⟨d,l,hd⟩
   .left
    rw[Qj]at J;refine⟨[↑(aK A wf),↑(.lst (K.map nD)),↑(.lst (S.map nD)),↑(af s),y4],?_,λu hu=>?_,_,_,rfl⟩
    .generalize af s=R at *
     simp[xl,B,l]
    grind
   .right
    refine⟨d,?_,hd⟩;generalize af s=R,S.map nD=O at *
    simp[xl,B,l])
 rw[rC,Yj (by rfl)];rcases j with⟨ρ',l,N,y1,E,rfl⟩|⟨d,l,hd⟩
 .rw[Qj]at N
  refine .inr ⟨N,?_⟩;generalize aK A wf=ws,S.map nD=O,K.map nD=KK at *;simp[Gv,Yd,x,l]
 .refine .inl ⟨d,hd,?_⟩
  generalize aK A wf=ws,S.map nD=O,K.map nD=KK at *;simp[Gv,Yd,x,l]
theorem Jb(l:AX):my .e (.ei l)=decide (l=[]):=by
 show bP (.tup _) (.tup [])=_
 cases l with
 | nil=>simp
 | cons a l=>
   simp_all
theorem Jc(L:AW):(L.map Rl.ei).any (my .e)=decide ([]∈L):=by
 rw[List.any_map]
 cases h:decide ([]∈L)with
 | true=>
   have:=wq h;exact List.any_eq_true.mpr ⟨[],this,rfl⟩
 | false=>
   rw[List.any_eq_false];intro l a;show ¬my .e _=true;rw[Jb];grind
def x9(L:AW)(st n:Nat):Prop:=∀l∈L,gi (.ei l)/\∀s∈l,st<=s.1/\s.1<n
theorem ZK(h:x9 L st n):rq [ba L]=some (.bl (decide ([]∈L))):=by
 have c:=Y9 (R:=L.map .ei) (λr b=>by
  obtain⟨l,a,rfl⟩:=qy b;refine⟨⟨rfl,λs d=>((h l a).2 s d).2⟩,?_⟩;have:=(h l a).1.1;show l.length<=_
  lia)
 rwa [Jc,H_]at c
theorem jx(h:aS L K S d):∃l,d=.tup l:=by
 cases h
 .grind
 .grind
 grind
def Jd(L:AW)(K S:AE)(d:D):Prop:=aS L K S d\/([]∈L/\d=.tup [.str "broken"])
theorem ZL(hL:∀l∈L,eI l)(u:x9 L st n)(hKl:K.length<=60)(hSl:S.length<=60)(v:∀x,st<=x->x<n->x∈S\/x∈K)(p:∀s:aC,s∈A↔s.1∈S\/s.1∈K)(O:A.length<=1000)(h:dP L A wf):
 (∃d,Jd L K S d/\ml [ba L,aK A wf,.lst (K.map nD),.lst (S.map nD)]=some d)\/(¬bY L K S/\ml [ba L,aK A wf,.lst (K.map nD),.lst (S.map nD)]=some .non):=by
 have c:=ZK u;have hK:∀s∈aD K,s∈A:=λs m=>(p s).mpr (.inr (mem_sayL.mp m));have U:∀s∈aD S,s∈A:=λs m=>(p s).mpr (.inl (mem_sayL.mp m));have I:∀s∈A,aP s∈A:=λs m=>(p _).mpr ((p s).mp m);have q1:=ZD O h I K S;have V:=ZH h (S:=S) (by lia) U K;have E:=ZJ h (K:=K) (S:=S) (by lia) (by lia) hK U;rw[ml,Yj (by rfl)];by_cases y:[]∈L
 .left
  refine⟨_,.inr ⟨y,rfl⟩,?_⟩;simp only[y,decide_true]at c;generalize aK A wf=i,ba L=k at *;simp[Ys,Yd,c]
 .simp only[y,decide_false]at c
  have q:∀(a:D) (l:AN),bE (a::l) 0=some a:=λa l=>by simp_all
  rcases q1 with⟨d1,G,g⟩|⟨n1,g⟩
  .left
   refine⟨d1,.inl G,?_⟩;obtain⟨l1,rfl⟩:=jx G;clear G;rcases V with⟨T,F,f⟩|⟨R,f⟩
   .obtain⟨Z,rfl⟩:=jx F
    rcases E with⟨C,j,b⟩|⟨B,b⟩
    .obtain⟨Q,rfl⟩:=jx j
     generalize aK A wf=i,ba L=k at *;simp[Ys,Yd,c,g,f,b,ak,cU,Yp,Yr,q]
    .generalize aK A wf=i at *
     generalize ba L=k at *;simp[Ys,Yd,c,g,f,b,ak,cU,Yp,Yr,q]
   .rcases E with⟨C,j,b⟩|⟨B,b⟩
    .obtain⟨Q,rfl⟩:=jx j
     generalize aK A wf=i,ba L=k at *;simp[Ys,Yd,c,g,f,b,ak,cU,Yp,Yr,q]
    .generalize aK A wf=i at *
     generalize ba L=k at *;simp[Ys,Yd,c,g,f,b,ak,cU,Yp,Yr,q]
  .rcases V with⟨T,F,f⟩|⟨R,f⟩
   .left
    refine⟨T,.inl F,?_⟩;obtain⟨Z,rfl⟩:=jx F;rcases E with⟨C,j,b⟩|⟨B,b⟩
    .obtain⟨Q,rfl⟩:=jx j
     generalize aK A wf=i,ba L=k at *;simp[Ys,Yd,c,g,f,b,ak,cU,Yp,Yr,q]
    .generalize aK A wf=i at *
     generalize ba L=k at *;simp[Ys,Yd,c,g,f,b,ak,cU,Yp,Yr,q]
   .rcases E with⟨C,j,b⟩|⟨B,b⟩
    .left
     refine⟨C,.inl j,?_⟩;obtain⟨Q,rfl⟩:=jx j;generalize aK A wf=i,ba L=k at *;simp[Ys,Yd,c,g,f,b,ak,cU,Yp,Yr,q]
    .right
     refine⟨λr=>?_,?_⟩
     .have M:∀s∈A,∀t,t∈au (wf s)↔Rch L s t:=λs m t=>x5 hL (h.all s m)
      cases r with
      | broken z=>exact y z
      | clash s o w=>
        have hsA:s∈A:=by
         have hne:s≠aP s:=λz=>IH s z.symm
         have:s.1∈S\/s.1∈K:=by
          have H:∀t,Rch L s t->t=s\/∃l∈L,t∈l:=λt ht=>by
           cases ht with
           | refl=>grind
           | step _ e=>
             obtain⟨l,Y,_,h2,_⟩:=e;grind
          rcases H _ o with z|⟨l,Y,hm⟩
          .grind
          .obtain⟨g1,g2⟩:=(u l Y).2 _ hm
           exact v s.1 g1 g2
         grind
        grind
      | cross s t o w N J=>exact R s (mem_sayL.mpr o) t (mem_sayL.mpr w) ⟨λz=>N z.symm,(M s ((p s).mpr (.inl o)) _).mpr J⟩
      | late s t o w N J z5=>exact B s (mem_sayL.mpr o) t (mem_sayL.mpr w) ⟨N,(M s ((p s).mpr (.inl o)) _).mpr J,(M t ((p t).mpr (.inr w)) _).mpr z5⟩
     .generalize aK A wf=i at *
      generalize ba L=k at *;simp[Ys,Yd,c,g,f,b,ak,cU,Yp]
theorem PR(i:Int)(y:b)(k:Int):∀{ns:AF}{vs:List b},ns.length=vs.length->i∈ns->Yn ns (aJ ns vs i y) k=if k=i then some y else Yn ns vs k
 | [],_,_,h=>nomatch h
 | n::ns,[],a,_=>by simp at a
 | n::ns,v::vs,a,h=>by
   rw[aJ];by_cases e:n=i
   .subst e
    rw[if_pos rfl,Yn,Yn];grind
   .have c:i∈ns:=by
     grind
    rw[if_neg e,Yn,Yn,PR i y k (by grind) c];grind
theorem PU(i:Int)(y:b)(k:Int):∀{ns:AF}{vs:List b},ns.length=vs.length->i∉ns->Yn (ns++[i]) (vs++[y]) k=if k=i then some y else Yn ns vs k
 | [],[],_,_=>by
   show Yn [i] [y] k=_;rw[Yn];grind
 | [],_::_,a,_=>by simp at a
 | n::ns,[],a,_=>by simp at a
 | n::ns,v::vs,a,h=>by
   rw[List.cons_append,List.cons_append,Yn,Yn,PU i y k (by grind) (λz=>h (qg _ z))];grind
def Je(a:ns.length=vs.length)(i:Int)(y:b)(k:Int):Yn (a_ ns vs i y).1 (a_ ns vs i y).2 k=if k=i then some y else Yn ns vs k:=by
 unfold a_;by_cases h:i∈ns
 .rw[if_pos h]
  exact PR i y k a h
 .rw[if_neg h]
  exact PU i y k a h
def fO{β:Type}(k:Int):List (Int×β)->Option β->Option β
 | [],z=>z
 | p::ps,z=>fO k ps (if k=p.1 then some p.2 else z)
theorem Jf(k:Int):∀(ps:List (Int×b)) {ns:AF}{vs:List b},ns.length=vs.length->Yn (ay ns vs ps).1 (ay ns vs ps).2 k=fO k ps (Yn ns vs k)
 | [],_,_,_=>rfl
 | p::ps,ns,vs,a=>by
   rw[ay,Jf k ps (CB a),Je a];rfl
theorem Jg:∀(ps:List (Int×c)) {ns:AF}{vs:List c},ns.Nodup->ns.length=vs.length->(ay ns vs ps).1.Nodup/\(ay ns vs ps).1.length=(ay ns vs ps).2.length
 | [],_,_,a,b=>⟨a,b⟩
 | p::ps,ns,vs,a,b=>Jg ps (Mh a) (CB b)
theorem PV(k:Int):∀{a:AF}{b:List g}{z:Option g},a.length=b.length->a.Nodup->fO k (a.zip b) z=(Yn a b k).or z
 | [],[],z,_,_=>by
   rfl
 | [],_::_,_,c,_=>by simp at c
 | _::_,[],_,c,_=>by simp at c
 | m::a,w::b,z,c,d=>by
   rw[List.nodup_cons]at d;rw[List.zip_cons_cons,fO,PV k (by grind) d.2,Yn];by_cases e:k=m
   .subst e
    have f:Yn a b k=none:=(j0 (by grind)).mpr d.1;grind
   grind
theorem PX(k:Int):∀{ps:List (Int×a)}{z:Option a}{y:a},fO k ps z=some y->(k,y)∈ps\/((∀p∈ps,p.1≠k)/\z=some y)
 | [],z,y,h=>.inr ⟨λp b=>(nomatch b),h⟩
 | p::ps,z,y,h=>by
   rw[fO]at h;rcases PX k h with c|⟨c,d⟩
   .grind
   grind
theorem Jh(k:Int):∀{ps:List (Int×a)}{z:Option a},(∃p∈ps,p.1=k)\/z.isSome=true->(fO k ps z).isSome=true
 | [],z,h=>by
   rcases h with⟨p,b,_⟩|h
   .cases b
   .exact h
 | p::ps,z,h=>by
   rw[fO];refine Jh k ?_;grind
theorem PY(k:Int):∀{ps:List (Int×a)}{z:Option a},(∀p∈ps,p.1≠k)->fO k ps z=z
 | [],z,_=>rfl
 | p::ps,z,h=>by
   rw[fO,if_neg (λe=>h p qh e.symm)];exact PY k λq b=>h q (qg _ b)
structure lp(ns:AF)(vs:AG):Prop where
 nd:ns.Nodup
 len:ns.length=vs.length
def bC(ns:AF)(vs:AG)(j:Nat):Option Bool:=Yn ns vs j
def cI(l:AX):List (Int×Bool):=l.map λs=>(s.1,s.2)
def bK(ns:AF)(vs:AG)(l:AX):List Int×AG:=ay ns vs ((ay [] [] (cI l)).1.zip (ay [] [] (cI l)).2)
def PZ(h:lp ns vs)(l:AX):lp (bK ns vs l).1 (bK ns vs l).2:=by
 obtain⟨a,b⟩:=Jg _ h.nd h.len;exact⟨a,b⟩
theorem P0(n:∀l∈L,eI l)(i:eL L s W)(h:lp ns vs):ll L s (bC ns vs) (bC (bK ns vs (au W)).1 (bK ns vs (au W)).2):=λj=>by
 obtain⟨o,m⟩:=Jg (cI (au W)) (vs:=[]) List.nodup_nil rfl
 have g:∀k,Yn (bK ns vs _).1 (bK ns vs _).2 k=(fO k _ none).or _:=λk=>by
  unfold bK;rw[Jf k _ h.len,PV k m o,Jf k (cI _) rfl];rfl
 have f:∀v,Rch L s _↔((j:Int),v)∈cI _:=λv=>by
  rw[<-x5 n i];constructor
  .intro c
   exact List.mem_map.mpr ⟨(j,v),c,rfl⟩
  .intro c
   obtain⟨t,q,e⟩:=qy c;grind
 have d:(∀u,¬Rch L s (j,u))->∀p∈cI (au W),p.1≠j:=λb p r e=>by
  grind
 unfold bC;refine⟨λv a=>?_,λv a=>?_,λb=>?_⟩
 .have:=Jh j (z:=none) (.inl ⟨_,(f v).mp a,rfl⟩)
  grind
 .rw[g]at a
  cases e:fO _ _ _ with
  | some y=>
    rw[e]at a;rcases PX _ e with w|⟨_,w⟩
    .grind
    .cases w
  | none=>
    rw[e]at a;refine .inr ⟨λu b=>?_,a⟩;have:=Jh j (z:=none) (.inl ⟨_,(f u).mp b,rfl⟩);grind
 .rw[g,PY _ (d b)]
  rfl
theorem P2(i:Int)(y:Bool):∀(ns:AF) (vs:AG),aJ ns (vs.map D.bl) i (.bl y)=(aJ ns vs i y).map D.bl
 | [],vs=>by cases vs<;>simp[aJ]
 | n::ns,[]=>by simp[aJ]
 | n::ns,v::vs=>by
   rw[Qd,aJ,aJ];by_cases e:n=i
   .grind
   .rw[if_neg e,if_neg e,P2 i y ns vs]
    rfl
theorem Ji:∀(ps:List (Int×Bool)) (ns:AF) (vs:AG),ay ns (vs.map D.bl) (ps.map λp=>(p.1,D.bl p.2))=((ay ns vs ps).1,(ay ns vs ps).2.map D.bl)
 | [],ns,vs=>rfl
 | p::ps,ns,vs=>by
   rw[Qd,ay]
   have e:a_ ns (vs.map D.bl) p.1 (.bl p.2)=((a_ ns vs p.1 p.2).1,(a_ ns vs p.1 p.2).2.map .bl):=by
    unfold a_;by_cases h:p.1∈ns
    .rw[if_pos h,if_pos h,P2]
    grind
   rw[e];exact Ji ps _ _
theorem P3:∀l:AX,fv (l.map af)=some ((cI l).map λp=>(p.1,D.bl p.2))
 | []=>rfl
 | s::l=>by
   show fv (.tup _::_)=_;rw[fv,P3 l];rfl
theorem sN(b:W.length<=1000)(f:AU)(ρ:Ro)(e:f ρ=some (.lst ((au W).map af))):
 fB f ρ=some (.dct false ((ay [] [] (cI (au W))).1.map D.int) ((ay [] [] (cI (au W))).2.map D.bl)):=by
 have c:=P3 (au W);have d:=Ji (cI (au W)) [] []
 have a:((cI (au W)).map λp=>(p.1,D.bl p.2)).length<1000000:=by simp[cI,au];lia
 simp_all
def Jj:(au W).length=W.length:=by simp[au]
theorem x_:∀(ps:List (Int×a)) (ns:AF) (vs:List a),(ay ns vs ps).2.length<=vs.length+ps.length
 | [],_,vs=>by simp[ay]
 | p::ps,ns,vs=>by
   rw[ay];have:=x_ ps (a_ ns vs p.1 p.2).1 (a_ ns vs p.1 p.2).2
   have b:(a_ ns vs p.1 p.2).2.length<=vs.length+1:=by
    unfold a_
    split
    .rw[oi];lia
    .simp
   grind
theorem P4(a:vs.length<=500000)(c:W.length<=1000):
 ix (ns.map D.int,vs.map D.bl) (.dct false ((ay [] [] (cI (au W))).1.map D.int) ((ay [] [] (cI (au W))).2.map D.bl))=some ((bK ns vs (au W)).1.map D.int,(bK ns vs (au W)).2.map D.bl):=by
 have b:=x_ (cI (au W)) [] []
 have d:(cI (au W)).length=W.length:=by simp[cI,au]
 show(intsD _).bind _=_
 rw[l9,qd,l9,qd,if_pos (by
  show _<1000000
  grind)]
 have e:(ay [] [] (cI (au W))).1.zip ((ay [] [] (cI (au W))).2.map .bl)=((ay [] [] (cI (au W))).1.zip (ay [] [] (cI (au W))).2).map λp=>(p.1,D.bl p.2):=by
  rw[List.zip_map_right];rfl
 rw[e,Ji];rfl
def ZM(j:∀l∈L,eI l)(m:¬bY L K S)(h:dP L A wf)(d:(k,false)∈A)(e:(k,true)∈A):
 ∃l:aC,l∈A/\sJ L k l/\kR [.int (k:Int),aK A wf]=some (af l):=by
 have g:=gR (wf:=wf) h.nd d;have b:=x8 (W:=wf (k,false)) (k,true);have f:=xK (k,false);have c:aP (k,false)=(k,true):=rfl;rw[c]at f;have i:∀t,_↔Rch L _ t:=λt=>x5 j (h.all _ d);have hd:.tup [_,.bl false]=af (k,_):=rfl;by_cases a:(k,true)∈au (wf (k,false))
 .refine⟨(k,true),e,⟨rfl,λz=>m (.clash _ z ((i _).mp a))⟩,?_⟩
  simp [a]at b;rw[kR,Yj (by rfl)];simp[Gw,Yd,hd,f,g,b]
 .refine⟨(k,false),d,⟨rfl,λz=>a ((i _).mpr z)⟩,?_⟩
  simp [a]at b;rw[kR,Yj (by rfl)];simp[Gw,Yd,hd,f,g,b]
theorem P5{A:AX}{wf:aC->Wy}(a:(wf s).length<=1000):iw [bB (wf s)]=some ((au (wf s)).map af):=by
 unfold bB;rw[Up,if_pos (by rw[qf,Jj];show _<=1000000;lia)]
theorem P6(ns:AF)(vs:AG)(W:Wy)(d:W.length<=120):(bK ns vs (au W)).2.length<=vs.length+120:=by
 unfold bK;have c:=x_ ((ay [] [] (cI (au W))).1.zip (ay [] [] (cI (au W))).2) ns vs;have b:=x_ (cI (au W)) [] []
 have a:(cI (au W)).length=W.length:=by simp[cI,au]
 grind
theorem ZN(hL:∀l∈L,eI l)(hKl:K.length<=60)(hSl:S.length<=60)(nb:¬bY L K S)(hA:∀s:aC,s∈A↔s.1∈S\/s.1∈K)(h:dP L A wf):
 ∃(ns:AF) (vs:AG),lp ns vs/\mG L K S (bC ns vs)/\(∀k∈K,(bC ns vs k).isSome=true)/\xo [aK A wf,.lst (K.map nD),.lst (S.map nD)]=some (.dct false (ns.map D.int) (vs.map D.bl)):=by
 have hso:=mI (c:=.lst (S.map nD)) (B:=S) rfl (by lia);have hsl:=I_ S
 obtain⟨ρ1,e1,ns1,vs1,y4,t1,p1,l1,rfl⟩:=gJ (gt:=ai 4) (fb:=Gx) af (λpre ρ=>∃(ns:AF) (vs:AG) (y4:Option M.B),lp ns vs/\sI L pre (bC ns vs)/\vs.length<=120*pre.length/\
  ρ=[↑(aK A wf),↑(.lst (K.map nD)),↑(.lst (S.map nD)),some (.od false (ns.map D.int) (vs.map D.bl)),y4,none]) (aD S) []
  [↑(aK A wf),↑(.lst (K.map nD)),↑(.lst (S.map nD)),some (.od false [] []),none,none] ⟨[],[],none,⟨List.nodup_nil,rfl⟩,IQ L,by simp,rfl⟩ (by
   rintro q s r ρ e ⟨ns,vs,y4,t0,p0,l0,rfl⟩;rw[Qj]at e;have hsA:s∈A:=(hA s).mpr (.inl (mem_sayL.mp (by rw[e];simp)));have hW:=h.all s hsA;have hWl:=sL hW.nd hW.lt
   have hq:q.length<=120:=by
    grind
   have g:=gR (wf:=wf) h.nd hsA;have hlk:=P5 (A:=A) (wf:=wf) (s:=s) (by lia)
   have hdc:=sN (W:=wf s) (by lia) (lF (cF (Yb (b2 (aa 0) (aa 4) bx) ae) iw)) [↑(aK A wf),↑(.lst (K.map nD)),↑(.lst (S.map nD)),some (.od false (ns.map D.int) (vs.map D.bl)),↑(af s),none] (by
    simp_all)
   have hup:=P4 (W:=wf s) (ns:=ns) (vs:=vs) (by lia) (by lia);refine⟨[↑(aK A wf),↑(.lst (K.map nD)),↑(.lst (S.map nD)),some (.od false (ns.map D.int) (vs.map D.bl)),↑(af s),none],[↑(aK A wf),↑(.lst (K.map nD)),↑(.lst (S.map nD)),some (.od false ((bK ns vs (au (wf s))).1.map D.int) ((bK ns vs (au (wf s))).2.map D.bl)),↑(af s),none],rfl,?_,_,_,_,PZ t0 _,IR p0 (P0 hL hW t0),?_,rfl⟩
   .have hgo:fH 3 [↑(aK A wf),↑(.lst (K.map nD)),↑(.lst (S.map nD)),some (.od false (ns.map D.int) (vs.map D.bl)),↑(af s),none]=some (ns.map D.int,vs.map D.bl):=rfl
    rw[Gx,Nt,hgo,qd,hdc,qd,hup];rfl
   .have:=P6 ns vs (wf s) hWl
    grind)
 rw[Qj]at p1 l1;have ph:=Zv (K:=K) nb (T:=aD S) (λs=>mem_sayL) p1
 obtain⟨ρ2,e2,ns2,vs2,y5,t2,p2,k2,l2,rfl⟩:=gJ (gt:=ai 5) (fb:=xm) nD (λpre ρ=>∃(ns:AF) (vs:AG) (y5:Option M.B),lp ns vs/\mG L K S (bC ns vs)/\(∀k∈pre,(bC ns vs k).isSome=true)/\vs.length<=20000+120*pre.length/\
  ρ=[↑(aK A wf),↑(.lst (K.map nD)),↑(.lst (S.map nD)),some (.od false (ns.map D.int) (vs.map D.bl)),y4,y5]) K []
  [↑(aK A wf),↑(.lst (K.map nD)),↑(.lst (S.map nD)),some (.od false (ns1.map D.int) (vs1.map D.bl)),y4,none] ⟨ns1,vs1,none,t1,ph,λk hk=>(nomatch hk),by simp;lia,rfl⟩ (by
   rintro q k r ρ e ⟨ns,vs,y5,t0,p0,k0,l0,rfl⟩;rw[Qj]at e
   have hkK:k∈K:=by rw[e];simp
   have hq:q.length<=60:=by
    grind
   have hhas:dj true (.int (k:Int)) (.dct false (ns.map D.int) (vs.map D.bl))=some (decide ((k:Int)∈ns)!=true):=by simp_all
   by_cases hm:(k:Int)∈ns
   .refine⟨_,[↑(aK A wf),↑(.lst (K.map nD)),↑(.lst (S.map nD)),some (.od false (ns.map D.int) (vs.map D.bl)),y4,↑(nD k)],rfl,?_,ns,vs,_,t0,p0,λj hj=>?_,by simp;lia,rfl⟩
    .rw[wm hm]at hhas
     generalize aK A wf=ws,ns.map D.int=NN,vs.map D.bl=VV at *;simp[xm,hhas,-Co]
    .rcases qw hj with hj|hj
     .exact k0 j hj
     .rw[List.mem_singleton]at hj
      subst hj;unfold bC
      cases z:Yn ns vs (j:Int)with
      | some v=>rfl
      | none=>exact absurd hm ((j0 t0.len.symm).mp z)
   .have hnone:bC ns vs k=none:=(j0 t0.len.symm).mpr hm
    obtain⟨l,hlA,hfr,hfs⟩:=ZM hL nb h (k:=k) ((hA _).mpr (.inr hkK)) ((hA _).mpr (.inr hkK));have hW:=h.all l hlA;have hWl:=sL hW.nd hW.lt;have g:=gR (wf:=wf) h.nd hlA;have hlk:=P5 (A:=A) (wf:=wf) (s:=l) (by lia)
    have hdc:=sN (W:=wf l) (by lia) (lF (cF (Yb (b2 (aa 0) (cC (Yb (ab 5) (Yb (ab 0) ae)) kR) bx) ae) iw)) [↑(aK A wf),↑(.lst (K.map nD)),↑(.lst (S.map nD)),some (.od false (ns.map D.int) (vs.map D.bl)),y4,↑(nD k)] (by
     simp_all)
    have hup:=P4 (W:=wf l) (ns:=ns) (vs:=vs) (by lia) (by lia);obtain⟨s1,s2,s3⟩:=IS nb p0 hnone hfr (P0 hL hW t0);refine⟨_,[↑(aK A wf),↑(.lst (K.map nD)),↑(.lst (S.map nD)),some (.od false ((bK ns vs (au (wf l))).1.map D.int) ((bK ns vs (au (wf l))).2.map D.bl)),y4,↑(nD k)],rfl,?_,_,_,_,PZ t0 _,s1,λj hj=>?_,?_,rfl⟩
    .have hgo:fH 3 [↑(aK A wf),↑(.lst (K.map nD)),↑(.lst (S.map nD)),some (.od false (ns.map D.int) (vs.map D.bl)),y4,↑(nD k)]=some (ns.map D.int,vs.map D.bl):=rfl
     have hup2:gj 3 (fB (lF (cF (Yb (b2 (aa 0) (cC (Yb (ab 5) (Yb (ab 0) ae)) kR) bx) ae) iw))) [↑(aK A wf),↑(.lst (K.map nD)),↑(.lst (S.map nD)),some (.od false (ns.map D.int) (vs.map D.bl)),y4,↑(nD k)]=some (.nx [↑(aK A wf),↑(.lst (K.map nD)),↑(.lst (S.map nD)),some (.od false ((bK ns vs (au (wf l))).1.map D.int) ((bK ns vs (au (wf l))).2.map D.bl)),y4,↑(nD k)]):=by
      simp_all
     rw[wn hm]at hhas;generalize (bK ns vs (au (wf l))).1.map D.int=N2,(bK ns vs (au (wf l))).2.map D.bl=V2,aK A wf=ws,ns.map D.int=NN,vs.map D.bl=VV at *;simp[xm,hhas,hup2,-Co,-Nt]
    .grind
    .have:=P6 ns vs (wf l) hWl
     grind)
 rw[Qj]at k2;refine⟨ns2,vs2,t2,p2,k2,?_⟩;rw[xo,Yj (by rfl)];have h3:xn [↑(aK A wf),↑(.lst (K.map nD)),↑(.lst (S.map nD)),some (.od false (ns2.map D.int) (vs2.map D.bl)),y4,y5]=some (.rt (.dct false (ns2.map D.int) (vs2.map D.bl))):=rfl;generalize aK A wf=ws,ns2.map D.int=N2,vs2.map D.bl=V2,ns1.map D.int=N1,vs1.map D.bl=V1,(aD S).map af=SL,S.map nD=SS,K.map nD=KK at *;simp[Gy,Yd,hso,e1,e2,h3,-xn]
theorem ZQ(O:∀l∈L,eI l){K S:AE}(J:S.length<=60)(H:∀s:aC,s∈A↔s.1∈S\/s.1∈K)(h:dP L A wf)(b:lp ns vs)(N:k∈K)(hd:(bC ns vs k).isSome=true):
 ∃r:fN,r.1=k/\((∃s,eJ L S k s/\r.2=(some s.1,s.2))\/(loose L S k/\r.2=(none,(bC ns vs k).getD false)))/\mm [.int (k:Int),aK A wf,.lst (S.map nD),.dct false (ns.map D.int) (vs.map D.bl)]=some (cG r):=by
 have j:=mI (c:=.lst (S.map nD)) (B:=S) rfl (by lia);have i:(k,true)∈A:=(H _).mpr (.inr N);have y:∀s∈A,∀t,t∈au (wf s)↔Rch L s t:=λs a t=>x5 O (h.all s a);have m:D.tup [.int (k:Int),.bl true]=af (k,true):=rfl
 have f:=jv (gt:=ai 4) (fb:=xp) af (λB I=>(∀s∈B,¬eJ L S k s)/\∃G:Option M.B,I=[↑(.int (k:Int)),↑(aK A wf),↑(.lst (S.map nD)),↑(.dct false (ns.map D.int) (vs.map D.bl)),G]) (λd=>∃s,eJ L S k s/\d=cG (k,some s.1,s.2)) (aD S) []
  _ ⟨λs a=>(nomatch a),none,rfl⟩ (by
   rintro q s r I e ⟨x,G,rfl⟩;rw[Qj]at e;have u:s.1∈S:=mem_sayL.mp (by rw[e];simp);have g:s∈A:=(H s).mpr (.inl u);have p:=Ja h g i;have F:Yc (af s)=_:=rfl;refine⟨[↑(.int (k:Int)),↑(aK A wf),↑(.lst (S.map nD)),some _,↑(af s)],rfl,?_⟩;by_cases w:(k,true)∈au (wf s)/\s∈au (wf (k,true))
   .right
    refine⟨cG (k,some s.1,s.2),?_,s,⟨u,(y s g _).mp w.1,(y _ i _).mp w.2⟩,rfl⟩;have c:cG (k,some s.1,s.2)=.tup [.int (k:Int),.int (s.1:Int),.bl s.2]:=rfl;rw[c];simp only[w.1,w.2,decide_true,Bool.and_self]at p;rw[<-m]at p;simp[xp,p,F]
   .left
    have E:(decide ((k,true)∈au (wf s))&&decide (s∈au (wf (k,true))))=false:=by
     grind
    rw[E,<-m]at p;refine⟨[↑(.int (k:Int)),↑(aK A wf),↑(.lst (S.map nD)),some _,↑(af s)],?_,λt b=>?_,_,rfl⟩
    .simp[xp,p]
    .rcases qw b with b|b
     .exact x t b
     .rw[List.mem_singleton]at b
      rw[b]
      exact λz=>w ⟨(y s g _).mpr z.2.1,(y _ i _).mpr z.2.2⟩)
 rw[mm,Yj (by rfl)];rcases f with⟨Q,C,x,G,rfl⟩|⟨d,C,s,a,rfl⟩
 .rw[Qj]at x
  refine⟨(k,none,(bC ns vs k).getD false),rfl,.inr ⟨λs a=>x s (mem_sayL.mpr a.1) a,rfl⟩,?_⟩
  have o:cP (.dct false (ns.map D.int) (vs.map D.bl)) (.int (k:Int))=some (.bl ((bC ns vs k).getD false)):=by
   rw[kg,l9,qd]
   have:∀(ns:AF) (vs:AG),Yn ns (vs.map D.bl) (k:Int)=(Yn ns vs (k:Int)).map D.bl:=λns=>by
    induction ns with
    | nil=>intro vs;cases vs<;>rfl
    | cons n ns R=>
      intro vs
      cases vs with
      | nil=>rfl
      | cons v vs=>
        rw[Qd,Yn,Yn];grind
   rw[this];unfold bC at hd ⊢
   cases z:Yn ns vs (k:Int)with
   | none=>grind
   | some v=>rfl
  have c:cG (k,none,(bC ns vs k).getD false)=.tup [.int (k:Int),.non,.bl ((bC ns vs k).getD false)]:=rfl;rw[c];simp[Gz,Yd,j,C,o,-kg]
 .refine⟨(k,some s.1,s.2),rfl,.inl ⟨s,a,rfl⟩,?_⟩
  simp[Gz,Yd,j,C]
theorem Jk(h:gi (.ei l)):eI l:=⟨h.1,h.2.imp λ{a b} c z=>by
 rcases c with h|⟨_,e,d⟩
 .lia
 grind⟩
theorem P8:∀{B:AE},B.Nodup->(aD B).Nodup
 | [],_=>List.nodup_nil
 | b::B,h=>by
   rw[List.nodup_cons]at h;have e:aD (b::B)=_++_:=rfl;rw[e,List.nodup_append];refine⟨by simp,P8 h.2,λx c y a z=>?_⟩;grind
theorem P9(wf:aC->Wy):∀A:AX,l_ (A.map λs=>.tup [af s,bB (wf s)])=some (A.map λs=>(af s,bB (wf s)))
 | []=>rfl
 | s::A=>by
   rw[Qd,l_,P9 wf A];rfl
def Jl(rows:List fN):AN:=[.str "plan",.tup (rows.map cG)]
theorem ZR(hLl:L.length<=100)(hc:Yc c=some (hs.map aF))(hl:hs.length<=60)(C:st<=hs.length)(f:x9 L st hs.length):
 (∃d,Jd L (aB hs st true) (aB hs st false) d/\rF [ba L,c,.int st]=some (bS true d))\/
 (∃rows,gu L (aB hs st true) (aB hs st false) rows/\rF [ba L,c,.int st]=some (bS false (.tup (Jl rows)))):=by
 have hL:∀l∈L,eI l:=λl B=>Jk (f l B).1
 have V:∀l∈L,∀s∈l,s.1<60:=λl B s hs=>by have:=((f l B).2 s hs).2;lia
 have E:=mx hs hc (by lia) st C true;have R:=mx hs hc (by lia) st C false;simp only[aF,if_true,Qo,if_false]at E R;have O:(aB hs st true).Pairwise (·<·):=List.Pairwise.filter _ List.pairwise_lt_range;have Y:(aB hs st false).Pairwise (·<·):=List.Pairwise.filter _ List.pairwise_lt_range;have I:=xV (hs:=hs) (st:=st);have j:∀x,st<=x->x<hs.length->x∈aB hs st false\/x∈aB hs st true:=λx h1 h2=>sD h1 h2;have v:(aB hs st false).length<=60:=Qg (Qn _ _) (by grind);have Q:(aB hs st true).length<=60:=Qg (Qn _ _) (by grind);have hS60:∀x∈aB hs st false,x<60:=λx hx=>Qi (mF hx) hl;have hK60:∀x∈aB hs st true,x<60:=λx hx=>Qi (mF hx) hl;generalize aB hs st false=S,aB hs st true=K at *;have N:∀l∈L,∀s∈l,s.1∈S\/s.1∈K:=λl B s hs=>j s.1 ((f l B).2 s hs).1 ((f l B).2 s hs).2
 have H:(K++S).Nodup:=by
  rw[List.nodup_append];exact⟨O.imp λh=>qm h,Y.imp λh=>qm h,λx hx y hy z=>I y hy (by grind)⟩
 have G:=P8 H
 have q:∀s:aC,s∈aD (K++S)↔s.1∈S\/s.1∈K:=λs=>by
  rw[mem_sayL,List.mem_append];grind
 have hAl:(aD (K++S)).length<=1000:=by rw[I_,qz];lia
 have hw:∀s:aC,∃W:Wy,s.1<60->eL L s W/\md [ba L,af s]=some (bB W):=λs=>by
  by_cases U:s.1<60
  .obtain⟨W,h1,h2⟩:=Zx (L:=L) (by lia) V U
   grind
  .exact⟨[],λz=>absurd z U⟩
 obtain⟨b,T⟩:∃b:aC->Wy,∀s:aC,s.1<60->eL L s (b s)/\md [ba L,af s]=some (bB (b s)):=⟨λs=>Classical.choose (hw s),λs=>Classical.choose_spec (hw s)⟩
 have o:∀s∈aD (K++S),s.1<60:=λs hs=>by
  grind
 have hso:=mI (c:=.lst ((K++S).map nD)) (B:=K++S) rfl (by grind);generalize aD (K++S)=A at *
 have t:dP L A b:=⟨G,λs hs=>(T s (o s hs)).1⟩
 have J:cY (.lst (K.map nD)) (.lst (S.map nD))=some ((K++S).map nD):=by rw[M7 (by simp;lia),wt]
 have hcm:=dC (fe:=rD) (r:=[↑(ba L)]) (enc:=af) (λs=>.tup [af s,bB (b s)]) (l:=A) (λs hs=>by
  have:=(T s (o s hs)).2;generalize bB (b s)=w1,af s=ds,ba L=bk at *
  simp[rD,this])
 have hpt:E3 (.lst (A.map λs=>.tup [af s,bB (b s)]))=some (A.map λs=>(af s,bB (b s))):=P9 b A
 have hk1:(A.map λs=>(af s,bB (b s))).map (·.1)=A.map af:=by simp_all
 have hk2:(A.map λs=>(af s,bB (b s))).map (·.2)=A.map λs=>bB (b s):=by simp_all
 have hkn:(A.map kN).Nodup:=by
  rw[List.Nodup,List.pairwise_map];exact G.imp λhab e=>hab (IU e)
 have hst0:Yd 8 [ba L,c,.int (st:Int)]=[↑(ba L),↑c,↑(.int st),none,none,none,none,none]:=rfl;rw[rF,Yj (by rfl),hst0]
 have F:iv 5 (lF (bq (b1 (cC (Yb (lF (b2 (aa 3) (aa 4) cY)) ae) Yu) Yc) [none,some 0] (ai 0) tY (rD))) [↑(ba L),↑c,↑(.int st),↑(.lst (K.map nD)),↑(.lst (S.map nD)),none,none,none] =
  some (.nx [↑(ba L),↑c,↑(.int st),↑(.lst (K.map nD)),↑(.lst (S.map nD)),some (.od true (A.map af) (A.map λs=>bB (b s))),none,none]):=by
  have u:(lF (bq (b1 (cC (Yb (lF (b2 (aa 3) (aa 4) cY)) ae) Yu) Yc) [none,some 0] (ai 0) tY (rD))) [↑(ba L),↑c,↑(.int st),↑(.lst (K.map nD)),↑(.lst (S.map nD)),none,none,none]=some (.lst (A.map λs=>.tup [af s,bB (b s)])):=by
   generalize (A.map λs=>D.tup [af s,bB (b s)])=A2,A.map af=A1,(K++S).map nD=KS,K.map nD=KK,S.map nD=SS,ba L=bk at *;simp[J,hso,ak,hcm]
  rw[Nk,u,qd,hpt,qd,hk1,mH,qd,if_pos ⟨by rw[qf];show A.length<1000000;lia,hkn⟩,hk2];rfl
 have pre:xq [↑(ba L),↑c,↑(.int st),none,none,none,none,none]=rE [↑(ba L),↑c,↑(.int st),↑(.lst (K.map nD)),↑(.lst (S.map nD)),some (.od true (A.map af) (A.map λs=>bB (b s))),none,none]:=by
  generalize (A.map λs=>bB (b s))=A2,A.map af=A1,K.map nD=KK,S.map nD=SS,ba L=bk at *;simp[xq,E,R,F,-rE,-Nk]
 rw[pre];have hsp:=ZL hL f Q v j q hAl t;have hfz:∀y6 y7:Option M.B,frz [5] [↑(ba L),↑c,↑(.int st),↑(.lst (K.map nD)),↑(.lst (S.map nD)),some (.od true (A.map af) (A.map λs=>bB (b s))),y6,y7]=[↑(ba L),↑c,↑(.int st),↑(.lst (K.map nD)),↑(.lst (S.map nD)),↑(aK A b),y6,y7]:=λ_ _=>rfl
 have h3:∀d,ml [ba L,aK A b,.lst (K.map nD),.lst (S.map nD)]=some d->rE [↑(ba L),↑c,↑(.int st),↑(.lst (K.map nD)),↑(.lst (S.map nD)),some (.od true (A.map af) (A.map λs=>bB (b s))),none,none]=GB [↑(ba L),↑c,↑(.int st),↑(.lst (K.map nD)),↑(.lst (S.map nD)),↑(aK A b),↑d,none]:=λd hd=>by
  simp_all
 rcases hsp with⟨d,hd,e⟩|⟨nb,e⟩
 .refine .inl ⟨d,hd,?_⟩
  rw[h3 d e]
  obtain⟨l,rfl⟩:∃l,d=.tup l:=by
   rcases hd with hd|⟨_,hd⟩
   .exact jx hd
   grind
  generalize aK A b=ws at *;simp[bS]
 .obtain⟨p,n,t0,p2,kd,etr⟩:=ZN hL Q v nb q t
  have m:∀k,∃r:fN,k∈K->r.1=k/\((∃s,eJ L S k s/\r.2=(some s.1,s.2))\/(loose L S k/\r.2=(none,(bC p n k).getD false)))/\mm [.int (k:Int),aK A b,.lst (S.map nD),.dct false (p.map D.int) (n.map D.bl)]=some (cG r):=λk=>by
   by_cases i:k∈K
   .obtain⟨r,hr⟩:=ZQ hL v q t t0 i (kd k i)
    grind
   simp_all
  obtain⟨g,w⟩:∃g:Nat->fN,∀k∈K,(g k).1=k/\((∃s,eJ L S k s/\(g k).2=(some s.1,s.2))\/(loose L S k/\(g k).2=(none,(bC p n k).getD false)))/\mm [.int (k:Int),aK A b,.lst (S.map nD),.dct false (p.map D.int) (n.map D.bl)]=some (cG (g k)):=⟨λk=>Classical.choose (m k),λk=>Classical.choose_spec (m k)⟩
  refine .inr ⟨K.map g,Zt hL N I nb (τ:=λk=>(bC p n k).getD false) ⟨?_,λr hr=>?_⟩ (IT p2 kd),?_⟩
  .rw[Qf]
   exact(Qq λk i=>(w k i).1).trans (List.map_id K)
  .obtain⟨k,i,rfl⟩:=qy hr
   obtain⟨g1,g2,_⟩:=w k i;rw[g1];exact g2
  .rw[h3 .non e]
   have Z:=dC (fe:=GA) (r:=[↑(aK A b),↑(.lst (S.map nD)),↑(.dct false (p.map D.int) (n.map D.bl))]) (enc:=nD) (λk=>cG (g k)) (l:=K) (λk i=>by
    have:=(w k i).2.2;generalize aK A b=ws,cG (g k)=pr,S.map nD=SS,p.map D.int=NN,n.map D.bl=VV at *
    simp[GA,this])
   have e5:(K.map λk=>cG (g k))=(K.map g).map cG:=by simp
   rw[e5]at Z;unfold Jl;generalize (K.map g).map cG=RW,aK A b=ws,S.map nD=SS,K.map nD=KK,p.map D.int=NN,n.map D.bl=VV,ba L=bk at *;simp[etr,ak,Z,bS]
def cj(b:Bool):D:=.str (.ofString (if b then "keeper" else "storm"))
abbrev dQ(k:Kd)(R:List Rl)(H ev:AG):D:=aW (Yl k R) (.tup (H.map cj)) (.lst (ev.map .bl))
@[simp] theorem P_(b h x:D):cR "Watch" "book" (aW b h x)=some b:=nr rfl
@[simp] theorem Qk(b h x:D):cR "Watch" "hands" (aW b h x)=some h:=nr rfl
@[simp] theorem Qt(b h x:D):cR "Watch" "truths" (aW b h x)=some x:=nr rfl
def iL(m:Str)(c:m∉qO)(a:AN->Option D)(b h x:D):cA "Watch" m a (aW b h x)=a [aW b h x]:=if_pos ⟨rfl,c⟩
def sO(H ev:AG):D:=match H[ev.length]? with
 | some b=>cj b
 | none=>.non
def ya{H ev:AG}(h:ev.length<H.length):sO H ev=cj (H[ev.length]):=by
 unfold sO;rw[qr h]
theorem Qu{H ev:AG}(h:¬ev.length<H.length):sO H ev=.non:=by
 unfold sO;rw[List.getElem?_eq_none (by lia)]
theorem Jm{k:Kd}{R:List Rl}{H ev:AG}(h:ev.length<=H.length):gN [dQ k R H ev]=some (sO H ev):=by
 rw[gN,Yj (by rfl)];have c:Yd 1 [dQ k R H ev]=[some _]:=rfl;rw[c];by_cases e:ev.length=H.length
 .rw[Qu (by lia)]
  simp[GY,e]
 .have a:ev.length<H.length:=by lia
  rw[ya a]
  have d:¬(ev.length=(H.length:Int)):=by lia
  have b:bE (H.map cj) ev.length=some (cj (H[ev.length])):=by
   rw[gK,l8 a];rfl
  simp[GY,d,b]
def fP(k:Kd)(n:Nat)(r:Rl):Prop:=In k n r/\gi r
def dy(k:Kd)(R:List Rl)(H ev:AG):D:=if ev.length<H.length then .non else .str (.ofString (if brk k ev R=[]then "keeper" else "storm"))
def Jn(k:Kd)(R:List Rl)(H ev:AG):h_ (dy k R H ev)=true:=by
 unfold dy
 split<;>rfl
theorem Qv{k:Kd}{R:List Rl}{H ev:AG}(h:ev.length<=H.length)(g:∀r∈R,fP k H.length r/\sz r<=9999):kY [dQ k R H ev]=some (dy k R H ev):=by
 rw[kY,Yj (by rfl)];have c:Yd 1 [dQ k R H ev]=[↑(dQ k R H ev)]:=rfl;rw[c];have a:=iL "turn" (by decide) gN (Yl k R) (.tup (H.map cj)) (.lst (ev.map D.bl));rw[(Jm (k:=k) (R:=R) h)]at a;by_cases b:ev.length<H.length
 .rw[ya b]at a
  have e:bU true (cj H[ev.length]) .non=some true:=rfl;simp[xI,a,e,dy,b]
 .rw[Qu b]at a
  have d:=Hn (c:=.lst (ev.map D.bl)) rfl (λr f=>by rw[show ev.length=H.length by lia];exact(g r f).1.1);by_cases hb:brk k ev R=[]
  .simp[xI,a,d,dy,b,hb]
  .simp[xI,a,d,dy,b,hb]
def jy(k:Kd):Nat->AG->List Rl->List Rl
 | _,[],R=>R
 | i,b::ev,R=>jy k (i+1) ev (R.filterMap (bD k i b))
def Jo{k:Kd}{n b:Nat}{g:Bool}{r q:Rl}(c:fP k n r)(h:bD k b g r=some q):fP k n q/\sz q<=sz r:=by
 have a:at' (.replicate (b+1) g) b=g:=by simp[at']
 obtain⟨_,_,_,d,e,f⟩:=vV c.1 c.2 (by rwa [a]);exact⟨⟨d,e⟩,f⟩
def ZU{k:Kd}{n b:Nat}{g:Bool}{R:List Rl}(c:∀r∈R,fP k n r/\sz r<=9999):∀r∈R.filterMap (bD k b g),fP k n r/\sz r<=9999:=λq f=>by
 obtain⟨r,a,h⟩:=List.mem_filterMap.mp f;obtain⟨d,e⟩:=Jo (c r a).1 h;exact⟨d,Qg e (c r a).2⟩
theorem Jp(k:Kd):∀(ev:AG) (i:Nat) (R:List Rl),(jy k i ev R).length<=R.length
 | [],_,_=>qv _
 | _::ev,i,R=>Qg (Jp k ev _ _) (List.length_filterMap_le _ _)
def mJ(i:Nat):AG->AN
 | []=>[]
 | b::ev=>.tup [.int i,.bl b]::mJ (i+1) ev
theorem sP:∀(ev:AG) (i:Nat),mJ i ev=(List.range ev.length).map λj:Nat=>D.tup [.int ((i:Int)+(j:Int)),.bl (ev.getD j false)]
 | [],_=>rfl
 | b::ev,i=>by
   rw[mJ,qt,List.range_succ_eq_map,Qd,Qf,sP ev _]
   congr 1
   refine Qq λj _=>?_
   have a:((i+1:Nat))+(j:Int)=i+((j+1)):=by lia
   rw[a];rfl
def Jq(ev:AG):fi (ev.map D.bl)=mJ 0 ev:=by
 rw[EG .bl false ev,sP ev 0];simp
theorem Qw{k:Kd}{n:Nat}{y0:AQ}:∀(ev:AG) (i:Nat) (R:List Rl) (a c:AQ),(∀r∈R,fP k n r/\sz r<=9999)->∃d g,M.forM (ew 2 3) xJ (mJ i ev) [y0,↑(Yl k R),a,c]=some (.nx [y0,↑(Yl k (jy k i ev R)),d,g])
 | [],i,R,a,c,_=>⟨a,c,rfl⟩
 | b::ev,i,R,a,c,h=>by
   obtain⟨d,g,e⟩:=Qw ev _ _ _ _ (ZU h);refine⟨d,g,?_⟩;rw[mJ,M.forM];have j:ew 2 3 (.tup [.int i,.bl b]) [y0,_,a,c]=some [y0,↑(Yl k R),_,_]:=rfl
   have l:xJ [y0,↑(Yl k R),↑(.int i),↑(.bl b)]=some (.nx [y0,↑(Yl k (R.filterMap (bD k i b))),↑(.int i),↑(.bl b)]):=by
    simp[xJ,O5 (λr f=>(h r f).1.1) (λr f=>Qg (h r f).2 (by lia)) i b]
   rwa [j,qd,l]
def sQ{k:Kd}{n:Nat}{R:List Rl}(H ev:AG)(b:∀r∈R,fP k n r/\sz r<=9999):jo [dQ k R H ev]=some (Yl k (jy k 0 ev R)):=by
 rw[jo,Yj (by rfl)];have a:Yd 4 [dQ k R H ev]=[_,none,none,none]:=rfl;rw[a];obtain⟨d,c,e⟩:=Qw (y0:=some (.sh (dQ k R H ev))) ev 0 R none none b;rw[<-Jq]at e;simp[OH,e]
def ZV(b:Bool):GR [cj b]=some (.bl true):=by
 cases b<;>rfl
theorem Jr{k:Kd}{m:Nat}{R:List Rl}{H:AG}(s:H.length<=60)(p:R.length*m<4000)(d:∀r∈R,fP k H.length r/\sz r+1<=m){h:D}(g:h=.lst (H.map cj)\/h=.tup (H.map cj)):kW [Yl k R,h]=some .non:=by
 rw[kW,Yj (by rfl)];have e:Yd 2 [Yl k R,h]=[_,some _]:=rfl;rw[e];obtain⟨l,_,o,t⟩:=YQ (by lia) (λr c=>⟨(d r c).1.1,(d r c).2⟩) p
 have f:=dC (fe:=GS) (r:=[]) (enc:=cj) (λ_=>.bl true) (l:=H) (λb _=>by
  have:=ZV b
  simp[GS,this])
 have a:aV [h]=some (.int H.length):=by rcases g with rfl|rfl<;>simp
 have n:=dC (fe:=GU) (r:=[↑h]) (enc:=nD) (λ_=>.bl false) (λb t=>by
  have:b<H.length:=by
   obtain⟨r,c,q⟩:=(o b).mp t;exact qH (d r c).1.1 b q
  simp[GU,a]
  lia)
 have i:¬((60:Int)<H.length):=by lia
 have j:=M3 (λ_=>true) H;rcases g with rfl|rfl
 .simp[GV,a,i,ak,f,n,t,j,b1]
 .simp[GV,a,i,ak,f,n,t,j,b1]
theorem sR(f:∀l∈L,eI l)(h:eM L s t r):Rch L s t:=by
 have j:=Pl h.ok
 have a:∀i,i+1<r.length->_:=λi c=>by
  have g:=h.ok;unfold iD at g;rw[Qe,List.all_eq_true]at g;exact wq (g.2 i (List.mem_range.mpr (by lia)))
 have b:∀i,i<_->Rch L s (eT r i):=λi=>by
  induction i with
  | zero=>
    intro _;rw[h.fst];exact .refl
  | succ i d=>
    intro c;exact .step (d (by lia)) ((IZ f).mp (a i c))
 have g:=b (r.length-1) (by lia);have e:=h.lst;unfold k9 at e
 rwa [e]at g
def ZX(b:∀l∈L,eI l)(h:Jd L K S d):bY L K S:=by
 rcases h with h|⟨h,_⟩
 .cases h with
  | clash c a=>exact .clash _ (sR b c) (sR b a)
  | cross c a e f=>exact .cross _ _ c a e (sR b f)
  | late c a e f g=>exact .late _ _ c a e (sR b f) (sR b g)
 .exact .broken h
def lq:Rl->AX
 | .ei l=>l
 | _=>[]
def toS:Rl->Sm
 | .su b o=>(λx=>decide (x∈b),o)
 | _=>(λ_=>false,false)
def fQ:Rl->bL
 | .im b h=>(b,h)
 | _=>([],none)
def Dr(k:Kd)(st n:Nat)(r:Rl):Prop:=In k n r/\gi r/\∀x∈bV r,st<=x
def iM:Kd->List Rl->AE->AE->Bool->Prop
 | .e,R,K,S,true=>bY (R.map lq) K S
 | .e,R,K,S,false=>∃a,gu (R.map lq) K S a
 | .s,R,_,S,true=>∃W,iH (R.map toS) S W
 | .s,R,K,S,false=>∃a,ju (R.map toS) K S a
 | _,R,K,S,true=>∃b d c,la (R.map fQ) K S b d c=true
 | _,R,K,S,false=>∃f a,eU (R.map fQ) K S f a
theorem Js(h:p<R.length):rg R p∈R:=by
 unfold rg;grind
theorem Jt(h:∀r∈R,Dr .e st n r):x9 (R.map lq) st n/\Yl .e R=ba (R.map lq):=by
 have i:∀r∈R,r=.ei (lq r):=λr a=>by
  cases r with
  | ei l=>rfl
  | su b o=>cases (h _ a).1.1
  | im b o=>rcases(h _ a).1.1 with z|z<;>cases z
 refine⟨λl g=>?_,?_⟩
 .obtain⟨r,a,rfl⟩:=qy g
  obtain⟨f,c,d⟩:=h r a;rw[i r a]at f c d;exact⟨c,λs e=>⟨d s.1 (List.mem_map.mpr ⟨s,e,rfl⟩),f.2 s e⟩⟩
 .show D.tup _=.tup _
  rw[Qf,Qq λr a=>show aL r=(mz ∘ lq) r by
   grind]
theorem Ju(hn:n<=60)(h:∀r∈R,Dr .s st n r):Pw (R.map toS) st n/\Yl .s R=xU (R.map toS):=by
 refine⟨λq i=>?_,?_⟩
 .obtain⟨r,e,rfl⟩:=qy i
  obtain⟨a,g,f⟩:=h r e
  cases r with
  | ei l=>cases a.1
  | im b o=>rcases a.1 with z|z<;>cases z
  | su b o=>
    intro x _ d;have c:=wq d;exact⟨f x c,a.2 x c⟩
 .show D.tup _=.tup [br .s,_]
  rw[Qf,Qq λr e=>show aL r=(bg ∘ toS) r by
   obtain⟨a,g,f⟩:=h r e
   cases r with
   | ei l=>cases a.1
   | im b o=>rcases a.1 with z|z<;>cases z
   | su b o=>exact rY g (λx d=>by have:=a.2 x d;lia) o]
theorem sS(j:k=.i\/k=.n){R:List Rl}(h:∀r∈R,Dr k st n r):xY (R.map fQ) st n/\R.map aL=(R.map fQ).map dX/\R.map k7=R:=by
 have c:∀r∈R,r=.im (fQ r).1 (fQ r).2:=λr c=>by
  cases r with
  | ei l=>rcases j with rfl|rfl<;>cases (h _ c).1.1
  | su b o=>rcases j with rfl|rfl<;>cases (h _ c).1.1
  | im b o=>rfl
 refine⟨λq m=>?_,?_,?_⟩
 .obtain⟨r,a,rfl⟩:=qy m
  obtain⟨g,i,e⟩:=h r a;rw[c r a]at g i e;generalize fQ r=q at *;obtain⟨b,o⟩:=q;refine⟨i,λx d=>⟨e x ?_,g.2.1 x d⟩,λx d=>⟨e x ?_,g.2.2 x d⟩⟩
  .cases o with
   | none=>exact d
   | some y=>exact List.mem_append.mpr (.inl d)
  .have f:=d
   subst f;exact List.mem_append.mpr (.inr (by simp))
 .rw[Qf,Qq λr a=>show aL r=(dX ∘ fQ) r by
   conv=>lhs;rw[c r a]
   rfl]
 .conv=>rhs;rw[<-List.map_id R]
  exact Qq λr a=>by
   rw[c r a];rfl
theorem Jv(v:Yc c=some (hs.map aF))(u:hs.length<=60)(j:st<=hs.length)(C:R.length<=60)(h:∀r∈R,Dr k st hs.length r):
 ∃(w:Bool) (n:D),xD [Yl k R,c,.int st]=some (bS w n)/\iM k R (aB hs st true) (aB hs st false) w:=by
 have q:_->∃(w:Bool) (n:D),kT [Yl .i R,c,_]=some _/\iM .i R _ _ w:=λE=>by
  obtain⟨m,s,_⟩:=sS E h
  have e:Yl .i R=bf (R.map fQ):=by
   show D.tup _=_;rw[s];rfl
  rw[e];rcases Zs v u j m with⟨b,y,F,g,z⟩|⟨f,a,g,z⟩
  .exact⟨true,_,z,b,y,F,g.1⟩
  .exact⟨false,_,z,f,a,g⟩
 rw[xD,Yj (by rfl)];have o:Yd 3 [Yl k R,c,.int st]=[some _,some _,some _]:=rfl;have i:Yc (Yl k R)=_:=rfl;rw[o]
 cases k with
 | e=>
   obtain⟨m,s⟩:=Jt h;have A:=λl B=>Jk (m l B).1;have p:=ZR (by rw[qf];lia) v u j m;rw[<-s]at p;rcases p with⟨d,g,z⟩|⟨a,g,z⟩
   .refine⟨true,d,?_,ZX A g⟩
    simp[kU,i,z]
   .refine⟨false,.tup (Jl a),?_,a,g⟩
    simp[kU,i,z]
 | s=>
   obtain⟨m,s⟩:=Ju u h;have p:=Zl (by rw[qf];lia) v u j m;rw[<-s]at p;rcases p with⟨W,g,z⟩|⟨a,g,z⟩
   .refine⟨true,.tup [.str "odd",.tup ((fl 60 W).map nD)],?_,W,g⟩
    simp[kU,z]
   .refine⟨false,.tup [.str "sums",.tup (a.map a6)],?_,a,g⟩
    simp[kU,z]
 | i=>
   obtain⟨w,n,z,g⟩:=q (.inl rfl);refine⟨w,n,?_,g⟩;simp[kU,i,z]
 | n=>
   obtain⟨w,n,z,g⟩:=q (.inr rfl)
   have t:=YY λr x=>⟨(h r x).1,(h r x).2.1⟩
   rw[(sS (.inr rfl) h).2.2]at t;have t:_=some (Yl .i R):=t;refine⟨w,n,?_,by cases w<;>exact g⟩;simp[kU,i,t,z]
def Jw(i:Yc c=some (hs.map aF))(j:hs.length<=60)(d:st<=hs.length)(b:R.length<=60)(h:∀r∈R,Dr k st hs.length r):
 ∃w:Bool,gm [Yl k R,c,.int st]=some (aF (!w))/\iM k R (aB hs st true) (aB hs st false) w:=by
 obtain⟨w,e,z,g⟩:=Jv i j d b h;refine⟨w,?_,g⟩;rw[gm,Yj (by rfl)];have a:Yd 4 [Yl k R,c,.int st]=[_,_,_,none]:=rfl;rw[a]
 have f:bS w e=.tup [aF (!w),e]:=by
  cases w<;>rfl
 rw[f]at z;simp[OE,z,f7,hV,hX]
def gv(Hd:AG->Prop)(hs:AG):Nat->AG->Prop
 | 0,ev=>Hd ev
 | m+1,ev=>if at' hs ev.length=true then ∃b,gv Hd hs m (ev++[b])else ∀b,gv Hd hs m (ev++[b])
def fD(hs:AG)(w:Bool)(f:AG->Bool)(n:Nat)(e:AG):Prop:=∀i,n<=i->i<e.length->at' hs i=w->at' e i=f (e.take i)
def Jx(ev:AG)(b:Bool)(t:AG):at' (ev++b::t) ev.length=b:=by simp[at']
theorem Qx{hs:AG}{w:Bool}{f:AG->Bool}{ev t:AG}{b:Bool}(c:at' hs ev.length=w->b=f ev)(h:fD hs w f (ev.length+1) (ev++b::t)):fD hs w f ev.length (ev++b::t):=λi g d a=>by
 by_cases e:i=ev.length
 .subst e
  rw[Jx,List.take_left']
  .exact c a
  .rfl
 .exact h i (by lia) d a
theorem Qy{g:AG->Prop}{hs:AG}{f:AG->Bool}:∀(m:Nat) (ev:AG),(∀t:AG,t.length=m->fD hs true f ev.length (ev++t)->g (ev++t))->gv g hs m ev
 | 0,ev,h=>by
   have:=h [] rfl (λi n k _=>by simp at k;lia);show g ev;simpa using this
 | m+1,ev,h=>by
   have a:=λb l=>Qy m _ λt j d=>by
    have e:ev++[b]++t=ev++b::t:=by simp
    rw[e]at d ⊢;rw[qz]at d;exact h _ (by simp[j]) (Qx l d)
   unfold gv;by_cases c:at' hs ev.length=true
   .rw[if_pos c]
    exact⟨f ev,a _ λ_=>rfl⟩
   .rw[if_neg c]
    exact λb=>a b λz=>absurd z c
theorem sT{g:AG->Prop}{hs:AG}{f:AG->Bool}:∀(m:Nat) (ev:AG),(∀t:AG,t.length=m->fD hs false f ev.length (ev++t)->¬g (ev++t))->¬gv g hs m ev
 | 0,ev,h=>λz=>by
   have:=h [] rfl (λi n k _=>by simp at k;lia);have z:g ev:=z;exact this (by simpa using z)
 | m+1,ev,h=>by
   have a:=λb l=>sT m _ λt j d=>by
    have e:ev++[b]++t=ev++b::t:=by simp
    rw[e]at d ⊢;rw[qz]at d;exact h _ (by simp[j]) (Qx l d)
   unfold gv;by_cases c:at' hs ev.length=true
   .rw[if_pos c]
    intro ⟨b,z⟩;exact a b (λq=>by rw[c]at q;cases q) z
   .rw[if_neg c]
    exact λz=>a _ (λ_=>rfl) (z _)
theorem Qz{H H':AG->Prop}{hs:AG}:∀(m:Nat) (ev:AG),(∀t:AG,t.length=m->(H (ev++t)↔H' (ev++t)))->(gv H hs m ev↔gv H' hs m ev)
 | 0,ev,h=>by
   have:=h [] rfl;simpa [gv]using this
 | m+1,ev,h=>by
   have a:∀b,gv H hs m (ev++[b])↔_:=λb=>Qz m _ λt c=>by
    have:=h (b::t) (by simp[c]);simpa using this
   unfold gv;simp [a]
def mem_ofH{hs:AG}{st x:Nat}{b:Bool}:x∈aB hs st b↔x<hs.length/\st<=x/\at' hs x=b:=by
 unfold aB at';simp[Ql]
theorem iN{hs:AG}{w:Bool}{f:AG->Bool}{st:Nat}{e:AG}(g:e.length=hs.length)(h:fD hs w f st e){x:Nat}(b:x∈aB hs st w):at' e x=f (e.take x)/\(e.take x).length=x/\∀y,y<x->at' (e.take x) y=at' e y:=by
 obtain⟨i,d,a⟩:=mem_ofH.mp b;refine⟨h x d (by lia) a,by rw[List.length_take];lia,λy c=>?_⟩;unfold at';simp[c]
theorem QA{b:Type}(key:b->Nat){r:b}:∀{rows:List b},(rows.map key).Nodup->r∈rows->rows.find? (λq=>key q==key r)=some r
 | [],_,h=>nomatch h
 | a::rows,c,h=>by
   rw[Qd,List.nodup_cons]at c;rw[List.find?_cons];by_cases e:key a=key r
   .rcases qu h with rfl|h
    .simp
    .exact absurd (e ▸ Qs h) c.1
   .rcases qu h with rfl|h
    .exact absurd rfl e
    .have d:(key a==key r)=false:=by simp[e]
     rw[d];exact QA key c.2 h
def iO{a:Type}(c:a->Nat)(b:a->AG->Bool)(rows:List a)(ev:AG):Bool:=match rows.find? (λr=>c r==ev.length)with
 | some r=>b r ev
 | none=>false
def Jy(hs:AG)(st:Nat)(b:Bool):(aB hs st b).Nodup:=.sublist List.filter_sublist List.nodup_range
def QB{hs:AG}{st:Nat}{b:Type}{key:b->Nat}{dv:b->AG->Bool}{rows:List b}(d:rows.map key=aB hs st true)(k:∀r∈rows,∀e c:AG,(∀y,y<key r->at' e y=at' c y)->dv r e=dv r c){e:AG}(j:e.length=hs.length)(i:fD hs true (iO key dv rows) st e):∀r∈rows,at' e (key r)=dv r e:=λr a=>by
 have l:key r∈aB hs st true:=by rw[<-d];exact Qs a
 obtain⟨h,g,f⟩:=iN j i l;rw[h];unfold iO;rw[g,QA key (by rw[d];exact Jy ..) a];exact k r a _ _ f
def gy(r:fN)(ev:AG):Bool:=match r.2.1 with
 | none=>r.2.2
 | some x=>at' ev x==r.2.2
def endB(ev:AG)(e:lb):Bool:=match e.1 with
 | none=>e.2
 | some x=>at' ev x==e.2
def Jz{rows:List fN}{ev:AG}(a:∀r∈rows,at' ev r.1=gy r ev)(s:aC):(at' ev s.1==s.2)=endB ev (dY rows s):=by
 unfold dY
 cases b:rows.find? _ with
 | none=>rfl
 | some r=>
   have c:=List.find?_some b;simp at c;rw[<-c,a r (List.mem_of_find?_eq_some b)];unfold gy endB;dsimp only
   cases r.2.1 with
   | none=>cases r.2.2<;>cases s.2<;>rfl
   | some x=>
     dsimp only;cases at' ev x<;>cases r.2.2<;>cases s.2<;>rfl
def JA{rows:List fN}{ev:AG}(b:∀r∈rows,at' ev r.1=gy r ev){l:AX}(a:lg (l.map (dY rows))=true):so .e ev (.ei l)=true:=by
 show(l.any _)=true;unfold lg at a;rw[List.any_eq_true]at a ⊢;obtain⟨e,c,a⟩:=a;obtain⟨s,g,rfl⟩:=qy c;rw[Bool.or_eq_true]at a;rcases a with a|a
 .have h:=wq a
  refine⟨s,g,?_⟩;rw[Jz b s,h];rfl
 .have h:=wq a
  obtain⟨t,d,e⟩:=qy h
  cases f:(at' ev s.1==s.2)with
  | true=>exact⟨s,g,f⟩
  | false=>
    refine⟨t,d,?_⟩;rw[Jz b s]at f;rw[Jz b t,e]
    revert f
    unfold endB mC;dsimp only
    cases (dY _ s).1 with
    | none=>cases (dY _ s).2<;>simp
    | some x=>cases at' ev x<;>cases (dY _ s).2<;>simp
def lr(r:cH)(ev:AG):Bool:=od r.2.1 (at' ev)!=r.2.2
theorem QC(F:Nat->AH)(m:AE):∀l:AE,od l (λx=>od m (λy=>F x y))=od m (λy=>od l (λx=>F x y))
 | []=>by
   rw[xQ,mE];exact λ_ _=>rfl
 | a::l=>by
   rw[gq,QC F m l,<-xR];exact gQ λy _=>(gq a l λx=>F x y).symm
def sU(b:Bool)(l:AE)(f:AH):(b&&od l f)=od l (λy=>b&&f y):=by
 cases b with
 | true=>rfl
 | false=>exact(mE λ_ _=>rfl).symm
def JB(T E:AH)(F:Nat->AH):xr T (λx=>xr (F x) E)=xr E (λy=>xr T (λx=>F x y)):=by
 unfold xr;have a:od (.range 60) (λy=>E y&&od (.range 60) λx=>T x&&F x y)=_:=gQ λx _=>sU _ _ _;rw[gQ λx _=>sU _ _ _,a,QC]
 exact gQ λy _=>gQ λx _=>by cases T x<;>cases F x y<;>cases E y<;>rfl
theorem JC{rows:List cH}{e:AG}(b:∀r∈rows,r.1<60/\r.2.1.Pairwise (·<·)/\∀y∈r.2.1,y<r.1)(c:∀r∈rows,at' e r.1=lr r e){T:AH}{o:Bool}(h:kp rows T o):xr T (at' e)=o:=by
 have f:∀x,x<60->at' e x=(xr (cu _ x).1 _ != (cu _ x).2):=λx f=>by
  unfold cu;by_cases a:x∈rows.map (·.1)
  .obtain⟨g,l⟩:=Ip a
   obtain⟨p,m,i⟩:=b _ g;have:=c _ g;rw[l]at this;rw[this,xS _ (m.imp qm) λy d=>Nat.lt_trans (i y d) p];rfl
  .rw[xT a,xS _ (by simp) (by simpa using f),gq]
   cases at' e x<;>rfl
 have n:_=xr T (λx=>_ != _):=lh λx h=>by rw[<-f x h]
 have k:xr T (λx=>xr (cu rows x).1 (at' e)!=(cu rows x).2)=(xr T (λx=>xr (cu rows x).1 (at' e))!=xr T (λx=>(cu rows x).2)):=by
  unfold xr;rw[<-xR]
  exact gQ λx _=>by
   cases T x
   .rfl
   .simp
 rw[n,k,JB,h.2]
 have j:xr _ _=_:=mE λy d=>by
  show(at' e y&&xr T λx=>(cu rows x).1 y)=_;rw[h.1 y (Qb d)];cases at' e y<;>rfl
 rw[j];cases o<;>rfl
def sV{e:AG}{b:AE}{o:Bool}(c:b.Pairwise (·<·))(a:∀x∈b,x<60):so .s e (.su b o)=(xr (λx=>decide (x∈b)) (at' e)==o):=by
 rw[xS _ (c.imp qm) a];rfl
def lu(first:AE)(rows:List jr)(w:Bool)(ev:AG):Bool:=(decide (ev.length∈first)&&rows.all λr=>decide (ev.length<=r.1)||((at' ev r.1==w)||decide (ev.length∈r.2)))==w
theorem ZY{hs:AG}{st:Nat}{first:AE}{rows:List jr}{w:Bool}{e:AG}(f:rows.map (·.1)=aB hs st false)(A:∀r∈rows,∀x∈r.2,x∈aB hs st true)(o:∀r∈rows,∀x,x∈first->x<r.1->x∈r.2)(D:e.length=hs.length)(E:fD hs true (lu first rows w) st e){x:Nat}(F:st<=x)(C:x<hs.length):
 at' e x=w↔x∈aB hs st false++first/\∀r∈rows,¬at' e r.1=w->x∈(aB hs st false).filter (λy=>!decide (y=r.1))++r.2:=by
 have u:∀r∈rows,r.1∈aB hs st _:=λr d=>by rw[<-f];exact Qs d
 rcases sD F C with a|c
 .have c:=xV x a
  constructor
  .intro j
   refine⟨List.mem_append.mpr (.inl a),λr d hd=>List.mem_append.mpr (.inl (List.mem_filter.mpr ⟨a,?_⟩))⟩;by_cases z:x=r.1
   .exact absurd (z ▸ j) hd
   .simp[z]
  .intro ⟨_,g⟩
   by_cases j:at' e x=w
   .exact j
   .have i:=a
    rw[<-f]at i;obtain⟨r,d,rfl⟩:=qy i;rcases qw (g r d j)with z|z
    .have:=(Qc z).2
     simp at this
    .exact absurd (A r d _ z) c
 .have a:=λz=>xV x z c
  obtain⟨p,n,t⟩:=iN D E c
  have h:at' e x=w↔x∈first/\∀r∈rows,r.1<x->¬at' e r.1=w->x∈r.2:=by
   rw[p];unfold lu;rw[n]
   have s:∀b,(b==w)=w↔b=true:=by cases w<;>intro b<;>cases b<;>simp
   rw[s,Qe,wj,List.all_eq_true];refine and_congr_right λ_=>forall_congr' λr=>forall_congr' λd=>?_;by_cases m:r.1<x
   .rw[t _ m]
    have k:¬x<=r.1:=by lia
    by_cases q:at' e r.1=w<;>simp[m,k,q]
   .have k:x<=r.1:=by lia
    simp[m,k]
  rw[h]
  have s:x∈aB hs st false++first↔x∈first:=by rw[List.mem_append];exact⟨λz=>z.resolve_left a,.inr⟩
  have B:∀r:jr,x∈(aB hs st _).filter (λy=>!decide (y=r.1))++r.2↔x∈r.2:=λr=>by
   rw[List.mem_append];exact⟨λz=>z.resolve_left λz=>a (Qc z).1,.inr⟩
  rw[s];refine and_congr_right λl=>forall_congr' λr=>forall_congr' λd=>?_;rw[B];constructor
  .intro g hd
   by_cases m:r.1<x
   .exact g m hd
   .by_cases v:x=r.1
    .exact absurd (by rw[v];exact u r d) a
    .exact o r d x l (by lia)
  .intro g _ hd
   exact g hd
theorem sW{k:Kd}{w:Bool}(i:decide (k=.i)=w){e:AG}{b:AE}{h:AL}:so k e (.im b h)=true↔((∀x∈b,at' e x=w)->∃y,h=some y/\at' e y=w):=by
 show(_||_)=true↔_;rw[i,Bool.or_eq_true,List.any_eq_true];constructor
 .intro q d
  rcases q with⟨x,c,q⟩|q
  .rw[d x c]at q
   simp at q
  .cases h with
   | none=>cases q
   | some y=>exact⟨y,rfl,by simpa [Bk.hd]using q⟩
 .intro q
  by_cases d:∀x∈b,at' e x=w
  .obtain⟨y,rfl,g⟩:=q d
   exact .inr (by simp[Bk.hd,g])
  .refine .inl ?_
   have ⟨x,c⟩:=Classical.not_forall.mp d;have ⟨f,c⟩:=Classical.not_imp.mp c;exact⟨x,f,by simp[c]⟩
theorem JD{k:Kd}{R:List Rl}{hs:AG}{st:Nat}(S:hs.length<=60)(D:∀r∈R,Dr k st hs.length r)(v:iM k R (aB hs st true) (aB hs st false) false):∃f,∀e:AG,e.length=hs.length->fD hs true f st e->∀r∈R,so k e r=true:=by
 have L:(k=.i\/k=.n)->(∃f a,eU (R.map fQ) (aB hs st true) (aB hs st false) f a)->∃f,∀e,e.length=_->fD hs _ f st e->∀r∈R,so k e r=true:=λJ ⟨j,a,g⟩=>by
  obtain⟨w,O⟩:∃w,decide (k=.i)=w:=⟨_,rfl⟩
  refine⟨lu j a w,λe s t r n=>?_⟩
  have W:=λx (m:st<=x) C=>ZY g.rs (λr d=>(g.rK r d).2.1) (λr d x c I=>by
   have:x∈j.filter λy=>decide (y<r.1):=List.mem_filter.mpr ⟨c,wm I⟩;rw[<-(g.rK r d).2.2]at this
   exact(Qc this).1) s t m C
  have M:fQ r∈_:=Qs n;obtain⟨m,C,u⟩:=D r n
  cases r with
  | ei l=>rcases J with rfl|rfl<;>cases m.1
  | su b o=>rcases J with rfl|rfl<;>cases m.1
  | im b h=>
    have B:∀x∈b,_/\_:=λx c=>⟨u x (by
     cases h with
     | none=>exact c
     | some y=>exact List.mem_append.mpr (.inl c)),m.2.1 x c⟩
    rw[sW O];intro A;obtain⟨y,G,E⟩:=g.h0 _ M λx c=>((W x (B x c).1 (B x c).2).mp (A x c)).1;subst G;refine⟨y,rfl,(W y (u y (List.mem_append.mpr (.inr (by simp)))) (m.2.2 y rfl)).mpr ⟨E,λr d hd=>?_⟩⟩;obtain⟨T,F,H⟩:=g.hb r d _ M λx c=>((W x (B x c).1 (B x c).2).mp (A x c)).2 r d hd;cases F;exact H
 cases k with
 | e=>
   obtain⟨a,g⟩:=v;refine⟨iO (λr=>r.1) gy a,λe s t r n=>?_⟩
   have p:=QB g.ks (λr d e F h=>by
    have:=g.row r d;unfold iF at this;unfold gy
    cases q:r.2.1 with
    | none=>rfl
    | some x=>
      rw[q]at this;simp at this;dsimp only
      rw[h x this.2]) s t
   cases r with
   | ei l=>exact JA p (g.kept l (List.mem_map.mpr ⟨_,n,rfl⟩))
   | su b o=>cases (D _ n).1.1
   | im b h=>rcases(D _ n).1.1 with z|z<;>cases z
 | s=>
   obtain⟨a,g⟩:=v;refine⟨iO (λr=>r.1) lr a,λe s t r n=>?_⟩
   have p:=QB g.ks (λr d e F h=>by
    unfold lr
    rw[gQ λx c=>h x ((g.row r d).2.2 x c).2]) s t
   obtain⟨m,C,_⟩:=D r n
   cases r with
   | ei l=>cases m.1
   | im b h=>rcases m.1 with z|z<;>cases z
   | su b o=>
     rw[sV C λx c=>by have:=m.2 x c;lia];obtain⟨i,K,N⟩:=List.mem_iff_getElem.mp (Qs n);have u:=g.kept i K
     have Q:rg (R.map toS) i=toS (.su b o):=by
      unfold rg;rw[List.getD_eq_getElem?_getD,qr K,N];rfl
     rw[Q]at u;rw[JC (λr d=>⟨(g.row r d).1,(g.row r d).2.1,λy G=>((g.row r d).2.2 y G).2⟩) p (T:=λx=>decide _) (o:=o) u];simp
 | i=>exact L (.inl rfl) v
 | n=>exact L (.inr rfl) v
def JE{L:AW}(q:∀l∈L,eI l){e:AG}(o:∀l∈L,∃u∈l,at' e u.1=u.2){s t:aC}(h:ed L s t)(hs:at' e s.1=s.2):at' e t.1=t.2:=by
 obtain⟨l,n,c,j,m⟩:=h;obtain⟨u,f,i⟩:=o l n
 have d:u≠aP s:=λz=>by
  subst z;have i:at' e s.1=!s.2:=i;rw[hs]at i;cases r:s.2<;>rw[r]at i<;>cases i
 by_cases g:u=t
 .subst g
  exact i
 .obtain⟨p,v⟩:=q l n
  match l,p,v,c,j,m,f with
  | [a],_,_,c,_,_,f=>
    simp at c f;exact absurd (f.trans c.symm) d
  | [a,b],_,_,c,j,m,f=>
    have k:t≠aP s:=λz=>by have:=m z;simp at this
    simp at c j f;rcases f with rfl|rfl
    .rcases c with z|z
     .exact absurd z.symm d
     .rcases j with y|y
      .exact absurd y.symm g
      .exact absurd (y.trans z.symm) k
    .rcases c with z|z
     .rcases j with y|y
      .exact absurd (y.trans z.symm) k
      .exact absurd y.symm g
     .exact absurd z.symm d
theorem sX{L:AW}(b:∀l∈L,eI l){e:AG}(a:∀l∈L,∃u∈l,at' e u.1=u.2){s t:aC}(h:Rch L s t)(hs:at' e s.1=s.2):at' e t.1=t.2:=by
 induction h with
 | refl=>exact hs
 | step _ d c=>exact JE b a d c
theorem JF{L:AW}(j:∀l∈L,eI l){hs:AG}{st:Nat}(b:bY L (aB hs st true) (aB hs st false)):∃f,∀e:AG,e.length=hs.length->fD hs false f st e->¬∀l∈L,∃u∈l,at' e u.1=u.2:=by
 have q:∀(e:_) (s:aC),¬at' e s.1=s.2->_:=λe s h=>by
  show at' e s.1=!s.2
  cases i:at' e s.1<;>cases a:s.2<;>rw[i,a]at h<;>first|rfl|exact absurd rfl h
 have k:∀(e:_) (s:aC),at' e s.1=s.2->_->False:=λe s h m=>by
  have m:at' e s.1=!s.2:=m;rw[h]at m;cases a:s.2<;>rw[a]at m<;>cases m
 cases b with
 | broken h=>exact⟨λ_=>false,λe _ _ c=>by
  obtain⟨u,B,_⟩:=c [] h
  cases B⟩
 | clash s i a=>
   refine⟨λ_=>false,λe _ _ c=>?_⟩;by_cases hs:at' e s.1=s.2
   .exact k e s hs (sX j c i hs)
   .exact hs (sX j c a (q e s hs))
 | cross s t i a r v=>
   refine⟨λp=>if p.length=s.1 then s.2 else !t.2,λe n o c=>?_⟩;obtain⟨d,w,_⟩:=iN n o i;obtain⟨g,A,_⟩:=iN n o a;rw[w,if_pos rfl]at d;rw[A]at g;have x:=sX j c v d;rw[x]at g;by_cases z:t.1=s.1
   .rw[if_pos z]at g
    exact r (Prod.ext z.symm g.symm)
   .rw[if_neg z]at g
    cases a:t.2<;>rw[a]at g<;>cases g
 | late s t i a r v C=>
   refine⟨λp=>if at' p t.1=t.2 then !s.2 else s.2,λe n o c=>?_⟩;obtain⟨d,w,y⟩:=iN n o i;rw[y _ r]at d;by_cases z:at' e t.1=t.2
   .rw[if_pos z]at d
    exact k e s (sX j c C z) d
   .rw[if_neg z]at d
    exact z (sX j c v d)
theorem JG{R:List Sm}{hs:AG}{st:Nat}{W:AH}(b:iH R (aB hs st false) W):∃f,∀e:AG,e.length=hs.length->fD hs false f st e->¬∀p,p<R.length->xr (rg R p).1 (at' e)=(rg R p).2:=by
 obtain⟨b1,b2⟩:=b
 have c:∀e,(∀p,_->_)->xr (tP R W) _=_:=λe h=>
  HJ (Q:=λT o=>xr T (at' e)=o) (sA λ_ _=>rfl) (λa i=>by rw[sk,a,i]) (λa i=>by rw[<-a];exact lh λx g=>by rw[i x g]) λp k=>h p (b1 p (Qc k).2)
 rcases b2 with⟨r,a⟩|⟨l,v,d⟩
 .refine⟨λ_=>false,λe _ _ h=>?_⟩
  have:=c e h;rw[sA (fl_nil.mp r),a]at this;cases this
 .refine⟨λt=>!(aH R (fl 60 W)!=xr (wl (tP R W) l) (at' t)),λe m w h=>?_⟩
  obtain⟨y,z,u⟩:=iN m w v
  have q:xr (wl _ l) (at' (e.take l))=xr (wl _ l) (at' e):=lh λx g=>by
   cases j:wl _ l x with
   | false=>rfl
   | true=>
     unfold wl at j;rw[Qe]at j;have a:=d.2.2 x g j.1;rw[u x (by lia)]
  have:=c e h;rw[iG d.1 d.2.1,y,q]at this;cases s:aH R _<;>cases n:xr _ _<;>rw[s,n]at this<;>cases this
theorem JH{R:List bL}{hs:AG}{st:Nat}{b:AL}{d js:AF}(w:Bool)(L:la R (aB hs st true) (aB hs st false) b d js=true):∃f,∀e:AG,e.length=hs.length->fD hs false f st e->¬∀q∈R,(∀x∈q.1,at' e x=w)->∃y,q.2=some y/\at' e y=w:=by
 unfold la at L;rw[Qe]at L;obtain⟨O,J⟩:=L;unfold iE at J;simp only[Qe,wj,Bool.or_eq_true]at J;obtain⟨_,N,Q,U,T⟩:=J
 have u:∀e,(∀q∈R,(∀x∈q.1,at' e x=w)->∃y,q.2=some y/\at' e y=w)->∀{d:_}{s:_},d_ R s d=true->(∀x∈s,at' e x=w)->∀x∈s++dw R d,at' e x=w:=λe j d=>by
  induction d with
  | nil=>
    intro s _ n x a;rcases qw a with h|h
    .exact n x h
    .cases h
  | cons i d Y=>
    intro s hd n x a;have t:(_&&_)=true:=hd;rw[Qe]at t;obtain⟨C,H⟩:=t;unfold rW at C;rw[Qe,Qe,wj]at C;obtain⟨g,G,F⟩:=C;obtain⟨y,p,m⟩:=j _ (xW g) λx a=>n x (wq (List.all_eq_true.mp F x a))
    have S:bu (aA R i)=y:=by unfold bu;rw[p];rfl
    refine Y H (λz k=>?_) x ?_
    .rcases qw k with h|h
     .exact n z h
     .rw[List.mem_singleton]at h
      rw[h,S];exact m
    .rw[w9]
     exact a
 have r:∀e,_->_->∃x,b=some x/\at' e x=w:=λe j n=>by
  have:=u e j Q n;obtain⟨y,p,m⟩:=j _ (xW N) λx a=>this x (wq (List.all_eq_true.mp U x a));rcases T with q|q
  .rw[q]at p
   cases p
  .exact⟨y,q.symm.trans p,m⟩
 cases b with
 | none=>
   refine⟨λ_=>w,λe E D j=>?_⟩
   obtain⟨x,z,_⟩:=r e j λx a=>by
    rcases qw a with q|q
    .exact(iN E D (Qc q).1).1
    .cases q
   cases z
 | some A=>
   have o:(_&&_)=true:=O;rw[Qe,wj]at o;obtain⟨K,B⟩:=o;refine⟨λM=>if M.length=A then (if (k_ R (aB hs st true) (some A) d).all (λz=>at' M z==w)=true then !w else w)else w,λe E D j=>?_⟩
   have v:∀x _,_->at' e x=w:=λx a z=>by
    obtain⟨g,G,_⟩:=iN E D a;rw[g,G,if_neg z]
   obtain⟨g,G,F⟩:=iN E D K;rw[G,if_pos rfl]at g
   have l:∀z∈k_ R (aB hs st true) (some A) d,_:=λz k=>by
    have:=(Qc k).2;simpa using this
   by_cases c:∀z∈k_ R (aB hs st true) (some A) d,at' e z=w
   .rw[if_pos (List.all_eq_true.mpr λz k=>by rw[F z (l z k).1,c z k];simp)]at g
    obtain⟨x,z,a⟩:=r e j λx a=>by
     rcases qw a with q|q
     .obtain⟨C,H⟩:=Qc q
      exact v x C λz=>by simp[z]at H
     .exact c x q
    cases z;rw[a]at g;cases w<;>cases g
   .have I:¬(k_ R _ _ d).all (λz=>at' _ z==w)=true:=λz=>c λy m=>by
     have:=List.all_eq_true.mp z y m;rw[F y (l y m).1]at this;simpa using this
    rw[if_neg I]at g
    have V:∀x _,at' e x=w:=λx a=>by
     by_cases z:x=A
     .rw[z,g]
     .exact v x a z
    have:=u e j B V;exact c λz k=>this z (List.mem_append.mpr (.inr (l z k).2))
theorem JK{k:Kd}{R:List Rl}{hs:AG}{st:Nat}(n:hs.length<=60)(d:∀r∈R,Dr k st hs.length r)(v:iM k R (aB hs st true) (aB hs st false) true):∃f,∀e:AG,e.length=hs.length->fD hs false f st e->¬∀r∈R,so k e r=true:=by
 have A:(k=.i\/k=.n)->(∃b y B,la (R.map fQ) (aB hs st true) (aB hs st false) b y B=true)->∃f,∀e,_->_->¬∀r∈R,_=true:=λt ⟨b,y,B,g⟩=>by
  obtain⟨w,H⟩:∃w,decide (k=.i)=w:=⟨_,rfl⟩
  obtain⟨f,m⟩:=JH w g;refine⟨f,λe i j h=>m e i j λq C=>?_⟩;obtain⟨r,a,rfl⟩:=qy C;have:=h r a
  cases r with
  | ei l=>rcases t with rfl|rfl<;>cases (d _ a).1.1
  | su b o=>rcases t with rfl|rfl<;>cases (d _ a).1.1
  | im b o=>exact(sW H).mp this
 cases k with
 | e=>
   have a:∀r∈R,r=.ei (lq r):=λr a=>by
    cases r with
    | ei l=>rfl
    | su b o=>cases (d _ a).1.1
    | im b o=>rcases(d _ a).1.1 with z|z<;>cases z
   obtain⟨f,m⟩:=JF (λl n=>by
    obtain⟨r,c,rfl⟩:=qy n;have:=(d r c).2.1;rw[a r c]at this
    exact Jk this) v
   refine⟨f,λe i j h=>m e i j λl n=>?_⟩;obtain⟨r,c,rfl⟩:=qy n;have:=h r c;rw[a r c]at this;obtain⟨u,E,q⟩:=List.any_eq_true.mp (this);exact⟨u,E,by simpa using q⟩
 | s=>
   obtain⟨W,b⟩:=v;obtain⟨f,m⟩:=JG b;refine⟨f,λe i j h=>m e i j λp I=>?_⟩;have c:=Js I;obtain⟨r,a,G⟩:=qy c;rw[<-G];obtain⟨s,F,_⟩:=d r a;have:=h r a
   cases r with
   | ei l=>cases s.1
   | im b h=>rcases s.1 with z|z<;>cases z
   | su b o=>
     rw[sV F λx D=>by have:=s.2 x D;lia]at this;show xr (λx=>decide _) _=o;simpa using this
 | i=>exact A (.inl rfl) v
 | n=>exact A (.inr rfl) v
theorem JL{k:Kd}{R:List Rl}{hs:AG}{st:Nat}{w:Bool}(c:hs.length<=60)(i:st<=hs.length)(d:∀r∈R,Dr k st hs.length r)(v:iM k R (aB hs st true) (aB hs st false) w){ev:AG}(h:ev.length=st):gv (λe=>∀r∈R,so k e r=true) hs (hs.length-st) ev↔w=false:=by
 subst h
 cases w with
 | false=>
   obtain⟨f,a⟩:=JD c d v;exact⟨λ_=>rfl,λ_=>Qy _ _ λt g b=>a _ (by rw[qz];lia) b⟩
 | true=>
   obtain⟨f,a⟩:=JK c d v;exact⟨λz=>absurd z (sT _ _ λt g b=>a _ (by rw[qz];lia) b),λz=>nomatch z⟩
section
variable {f g:Hm}{fe:He}{ρ ρ':Ro}{t:Hs}{Q:cb Hs->Prop}{i:Nat}
def ly{f:AR}(h:f ρ=some (.nx ρ'))(k:g ρ' t Q):bz (fM f) g ρ t Q:=⟨_,h,k⟩
def sY(h:fe ρ t λd t'=>g (ρ.set i (↑d)) t' Q):bz (iA i fe) g ρ t Q:=h
def sZ{c:Ro->Hs->Option Bool}{f:Hm}(h:c ρ t=some false)(k:g ρ t Q):bz (v7 c f iy) g ρ t Q:=⟨false,h,λz=>(nomatch z),λ_=>k⟩
theorem JM{a:AV}{gt:AS}{b:AN}(h:a ρ=some b)(k:eF gt f b ρ t fun
 | .nx ρ' t'=>g ρ' t' Q
 | o=>Q o):bz (kF a gt f) g ρ t Q:=⟨b,h,k⟩
def QD{gt:AS}{fb:Hm}{m:Type}(enc:m->D)(I:List m->Ro->Hs->Prop):∀(l c:List m) (ρ:Ro) (t:Hs) (Q:cb Hs->Prop),I c ρ t->
 (∀q a r ρ t (Q:cb Hs->Prop),c++l=q++a::r->I q ρ t->(∀d j,I (q++[a]) d j->Q (.nx d j))->∃h,gt (enc a) ρ=some h/\fb h t Q)->(∀ρ' t',I (c++l) ρ' t'->Q (.nx ρ' t'))->eF gt fb (l.map enc) ρ t Q
 | [],c,ρ,t,Q,g,_,k=>k ρ t (by rwa [w6])
 | a::l,c,ρ,t,Q,g,f,k=>by
   refine f c a l ρ t _ rfl g λd j p=>QD enc I l _ d j Q p (λq b r ρ t Q e o s=>f q b r ρ t Q (by rw[<-e,w9];rfl) o s) λρ' t' n=>k ρ' t' ?_
   rwa [w9]at n
end
def JN{t:Hs}{a:Addr}{s s':Option HS}:pt (pt t a s) a s'=pt t a s':=by
 funext b
 by_cases h:b=a
 .rw[h,dt,dt]
 .rw[bZ h,bZ h,bZ h]
theorem lz{b:Type}{enc:b->D}{t:Hs}(h:∀a,aO t (enc a)=enc a):∀l:List b,du t (l.map enc)=l.map enc
 | []=>by rw[List.map_nil,du]
 | a::l=>by rw[Qd,du,h,lz h l]
def JO(t:Hs)(i:Int):aO t (.int i)=.int i:=by rw[aO]
def JP(t:Hs)(b:Bool):aO t (.bl b)=.bl b:=by rw[aO]
def JQ(t:Hs)(b:Bool):aO t (cj b)=cj b:=by unfold cj;rw[aO]
def JR(t:Hs)(s:aC):aO t (af s)=af s:=by
 show aO t (.tup _)=.tup _;simp[aO,du]
def JS(t:Hs)(o:AL):aO t (av o)=av o:=by
 cases o with
 | none=>show aO t .non=.non;rw[aO]
 | some x=>show aO t (.int _)=.int _;rw[aO]
def s_(t:Hs)(b:AE):aO t (.tup (b.map nD))=.tup (b.map nD):=by
 rw[aO,(lz (enc:=nD) (λn=>JO t n) b)]
def JT(t:Hs)(r:Rl):aO t (aL r)=aL r:=by
 cases r with
 | ei l=>show aO t (.tup _)=.tup _;rw[aO,lz (JR t)]
 | su b o=>show aO t (.tup _)=.tup _;rw[aO,du,du,du,s_,JP]
 | im b h=>show aO t (.tup _)=.tup _;rw[aO,du,du,du,s_,JS]
def JU(t:Hs)(k:Kd):aO t (br k)=br k:=by unfold br;rw[aO]
def JV(t:Hs)(k:Kd)(R:List Rl):aO t (Yl k R)=Yl k R:=by
 show aO t (.tup _)=.tup _;rw[aO,du,du,du,aO,lz (JT t),JU]
def JW{t:Hs}{k:Kd}{R:List Rl}{H ev:AG}{l:Addr}(h:t l=some (.bls ev)):aO t (aW (Yl k R) (.tup (H.map cj)) (.adr l))=dQ k R H ev:=by
 rw[aO,du,du,du,JV,aO,lz (JQ t),aO,h];rfl
section
variable {k:Kd}{R:List Rl}{H ev:AG}{l:Addr}{t:Hs}
def QE(b h x:D):cA "Watch" "turn" gN (aW b h x)=gN [aW b h x]:=iL "turn" (by decide) gN b h x
def QF(b h x:D):cA "Watch" "winner" kY (aW b h x)=kY [aW b h x]:=iL _ (by decide) _ b h x
theorem JY(e:t l=some (.bls ev))(a:ev.length<H.length)(i:H.length<=60)(h:∀r∈R,fP k H.length r/\sz r<=9999)(c:Bool){W:D->Hs->Prop}(g:W (dy k R H (ev++[c])) (pt t l (some (.bls (ev++[c]))))):
 rR [aW (Yl k R) (.tup (H.map cj)) (.adr l),.bl c] t W:=by
 unfold rR eG;have b:Yd 2 [aW (Yl k R) (.tup (H.map cj)) (.adr l),.bl c]=[some _,↑(.bl c)]:=rfl;rw[b];have f:=QE (Yl k R) (.tup (H.map cj)) (.lst (ev.map D.bl));rw[Jm (Nat.le_of_lt a),ya a]at f;have d:=QF (Yl k R) (.tup (H.map cj)) (.lst ((ev++[c]).map D.bl));rw[Qv (by rw[qz];exact a) h]at d;refine sZ ?_ ?_
 .show(b2 _ (kD .non) (bU false)) (d9 t _)=_
  have:d9 t [↑(aW (Yl k R) (.tup (H.map cj)) (.adr l)),↑(.bl c)]=[↑(dQ k R H ev),↑(aO t (.bl c))]:=by
   show([↑_,↑_]:Ro)=_;rw[JW (H:=H) (k:=k) (R:=R) e]
  rw[this];simp [qd];rw[f];exact rfl
 refine ly (ρ':=[some _,↑(.bl c)]) (by cases c<;>rfl) (⟨_,_,l,ev,c,rfl,e,by lia,rfl,⟨dy k R H (ev++[c]),?_,(Jn k R H (ev++[c])),g⟩⟩)
 have:d9 (pt t l (some (.bls (ev++[c])))) [↑(aW (Yl k R) (.tup (H.map cj)) (.adr l)),↑(.bl c)]=[↑(dQ k R H (ev++[c])),↑(aO (pt t l (some (.bls (ev++[c])))) (.bl c))]:=by
  show([↑_,↑(aO _ (.bl c))]:Ro)=_;rw[JW (H:=H) (k:=k) (R:=R) (t:=pt t l (some (.bls (ev++[c])))) dt]
 rw[this];exact d
end
section
variable {t:Hs}{x:Addr}{R Q:D->Hs->Prop}{ρ:Ro}{is:AE}{ga:AV}
theorem JZ{C d:Addr}{b h:D}{l:AN}(m:t x=some (.ins "Watch" C d [] [] []))(p:kW [b,h]=some .non)(n:a8 [h]=some (.tup l))(k:∀a e f t',a≠x->t a=none->t' x=some (.ins "Watch" C d qO [e,f,.ref a] [b,.tup l,.adr a])->t' a=some (.bls [])->(∀y,y≠x->y≠a->t' y=t y)->R .non t'):rQ [.adr x,b,h] t R:=by
 unfold rQ eG;have i:Yd 3 [.adr x,b,h]=[some _,some _,some _]:=rfl;rw[i];refine ly (ρ':=[↑(.adr x),↑b,↑h]) ?_ ?_
 .simp [p]
 refine⟨x,"Watch",C,d,[],[],[],b,rfl,m,by decide,by decide,by decide,rfl,λe=>⟨x,"Watch",C,d,["book"],[e],[b],.tup l,rfl,dt,by decide,by decide,by decide,?_,λf=>?_⟩⟩
 .exact n
 rw[JN];refine⟨x,"Watch",C,d,["book","hands"],[e,f],[b,.tup l],rfl,dt,by decide,by decide,by decide,λa g=>?_⟩
 have c:a≠x:=λz=>by rw[z,dt]at g;cases g
 rw[bZ c]at g;refine k a e f _ c g dt ?_ λy j o=>?_
 .rw[bZ c,dt]
 .rw[bZ j,bZ o,bZ j]
theorem J0{b h:D}{l:AN}(F:ga (frz is ρ)=some [b,h])(B:kW [b,h]=some .non)(u:a8 [h]=some (.tup l))(hb:dV b=true)(E:bG l=true)(k:∀a t',t a=none->t' a=some (.bls [])->(∀y,y≠a->t' y=t y)->Q (aW b (.tup l) (.adr a)) t'):kM "Watch" true is [] ga rQ ρ t Q:=by
 refine⟨[b,h],F,λx C p A=>⟨λe t'=>e=.non/\∃a n c,a≠x/\t a=none/\t' x=some (.ins "Watch" C p qO [n,c,.ref a] [b,.tup l,.adr a])/\t' a=some (.bls [])/\(∀y,y≠x->y≠a->t' y=t y),JZ dt B u (λa n c t' i j g f m=>⟨rfl,a,n,c,i,by rw[bZ i]at j;exact j,g,f,λy o v=>by rw[m y o v,bZ o]⟩),λe t' h=>?_⟩⟩;obtain⟨rfl,a,n,c,i,j,g,f,m⟩:=h;refine⟨λy s h=>?_,rfl,λz=>(nomatch z),λ_=>⟨_,_,_,g,?_⟩⟩
 .by_cases e:y=x
  .subst e
   rw[g]at h;cases h;refine .inr ?_
   have q:∀{d:D},dV d=true->qB d=true:=λ{d} hd=>by cases d<;>first|exact hd|rfl
   have w:qB (.tup l)=true:=q (E);show[b,.tup l,.adr a].all qB=true;simp[q hb,w];rfl
  .by_cases e2:y=a
   .subst e2
    rw[f]at h;cases h;exact .inr rfl
   .rw[m y e e2]at h
    exact .inl h
 .refine k a _ j ?_ λy r=>?_
  .rw[bZ i]
   exact f
  .by_cases e:y=x
   .rw[e,dt,A]
   .rw[bZ e]
    exact m y e r
end
def tf(b:Bool):cj b=aF b:=by cases b<;>rfl
def J1(H:AG):H.map cj=H.map aF:=Qq λb _=>tf b
def mK(t:Hs)(b:Bool):aO t (aF b)=aF b:=by unfold aF;rw[aO]
theorem tj{b:Type}{enc:b->D}(h:∀a,dV (enc a)=true):∀l:List b,bG (l.map enc)=true
 | []=>by rw[List.map_nil,bG]
 | a::l=>by rw[Qd,bG,h,tj h l];rfl
abbrev Wa(k:Kd)(R:List Rl)(H:AG)(l:Addr):D:=aW (Yl k R) (.tup (H.map cj)) (.adr l)
section
variable {k:Kd}{R:List Rl}{H:AG}{l:Addr}
def J2{ev:AG}{t:Hs}{ρ:Ro}{b:AU}{f:AV}{Q:D->Hs->Prop}(n:b ρ=some (Wa k R H l)){c:Bool}(j:f ρ=some [.bl c])(h:t l=some (.bls ev))(a:ev.length<H.length)(i:H.length<=60)(g:∀r∈R,fP k H.length r/\sz r<=9999)(m:∀d,Q d (pt t l (some (.bls (ev++[c]))))):kL "settle" G6 b f ρ t Q:=
 ⟨_,_,"Watch",qO,rR,λ_ o=>o=pt t l _,n,j,rfl,by decide,rfl,JY h a i g c rfl,λd o e=>by rw[e];exact m d⟩
end
def J3(r:Rl):dV (aL r)=true:=by
 have a:∀l:AE,bG (l.map nD)=true:=λl=>tj (λ_=>rfl) l
 cases r with
 | ei l=>exact(λl=>tj (λ_=>rfl) l) l
 | su l o=>show(bG (l.map nD)&&(dV (.bl o)&&bG []))=true;rw[a];rfl
 | im l h=>show(bG (l.map nD)&&(dV (av h)&&bG []))=true;rw[a];cases h<;>rfl
def QG(k:Kd)(R:List Rl):dV (Yl k R)=true:=by
 show(dV (br k)&&(bG _&&_))=true;rw[tj J3];rfl
def J4(H:AG):bG (H.map cj)=true:=tj (λ_=>rfl) H
def QH(b h x:D):cA "Watch" "left" jo (aW b h x)=jo [aW b h x]:=iL _ (by decide) _ b h x
theorem J5{k:Kd}{i n:Nat}{b:Bool}{R:List Rl}(p:∀r∈R,Dr k i n r):∀q∈R.filterMap (bD k i b),Dr k (i+1) n q:=λq d=>by
 obtain⟨r,f,h⟩:=List.mem_filterMap.mp d;obtain⟨s,o,e⟩:=p r f
 have a:at' (.replicate (i+1) b) i=b:=by simp[at']
 obtain⟨_,l,_,g,c,_⟩:=vV s o (by rwa [a]);refine⟨g,c,λx m=>?_⟩;obtain⟨j,t⟩:=l x m;have:=e x j;lia
def QI{k:Kd}{i n:Nat}{R:List Rl}(b:∀r∈R,Dr k i n r)(e:AG):(∀r∈R,so k e r=true)↔∀q∈R.filterMap (bD k i (at' e i)),so k e q=true:=by
 constructor
 .intro h q d
  obtain⟨r,a,c⟩:=List.mem_filterMap.mp d;rw[(vV (b r a).1 (b r a).2.1 c).1];exact h r a
 .intro h r a
  cases c:bD k i _ r with
  | none=>exact Ua (b r a).1 (b r a).2.1 c
  | some q=>
    rw[<-(vV (b r a).1 (b r a).2.1 c).1];exact h q (List.mem_filterMap.mpr ⟨r,a,c⟩)
theorem J6{k:Kd}{n:Nat}:∀(t:AG) (i:Nat) (R:List Rl),(∀r∈R,Dr k i n r)->(∀r∈jy k i t R,Dr k (i+t.length) n r)/\∀e:AG,(∀j,j<t.length->at' e (i+j)=at' t j)->((∀r∈R,so k e r=true)↔∀r∈jy k i t R,so k e r=true)
 | [],_,_,h=>⟨h,λ_ _=>.rfl⟩
 | b::t,i,R,h=>by
   obtain⟨f,d⟩:=J6 t _ _ (J5 h);refine⟨λr c=>?_,λe a=>?_⟩
   .have:=f r c
    rwa [qt,show i+(t.length+1)=i+1+t.length by lia]
   .have g:at' e i=b:=by
     have:=a 0 (by simp);simpa [at']using this
    have:=QI h e;rw[g]at this;rw[this]
    exact d e λj l=>by
     have:=a (j+1) (by simp;lia);rw[show i+1+j=i+(j+1) by lia,this];simp[at']
theorem J7{k:Kd}{R:List Rl}{hs ev:AG}(h:hs.length<=60)(i:ev.length<hs.length)(a:∀r∈R,Dr k ev.length hs.length r){w:Bool}{wf:Bool->Bool}(v:iM k R (aB hs ev.length true) (aB hs ev.length false) w)(l:∀b,iM k (R.filterMap (bD k ev.length b)) (aB hs (ev.length+1) true) (aB hs (ev.length+1) false) (wf b)):
 (!w)=(if (!wf false)=at' hs ev.length\/(!wf true)=at' hs ev.length then at' hs ev.length else !at' hs ev.length):=by
 have g:=JL h (Nat.le_of_lt i) a v rfl
 have j:∀b,gv (λe=>∀r∈R,_=true) hs (_-(_+1)) _↔wf b=_:=λb=>by
  rw[<-JL h i (J5 a) (l b) (ev:=ev++[b]) (by simp)];refine Qz _ _ λt _=>?_;have:=QI a (ev++[b]++t)
  rwa [show at' _ _=b by simp[at']]at this
 rw[show hs.length-ev.length=hs.length-(ev.length+1)+1 by lia,gv]at g;simp only[j]at g
 cases f:at' hs _ with
 | true=>
   rw[f]at g
   cases c:wf _ with
   | false=>
     rw[g.mp ⟨false,c⟩];simp
   | true=>
     cases d:wf _ with
     | false=>
       rw[g.mp ⟨true,d⟩];simp
     | true=>
       cases w with
       | true=>simp
       | false=>
         obtain⟨b,m⟩:=g.mpr rfl;cases b<;>simp_all
 | false=>
   rw[f]at g
   cases c:wf _ with
   | true=>
     cases w with
     | true=>simp
     | false=>
       have:=g.mpr rfl false;rw[c]at this;cases this
   | false=>
     cases d:wf _ with
     | true=>
       cases w with
       | true=>simp
       | false=>
         have:=g.mpr rfl true;rw[d]at this;cases this
     | false=>
       rw[g.mp λb=>by cases b<;>assumption];simp
def tm(a b c:Bool):aI c (aF a) (aF b)=some (if c then !(a==b)else a==b):=by
 cases a<;>cases b<;>cases c<;>first|rfl|decide +kernel
def QJ(a:Bool):aI false (aF a) (.str "nobody")=some false:=by
 cases a<;>first|rfl|decide +kernel
def J8{H:AG}{i:Nat}(h:i<H.length):bE (H.map aF) (i:Int)=some (aF (at' H i)):=by
 rw[gK,l8 h];simp[at',h]
abbrev QK:cb Hs->Prop:=fun
 | .rt (.bl true) _=>True
 | _=>False
section
variable {k:Kd}{R:List Rl}{H ev:AG}{l:Addr}{t:Hs}{li:Int}
abbrev rs(k:Kd)(R:List Rl)(H:AG)(li:Int)(l:Addr)(b e c d f a:AQ):Ro:=[↑(Yl k R),↑(.tup (H.map aF)),↑(.int li),↑(Wa k R H l),b,e,c,d,f,a]
def ZZ{ρ:Ro}{f:AU}{b:Bool}(h:f ρ=some (aF b)):hZ ["keeper","storm"] [(kD (.str "storm")),(kD (.str "keeper"))] f ρ=some (aF (!b)):=by
 unfold hZ;cases b
 .rw[h];rfl
 .rw[h];rfl
def tp(h:t l=some (.bls ev)):aO t (Wa k R H l)=dQ k R H ev:=JW h
theorem Z0{n:Nat}(Y:H.length<=60)(hRn:R.length<=60)(U:∀r∈R,Dr k 0 H.length r)(hl:t l=some (.bls ev))(C:ev.length<H.length)(hn:n=ev.length)(E j i h g:AQ){Q:cb Hs->Prop}(kk:∀z5 z6 z7 z8 z9 c,Q (.nx (rs k R H li l (↑(.int n)) z5 z6 z7 z8 z9) (pt t l (some (.bls (ev++[c])))))):G8 (rs k R H li l (↑(.int n)) E j i h g) t Q:=by
 subst hn
 have T:∀r∈R,fP k H.length r/\sz r<=9999:=λr s=>⟨⟨(U r s).1,(U r s).2.1⟩,by have:=ir (U r s).1 (U r s).2.1;lia⟩
 obtain⟨G,_⟩:=J6 (k:=k) (n:=H.length) ev 0 R U;rw[Nat.zero_add]at G;have hLn:=Jp k ev 0 R;have o:=QH (Yl k R) (.tup (H.map cj)) (.lst (ev.map D.bl));rw[show aW (Yl k R) (.tup (H.map cj)) (.lst (ev.map D.bl))=dQ k R H ev from rfl,sQ (n:=H.length) H ev T]at o;have f:=QE (Yl k R) (.tup (H.map cj)) (.lst (ev.map D.bl));rw[show aW (Yl k R) (.tup (H.map cj)) (.lst (ev.map D.bl))=dQ k R H ev from rfl,Jm (Nat.le_of_lt C),ya C,tf]at f;generalize hLd:jy k 0 ev R=L at *;obtain⟨w,hw,v⟩:=Jw (c:=.tup (H.map aF)) rfl Y (Nat.le_of_lt C) (by lia) G
 have hb:∀b:Bool,∃w:Bool,iB [Yl k L,.int (ev.length:Int),.bl b]=some (Yl k (L.filterMap (bD k ev.length b)))/\gm [Yl k (L.filterMap (bD k ev.length b)),.tup (H.map aF),.int ((ev.length:Int)+1)]=some (aF (!w))/\iM k (L.filterMap (bD k ev.length b)) (aB H (ev.length+1) true) (aB H (ev.length+1) false) w:=λb=>by
  have e1:=O5 (k:=k) (n:=H.length) (R:=L) (λr s=>(G r s).1) (λr s=>by have:=ir (G r s).1 (G r s).2.1;lia) ev.length b;obtain⟨w,g1,g2⟩:=Jw (k:=k) (R:=L.filterMap (bD k ev.length b)) (hs:=H) (st:=ev.length+1) (c:=.tup (H.map aF)) rfl Y C (by have:=List.length_filterMap_le (bD k ev.length b) L;lia) (J5 G);exact⟨w,e1,g1,g2⟩
 obtain⟨y,f1,f2,f3⟩:=hb false;obtain⟨A,g1,g2,g3⟩:=hb true;have u:=J7 (R:=L) Y C G (wf:=λb=>if b=true then A else y) v (λb=>by cases b;exact f3;exact g3);simp only[Qo,if_false,if_true]at u;have I:=J8 C;have q1:=tm (!y) (at' H ev.length) false;have q2:=tm (!A) (at' H ev.length) false
 have hj:(ev.length:Int)%59=((ev.length%59:Nat):Int):=by lia
 have V:=Cw li (ev.length%59);have N:=QJ (!y);have O:=QJ (!A);have q3:=tm (at' H ev.length) (at' H ev.length) true
 have hHg:H[ev.length]=at' H ev.length:=by simp[at',C]
 rw[hHg]at f
 have q4:∀b:Bool,b=(!w)->aI true (aF (!w)) (aF b)=some false:=λb e=>by
  rw[e,tm];simp
 have hd:=tp (k:=k) (R:=R) (H:=H) hl;unfold G8;refine sY ⟨Yl k L,?_,QG k L,?_⟩
 .show(b1 (ab 3) (cA "Watch" "left" jo)) (d9 t (rs k R H li l (↑(.int (ev.length:Int))) E j i h g))=_
  have:d9 t (rs k R H li l (↑(.int (ev.length:Int))) E j i h g)=some (.sh (aO t (Yl k R)))::some (.sh (aO t (.tup (H.map aF))))::some (.sh (aO t (.int li)))::some (.sh (dQ k R H ev))::d9 t [↑(.int (ev.length:Int)),E,j,i,h,g]:=by
   rw[<-hd];rfl
  rw[this];simp only[Ei,T7,T4,qd];exact o
 show G7 (rs k R H li l (↑(.int (ev.length:Int))) (↑(Yl k L)) j i h g) t Q
 obtain⟨m,hm⟩:∃m,at' H ev.length=m:=⟨_,rfl⟩
 rw[hm]at I u q1 q2 q3 f
 have F:∀a b c d e:D,aO t a=a->aO t b=b->aO t c=c->aO t d=d->aO t e=e->d9 t (rs k R H li l (↑(.int (ev.length:Int))) (↑a) (↑b) (↑c) (↑d) (↑e))=_:=λa b c d e h1 h2 h3 h4 h5=>by
  show[some (B.sh (aO t (Yl k R))),↑(aO t (.tup (H.map aF))),↑(aO t (.int li)),↑(aO t (Wa k R H l)),↑(aO t (.int (ev.length:Int))),↑(aO t a),↑(aO t b),↑(aO t c),↑(aO t d),↑(aO t e)]=_;rw[hd,JV,h1,h2,h3,h4,h5,JO,JO,aO,lz (mK t)]
 have Z:(aq 6 (cC (Yb (ab 5) (Yb (ab 1) (Yb (ab 4) ae))) gm)) (rs k R H li l (↑(.int (ev.length:Int))) (↑(Yl k L)) j i h g)=some (.nx (rs k R H li l (↑(.int (ev.length:Int))) (↑(Yl k L)) (↑(aF (!w))) i h g)):=by
  unfold rs;generalize Wa k R H l=M,Yl k L=q,Yl k R=K,H.map aF=J at *;simp[hw]
 have s2:∀j i h g,aq 7 (cC (Yb (cC (Yb (ab 5) (Yb (ab 4) (Yb (kD (.bl false)) ae))) iB) (Yb (ab 1) (Yb (b2 (aa 4) (kD (.int 1)) cN) ae))) gm) (rs k R H li l (↑(.int (ev.length:Int))) (↑(Yl k L)) j i h g)=some (.nx (rs k R H li l (↑(.int (ev.length:Int))) (↑(Yl k L)) j (↑(aF (!y))) h g)):=λj i h g=>by
  unfold rs;generalize Wa k R H l=M,Yl k L=q at *;generalize Yl k R=K,Yl k (L.filterMap (bD k ev.length false))=b0 at *;generalize H.map aF=J at *;simp[f1,f2]
 have s3:∀j i h g,aq 8 (cC (Yb (cC (Yb (ab 5) (Yb (ab 4) (Yb (kD (.bl true)) ae))) iB) (Yb (ab 1) (Yb (b2 (aa 4) (kD (.int 1)) cN) ae))) gm) (rs k R H li l (↑(.int (ev.length:Int))) (↑(Yl k L)) j i h g)=some (.nx (rs k R H li l (↑(.int (ev.length:Int))) (↑(Yl k L)) j i (↑(aF (!A))) g)):=λj i h g=>by
  unfold rs;generalize Wa k R H l=M,Yl k L=q at *;generalize Yl k R=K,Yl k (L.filterMap (bD k ev.length true))=b0 at *;generalize H.map aF=J at *;simp[g1,g2]
 have x:∀E j i h g,(b2 (aa 1) (aa 4) ao) (rs k R H li l (↑(.int (ev.length:Int))) E j i h g)=some (aF m):=λE j i h g=>by
  unfold rs;generalize Wa k R H l=M,Yl k R=K,H.map aF=J at *;simp[I]
 unfold G7;refine ly Z ?_;unfold OO;refine ly (s2 _ _ _ _) ?_;unfold ON;refine ly (s3 _ _ _ _) ?_;unfold OM;refine ly (ρ':=rs k R H li l (↑(.int (ev.length:Int))) (↑(Yl k L)) (↑(aF (!w))) (↑(aF (!y))) (↑(aF (!A))) (↑(aF (!m)))) ?_ ?_
 .rw[Em,ZZ (x ..)]
  rfl
 unfold OL;refine ly (ρ':=rs k R H li l (↑(.int (ev.length:Int))) (↑(Yl k L)) (↑(aF (!w))) (↑(aF (!y))) (↑(aF (!A))) (↑(aF (!w)))) ?_ ?_
 .rw[u]
  have p:=x (↑(Yl k L)) (↑(aF (!w))) (↑(aF (!y))) (↑(aF (!A))) (↑(aF (!m)));rw[u]at p;unfold rs at p ⊢;generalize Wa k R H l=M,Yl k L=q,Yl k R=K,H.map aF=J,(b2 (aa 1) (aa 4) ao)=fx at *;clear hw Z s2 s3 x F q4 f o hd;cases m<;>cases y<;>cases A<;>simp[p,q1,q2]<;>simp_all
 unfold OK;refine sZ ?_ ?_
 .show(fZ _ _) (d9 t _)=_
  rw[F _ _ _ _ _ (JV ..) (mK ..) (mK ..) (mK ..) (mK ..)];generalize dQ k R H ev=M,Yl k L=q,Yl k R=K,H.map aF=J at *;have q5:=q4 _ rfl;clear F Z s2 s3 x hd;simp[q5,N,O,f,I,q3]
 unfold OJ;refine J2 (c:=decide (li/2^(ev.length%59)%2=1)) (ev:=ev) rfl ?_ hl C Y T λd=>kk ..;unfold rs;generalize Wa k R H l=M,Yl k L=q,Yl k R=K,H.map aF=J at *
 have S:eC (.int li) (.int ((ev.length:Int)%59))=some (.int (li/2^(ev.length%59))):=by
  rw[hj];exact V
 clear V hj;generalize li/2^(ev.length%59)=z at *;simp[S]
end
section
variable {k:Kd}{R:List Rl}{H:AG}{li:Int}
theorem J9(n:Nat)(h:n<=1000):dg [.int (n:Int)]=some ((List.range' 0 n).map λn:Nat=>D.int (n:Int)):=by
 rw[pZ (by lia) (by lia),l7];simp[List.range_eq_range']
def J_{ev:AG}:brk k ev R=[]↔∀r∈R,so k ev r=true:=by
 unfold brk;rw[List.filter_eq_nil_iff];constructor
 .intro h r b
  obtain⟨i,a,e⟩:=List.mem_iff_getElem.mp b;have:=h i (List.mem_range.mpr a)
  have c:iq R i=r:=by simp[iq,a,e]
  rw[c]at this;simpa using this
 .intro h i a
  have a:=Qb a;rw[h _ (Nc a)];simp
theorem Z1{l:Addr}{t:Hs}{ev:AG}(A:H.length<=60)(K:R.length<=60)(h:∀r∈R,Dr k 0 H.length r)(J:t l=some (.bls ev))(c:ev.length=H.length)(o n m p y s:AQ):OP (rs k R H li l o n m p y s) t QK:=by
 have e:∀r∈R,fP k _ r/\sz r<=9999:=λr i=>⟨⟨(h r i).1,(h r i).2.1⟩,by have:=ir (h r i).1 (h r i).2.1;lia⟩
 obtain⟨d,x⟩:=J6 ev 0 R h;rw[Nat.zero_add]at d;have C:=Jp k ev 0 R;have a:=QH (Yl k R) (.tup (H.map cj)) (.lst (ev.map D.bl));rw[show aW _ _ _=dQ k R H ev from rfl,sQ H ev e]at a;have b:=QF (Yl k R) (.tup (H.map cj)) (.lst (ev.map D.bl));rw[show aW _ _ _=dQ k R H ev from rfl,Qv (Nat.le_of_eq c) e]at b;have G:=x ev (λj _=>by rw[Nat.zero_add]);generalize F:jy k 0 ev R=L at *;obtain⟨w,I,v⟩:=Jw (R:=L) (c:=.tup _) rfl A (qv _) (by lia) (by rw[<-c];rw[c];rw[c]at d;exact d);have g:=JL A (qv _) (by rw[c]at d;exact d) v c;rw[Nat.sub_self,gv,<-G,<-J_]at g
 have u:dy k R H ev=aF (!w):=by
  unfold dy;rw[if_neg (by lia)]
  cases w with
  | false=>rw[if_pos (g.mpr rfl)];rfl
  | true=>rw[if_neg (λz=>by have:=g.mp z;cases this)];rfl
 rw[u]at b;have hd:=tp (k:=k) (R:=R) (H:=H) J;have q:=tm (!w) (!w) false
 have f:aV [.tup (H.map aF)]=some (.int H.length):=by
  show some (D.int _)=_;rw[qf]
 have E:aO t (.tup (H.map aF))=.tup (H.map aF):=by rw[aO,lz (mK t)]
 refine⟨.bl true,?_,rfl,trivial⟩
 have:d9 t (rs k R H li l o n m p y s)=some (.sh (aO t (Yl k R)))::some (.sh (.tup (H.map aF)))::some (.sh (aO t (.int li)))::some (.sh (dQ k R H ev))::d9 t [o,n,m,p,y,s]:=by
  rw[<-hd]
  conv=>rhs;rw[<-E]
  rfl
 rw[this];simp[b,f,a,I,q]
theorem Ka(j:H.length<=60)(f:R.length<=60)(b:∀r∈R,Dr k 0 H.length r):rS [Yl k R,.tup (H.map aF),.int li]=some (.bl true):=by
 rw[rS,Yj (by rfl)];have z:Yd 10 [Yl k R,.tup (H.map aF),.int li]=[some _,some _,some _,none,none,none,none,none,none,none]:=rfl;rw[z]
 have F:OR [↑(Yl k R),↑(.tup (H.map aF)),↑(.int li),none,none,none,none,none,none,none]=some (.rt (.bl true)):=by
  refine Nv ?_
  have o:kW [Yl k R,.tup (H.map aF)]=some .non:=by
   rw[<-J1];exact Jr (m:=63) j (by lia) (λr d=>⟨⟨(b r d).1,(b r d).2.1⟩,by have:=ir (b r d).1 (b r d).2.1;lia⟩) (.inr rfl)
  refine sY (J0 rfl o rfl (QG k R) (by rw[<-J1];exact J4 H) λa A _ p _=>?_)
  have K:aW (Yl k R) (.tup (H.map aF)) (.adr a)=Wa k R H a:=by rw[<-J1]
  rw[K];show OQ (rs k R H li a none none none none none none) A QK;have d:=J9 H.length (by lia);refine JM ?_ (QD (λn:Nat=>D.int n) (λm B v=>(∃l i u x y t,B=rs k R H li a l i u x y t)/\∃h,h.length=m.length/\v a=some (.bls h)) (.range' 0 H.length) [] _ A _ ⟨⟨_,_,_,_,_,_,rfl⟩,[],rfl,p⟩ (λq n r B v Q e s C=>?_) λI v s=>?_)
  .have g:aV [.tup (H.map aF)]=some (.int H.length):=by
    show some (D.int ((H.map aF).length))=_;rw[qf]
   simp[g,d]
  .obtain⟨⟨l,i,u,x,y,t,rfl⟩,h,i2,w⟩:=s
   have J:n=q.length/\q.length<H.length:=by
    rw[Qj]at e;have E:=congrArg List.length e;simp at E
    have p:(List.range' 0 H.length)[q.length]?=some n:=by rw[e];simp
    rw[List.getElem?_range' (by lia)]at p;lia
   obtain⟨rfl,G⟩:=J;refine⟨_,rfl,?_⟩;refine Z0 j f b w (by lia) i2.symm _ _ _ _ _ λO M S N L c=>C _ _ ⟨⟨_,_,_,_,_,_,rfl⟩,h++[c],?_,dt⟩;simp[i2]
  .obtain⟨⟨l,i,u,x,y,t,rfl⟩,h,i2,w⟩:=s
   rw[Qj,List.length_range']at i2;exact Z1 j f b w i2 _ _ _ _ _ _
 rw[F];rfl
end
def Kb{k:Kd}{st m n:Nat}{r:Rl}(h:Dr k st m r)(d:m<=n):Dr k st n r:=by
 obtain⟨a,e,f⟩:=h;refine⟨?_,e,f⟩
 cases r with
 | ei l=>exact⟨a.1,λs g=>Qi (a.2 s g) d⟩
 | su b o=>exact⟨a.1,λx c=>Qi (a.2 x c) d⟩
 | im b o=>exact⟨a.1,λx c=>Qi (a.2.1 x c) d,λx c=>Qi (a.2.2 x c) d⟩
theorem law_true(ns:AF)(J:ns.length<=63):mv [.scr ns]=some (.bl true):=by
 rw[mv,Yj (by rfl)];have t:Yd 8 [D.scr ns]=[↑(.scr ns),none,none,none,none,none,none,none]:=rfl;have O:=Hi ns 0 0 rfl;have B:=Hi ns 1 1 rfl;have Z:=Hi ns 2 2 rfl;generalize ns.getD 0 0=u,ns.getD 1 0=T,ns.getD 2 0=Y at *
 obtain⟨n,y,K,N⟩:∃n:Nat,1+u%12=(n:Int)/\1<=n/\n<=12:=⟨(1+u%12).toNat,by lia,by lia,by lia⟩
 obtain⟨d,l,L⟩:=Y7 T n (by lia);obtain⟨v,I,A⟩:=Hk Y 1865811235122147685;subst l
 obtain⟨x,C,q⟩:∃x:Nat,bE [D.int 2,.int 4,.int 8,.int 30] (v%4)=some (.int (x:Int))/\0<x:=by
  rcases(show v%4=0\/v%4=1\/v%4=2\/v%4=3 by lia)with e|e|e|e<;>rw[e]
  .exact⟨2,rfl,by decide⟩
  .exact⟨4,rfl,by decide⟩
  .exact⟨8,rfl,by decide⟩
  .exact⟨30,rfl,by decide⟩
 obtain⟨f,H,i,h⟩:∃f:Nat,fm [.int (d.length:Int),.int (x:Int)]=some (.int (f:Int))/\0<f/\f<=d.length:=by
  by_cases z:(x:Int)<(d.length:Int)
  .exact⟨x,by show some (D.int (if _ then _ else _))=_;rw[if_pos z],q,by lia⟩
  .exact⟨d.length,by show some (D.int (if _ then _ else _))=_;rw[if_neg z],by lia,qv _⟩
 obtain⟨k,V⟩:∃k,bE [D.str "ifs",.str "sums",.str "nots",.str "eithers"] (v/4%4)=some (br k):=by
  rcases(show v/4%4=0\/v/4%4=1\/v/4%4=2\/v/4%4=3 by lia)with e|e|e|e<;>rw[e]
  .exact⟨.i,rfl⟩
  .exact⟨.s,rfl⟩
  .exact⟨.n,rfl⟩
  .exact⟨.e,rfl⟩
 obtain⟨m,w,M⟩:∃m:Nat,3+v/16%13=(m:Int)/\m<=15:=⟨(3+v/16%13).toNat,by lia,by lia⟩
 have p:=Hj ns 3 m
 have g:((ns.drop (min 3 ns.length)).take (min m ns.length-min 3 ns.length)).length<=60:=by
  rw[List.length_take];lia
 generalize (ns.drop (min 3 ns.length)).take (min m ns.length-min 3 ns.length)=a at *
 obtain⟨R,F,o,j⟩:=drawn (fe:=G_) (r:=[↑(br k),↑(.int (f:Int))]) (P:=Dr k 0 f) (λc=>by
  obtain⟨r,S,Q,E,s⟩:=HL k c 0 f i (by lia);have s:rP [br k,.int c,.int 0,.int (f:Int)]=some (aL r):=s;refine⟨r,⟨S,Q,E⟩,?_⟩;generalize br k=kk at *
  simp[G_,s]) a
 have b:=Ka (k:=k) (R:=R) (H:=d) (li:=v/1024) (by lia) (by lia) λr G=>Kb (o r G) h;have b:rS [.tup [br k,.tup (R.map aL)],.tup (d.map aF),.int (v/1024)]=some (.bl true):=b;rw[t];generalize R.map aL=RD,d.map aF=HS,br k=kk at *;have p:bN (ns.map D.int) (some 3) (some (m:Int))=a.map D.int:=p
 have U:kZ [↑(.scr ns),none,none,none,none,none,none,none]=some (.rt (.bl true)):=by
  rw[kZ,eS];simp[O,y];rw[OY,eS];simp[B,L];rw[OX,eS];simp[Z,A];rw[OW,eS];simp[C,H];rw[OV,eS];simp;rw[OU,eS];simp[V];rw[OT,eS];simp[w,p,ak,j];rw[OS];simp[b]
 rw[U];rfl
end Lw
end
noncomputable section
namespace Op
open PySem PySem.W PyProof.Rows PySem.Calls
abbrev pg:P7:=PySem.Challenge.pw_duskbook_k67_whole_step_by_step
noncomputable def eN(i j:Nat):Stmt:=L2.inClass (Lw.top i) j
abbrev en(P:Params)(x:Str)(t:Nat)(v:Value):DictEntry:=⟨PyData.keyHash P x,.str x t,v⟩
abbrev fn(e a:Str)(s:Stmt)(i k c h:Value)(f:Option Addr)(d j:Value)(g b:Nat):Data:=.func ⟨e,a,L2.aGa s,.stmts (L2.aFa s),L2.aDa s,g,[],i,k,c,h,f,d,j,b⟩
abbrev tu(l:AC):Obj:=⟨.type "tuple",none,.seq ⟨l⟩ 0,#[]⟩
abbrev oK(x:Str)(t l b k e:Nat):Obj:=⟨.type "code",none,.fields #[.str x t,.str x (t+1),.str "/claim/cut.py" (t+2),.int l 0,.int 0 0,.int 0 0,.int 0 0,.int 0 0,.ref b,.bool false,.int k 0,.ref (b+1),.none,.none,.none,.none,.int e 0,.int l 0,.str "/claim/cut.py" (e+1)],#[]⟩
abbrev oQ(x q:Str)(t l n b:Nat)(u v:Value)(c k e:Nat):Obj:=⟨.type "code",none,.fields #[.str x t,.str q (t+1),.str "/claim/cut.py" (t+2),.int l 0,.int n 0,.int 0 0,.int 0 0,.int 3 0,.ref b,.bool true,.int k 0,.ref (b+1),.none,u,v,.ref c,.int e 0,.int l 0,.str "/claim/cut.py" (e+1)],#[]⟩
abbrev oX(a b:Nat)(x:Str)(t:Nat):Obj:=⟨.type "frame",none,.plain,#[some (.ref a),some (.ref 3),some (.ref b),none,some (.str x t),none,some (.ref 0)]⟩
abbrev oP:Obj:=⟨.type "builtin_function_or_method",none,.fields #[.builtin "type.__prepare__",.type "type"],#[]⟩
abbrev oI(a:Nat):Obj:=⟨.type "builtin_function_or_method",none,.fields #[.builtin "object.__init_subclass__",.ref a],#[]⟩
abbrev oS(a:Nat):Obj:=⟨.type "super",none,.fields #[.ref a,.ref a,.ref a],#[]⟩
abbrev oD(l:Array DictEntry)(n:Nat):Obj:=⟨.type "dict",none,.dict l n,#[]⟩
abbrev iz(n:Int):Value:=.int n 0
abbrev rf(n:Nat):Value:=.ref n
abbrev Z'(P:Params)(x:Str)(t n:Nat):=en P x t (rf n)
abbrev fl:Obj:=⟨.none,none,.fields #[],#[]⟩
abbrev oZ(x:Str)(i:Nat):Obj:=⟨.none,none,fn x x (Lw.top i) .none .none .none .none none .none .none 0 0,#[]⟩
abbrev oF(x:Str)(i:Nat)(d:Value)(c:Nat):Obj:=⟨.type "function",none,.func (fnOf x x (L2.aGa (Lw.top i)) (L2.aFa (Lw.top i)) (L2.aDa (Lw.top i)) .none .none .none d none (.ref c) .none),#[]⟩
abbrev oM(x q:Str)(i j:Nat)(d:Value)(c:Nat):Obj:=⟨.type "function",none,.func (fnOf x q (L2.aGa (L2.inClass (Lw.top i) j)) (L2.aFa (L2.inClass (Lw.top i) j)) (L2.aDa (L2.inClass (Lw.top i) j)) .none .none .none d none (.ref c) .none),#[]⟩
abbrev oC(x:Str)(t l n b:Nat)(u v:Value)(c k e:Nat):Obj:=⟨.type "code",none,.fields #[.str x t,.str x (t+1),.str "/claim/cut.py" (t+2),.int (.ofNat l) 0,.int (.ofNat n) 0,.int 0 0,.int 0 0,.int 3 0,.ref b,.bool true,.int (.ofNat k) 0,.ref (b+1),.none,u,v,.ref c,.int (.ofNat e) 0,.int (.ofNat l) 0,.str "/claim/cut.py" (e+1)],#[]⟩
abbrev p0:Value:=.str "__main__" 164
abbrev p1:Value:=.str "duskbook.roads" 194
abbrev p2:Value:=.str "duskbook.blends" 231
abbrev p3:Value:=.str "duskbook.parts" 258
abbrev p4:Value:=.str "duskbook.adding" 269
abbrev p5:Value:=.str "duskbook.books" 370
abbrev p6:Value:=.str "duskbook.deriving" 487
abbrev p7:Value:=.str "duskbook.storming" 529
abbrev p8:Value:=.str "duskbook.eitherways" 537
abbrev p9:Value:=.str "duskbook.keeping" 631
abbrev gS:Value:=.str "duskbook.ifways" 650
abbrev jz:Value:=.str "duskbook.sumways" 700
abbrev d0:Value:=.str "duskbook.watches" 746
abbrev eO:Value:=.str "law_duskbook_k67_whole_step_by_step" 839
def Z2(P:Params):List DictEntry:=[en P "__doc__" 166 .none,en P "__package__" 167 .none,en P "__loader__" 168 (.builtin "__main__.__loader__#opaque"),en P "__spec__" 169 .none,Z' P "__annotations__" 170 6,Z' P "__builtins__" 171 4,en P "__file__" 173 (.str "/claim/cut.py" 172),en P "__cached__" 174 .none,Z' P "_wall" 193 21,Z' P "contrary" 202 28,Z' P "led_to" 208 33,Z' P "traced" 218 40,Z' P "ways_from" 230 47,Z' P "EXCHANGED_KINDS" 245 48,Z' P "exchanged_rule" 251 53,Z' P "exchanged" 257 58,Z' P "HANDS" 262 59,Z' P "beacons_with" 268 64,Z' P "both_added" 278 71,Z' P "pairs_added" 286 78,Z' P "cleared" 295 85,Z' P "reduced" 301 90,Z' P "DuskError" 321 100,Z' P "NoHands" 337 113,Z' P "Over" 353 125,Z' P "NoLight" 369 137,en P "BEACON_COUNT" 373 (.int (60) 372),Z' P "either_holds" 379 144,Z' P "sum_holds" 385 149,Z' P "if_holds" 391 154,Z' P "rule_holds" 400 161,Z' P "broken_rules" 406 166,Z' P "holds" 414 173,Z' P "beacons_in" 420 178,Z' P "beacons_of" 429 185,Z' P "is_void" 437 192,Z' P "without" 443 197,Z' P "either_left" 449 202,Z' P "sum_left" 460 209,Z' P "if_left" 470 216]
def Z3(P:Params):List DictEntry:=[Z' P "rule_left" 480 223,Z' P "left_behind" 486 228,Z' P "is_place" 496 235,Z' P "body_is_known" 502 240,Z' P "is_step" 512 247,Z' P "step_to_more" 522 254,Z' P "derived_in_full" 528 259,Z' P "is_broken" 536 264,Z' P "sayings_of" 547 271,Z' P "lead_to_one_another" 556 278,Z' P "clash_found" 565 285,Z' P "cross_found" 575 292,Z' P "late_found" 586 299,Z' P "storms_paper" 592 304,Z' P "free_saying" 601 311,Z' P "truths_made" 613 318,Z' P "plan_row" 624 325,Z' P "either_outcome" 630 330,Z' P "replaced" 643 337,Z' P "ahead_of" 649 342,Z' P "places_to_none" 661 349,Z' P "places_to_beacon" 667 354,Z' P "some_of" 673 359,Z' P "facts_beside" 682 366,Z' P "if_outcome" 699 373,Z' P "last_beacon" 708 380,Z' P "storms_places" 714 385,Z' P "sum_rows" 720 390,Z' P "sum_outcome" 733 397,Z' P "outcome" 745 405,Z' P "is_hand" 754 412,Z' P "check_hands" 760 417,Z' P "Watch" 838 476,Z' P "_law_cell" 848 487,Z' P "_law_mixed" 856 494,Z' P "_law_hands" 862 499,Z' P "_law_own" 868 504,Z' P "_law_rule" 874 509,Z' P "_law_hand" 884 516,Z' P "_law_steps" 900 523]
def Z4(P:Params):List DictEntry:=[Z' P "law" 906 528]
def et(P:Params):List DictEntry:=Z2 P++Z3 P++Z4 P
abbrev ns(P:Params)(x:DictEntry)(n k:Nat):Obj:=⟨.type "dict",none,.dict ⟨x::(et P).take n⟩ k,#[]⟩
def Z5:AC:=[(iz 1),(iz 0),(rf 20),(iz 5),(iz 0),(rf 27),(iz 7),(iz 0),(rf 32),(iz 15),(iz 0),(rf 39),(iz 22),(iz 0),(rf 46),(iz 35),(iz 0),(rf 52),(iz 41),(iz 0),(rf 57),(iz 46),(iz 0),(rf 63),(iz 49),(iz 0),(rf 70),(iz 51),(iz 0),(rf 77),(iz 53),(iz 0),(rf 84),(iz 58),(iz 0),(rf 89),(iz 70),(iz 0),(rf 96),(iz 72)]
def Z6:AC:=[(iz 0),(rf 109),(iz 74),(iz 0),(rf 121),(iz 76),(iz 0),(rf 133),(iz 80),(iz 0),(rf 143),(iz 82),(iz 0),(rf 148),(iz 85),(iz 0),(rf 153),(iz 89),(iz 0),(rf 160),(iz 95),(iz 0),(rf 165),(iz 97),(iz 0),(rf 172),(iz 99),(iz 0),(rf 177),(iz 105),(iz 0),(rf 184),(iz 110),(iz 0),(rf 191),(iz 112),(iz 0),(rf 196),(iz 114),(iz 0)]
def Z7:AC:=[(rf 201),(iz 118),(iz 0),(rf 208),(iz 124),(iz 0),(rf 215),(iz 131),(iz 0),(rf 222),(iz 139),(iz 0),(rf 227),(iz 143),(iz 0),(rf 234),(iz 145),(iz 0),(rf 239),(iz 147),(iz 0),(rf 246),(iz 152),(iz 0),(rf 253),(iz 157),(iz 0),(rf 258),(iz 167),(iz 0),(rf 263),(iz 170),(iz 0),(rf 270),(iz 175),(iz 0),(rf 277),(iz 177),(iz 0),(rf 284)]
def Z8:AC:=[(iz 183),(iz 0),(rf 291),(iz 189),(iz 0),(rf 298),(iz 195),(iz 0),(rf 303),(iz 201),(iz 0),(rf 310),(iz 204),(iz 0),(rf 317),(iz 212),(iz 0),(rf 324),(iz 217),(iz 0),(rf 329),(iz 227),(iz 0),(rf 336),(iz 233),(iz 0),(rf 341),(iz 236),(iz 0),(rf 348),(iz 241),(iz 0),(rf 353),(iz 246),(iz 0),(rf 358),(iz 248),(iz 0),(rf 365),(iz 250)]
def Z9:AC:=[(iz 0),(rf 372),(iz 267),(iz 0),(rf 379),(iz 269),(iz 0),(rf 384),(iz 274),(iz 0),(rf 389),(iz 282),(iz 0),(rf 396),(iz 291),(iz 0),(rf 404),(iz 300),(iz 0),(rf 411),(iz 302),(iz 0),(rf 416),(iz 309),(iz 0),(rf 423),(iz 347),(iz 0),(rf 486),(iz 351),(iz 0),(rf 493),(iz 353),(iz 0),(rf 498),(iz 356),(iz 0),(rf 503),(iz 358),(iz 0)]
def Z_:AC:=[(rf 508),(iz 378),(iz 0),(rf 515),(iz 383),(iz 0),(rf 522),(iz 397),(iz 0),(rf 527)]
def ff:AC:=Z5++Z6++Z7++Z8++Z9++Z_
abbrev ft(n:Nat):Obj:=⟨.none,none,.fields ⟨ff.take n⟩,#[]⟩
abbrev dF(x:Str)(i l n t b:Nat)(a:Value)(k:Nat):List Obj:=[tu [],fl,oZ x i,oC x t l n b .none .none (b+2) k (t+3),oF x i a (b+3)]
abbrev dG(x:Str)(i l n t b:Nat)(a:Value)(k:Nat)(u:AC):List Obj:=[tu [],fl,tu u,tu [],oZ x i,oC x t l n b (.ref (b+2)) (.ref (b+3)) (b+4) k (t+3+u.length),oF x i a (b+5)]
def al0(P:Params):List Obj:=[boot_o_0 P,boot_o_1 P,boot_o_2 P,ns P (en P "__name__" 165 (.str "law_duskbook_k67_whole_step_by_step" 839)) 81 82,boot_o_4 P,boot_o_5 P,boot_o_6 P,boot_o_7 P,boot_o_8 P,boot_o_9 P,boot_o_10 P,tu [],ft 210,(oK "<module>" 182 1 11 181 185),(oX 13 3 "__main__" 164)]++(dG "_wall" 0 1 1 187 15 p0 181 [(.str "k" 190)]++(dG "contrary" 2 5 1 196 22 p1 181 [(.str "saying" 199)]++(dF "led_to" 3 7 2 203 29 p1 181++(dG "traced" 4 15 2 209 34 p1 181 [(.str "ahead" 212),(.str "last" 213),(.str "road" 214),(.str "saying" 215)]++(dG "ways_from" 5 22 2 219 41 p1 181 [(.str "book" 222),(.str "saying" 223),(.str "ahead" 224),(.str "reached" 225),(.str "place" 226),(.str "led" 227)]++([(oD #[en P "eithers" 233 (.str "eithers" 234),en P "sums" 235 (.str "sums" 236),en P "ifs" 237 (.str "nots" 238),en P "nots" 239 (.str "ifs" 240)] 4)]++(dF "exchanged_rule" 8 35 2 246 49 p2 181++(dF "exchanged" 9 41 1 252 54 p2 181++([tu [(.str "keeper" 260),(.str "storm" 261)]]++(dF "beacons_with" 12 46 3 263 60 p3 181++(dG "both_added" 14 49 2 271 65 p4 181 [(.str "rule" 274),(.str "other" 275)]++(dG "pairs_added" 15 51 2 279 72 p4 181 [(.str "pair" 282),(.str "other" 283)]++(dG "cleared" 16 53 2 287 79 p4 181 [(.str "pair" 290),(.str "by_last" 291),(.str "left" 292)]++(dF "reduced" 17 58 1 296 86 p4 181++([tu [(.type "ValueError")],oP,(oD #[en P "__module__" 311 (.str "duskbook.errors" 302),en P "__qualname__" 313 (.str "DuskError" 312),en P "__firstlineno__" 315 (.int (70) 314),Z' P "__static_attributes__" 316 98] 4),tu [],fl,(oK "DuskError" 306 70 94 181 309),(oX 96 93 "duskbook.errors" 302),tu [],(oD #[en P "__module__" 311 (.str "duskbook.errors" 302),en P "__firstlineno__" 315 (.int (70) 314),Z' P "__static_attributes__" 316 98,Z' P "__weakref__" 318 101,en P "__doc__" 319 .none] 3),⟨(.type "type"),none,(.cls ⟨"DuskError",[(.type "ValueError")],[(rf 100),(.type "ValueError"),(.type "Exception"),(.type "BaseException"),(.type "object")],99,"DuskError",true,[],[(rf 113),(rf 125),(rf 137)],false,none,false⟩),#[(some (rf 91)),none,(some (.str "DuskError" 304)),(some (.str "DuskError" 312)),(some (.builtin "ValueError.__new__")),(some (.bool true))]⟩,⟨(.type "getset_descriptor"),none,(.fields #[(.str "__weakref__" 317),(rf 100),(.builtin "ExceptionGroup.__weakref__"),.none]),#[]⟩,(oS 100),(oI 100),tu [(rf 100)],oP,(oD #[en P "__module__" 329 (.str "duskbook.errors" 302),en P "__qualname__" 331 (.str "NoHands" 330),en P "__firstlineno__" 333 (.int (72) 332),Z' P "__static_attributes__" 334 111] 4),tu [],fl,(oK "NoHands" 324 72 107 181 327),(oX 109 106 "duskbook.errors" 302),tu [],(oD #[en P "__module__" 329 (.str "duskbook.errors" 302),en P "__firstlineno__" 333 (.int (72) 332),Z' P "__static_attributes__" 334 111,en P "__doc__" 335 .none] 2),⟨(.type "type"),none,(.cls ⟨"NoHands",[(rf 100)],[(rf 113),(rf 100),(.type "ValueError"),(.type "Exception"),(.type "BaseException"),(.type "object")],112,"NoHands",true,[],[],false,none,false⟩),#[(some (rf 104)),none,(some (.str "NoHands" 322)),(some (.str "NoHands" 330)),(some (.builtin "ValueError.__new__")),(some (.bool true))]⟩,(oS 113),(oI 113),tu [(rf 100)],oP,(oD #[en P "__module__" 345 (.str "duskbook.errors" 302),en P "__qualname__" 347 (.str "Over" 346),en P "__firstlineno__" 349 (.int (74) 348),Z' P "__static_attributes__" 350 123] 4),tu [],fl,(oK "Over" 340 74 119 181 343),(oX 121 118 "duskbook.errors" 302),tu [],(oD #[en P "__module__" 345 (.str "duskbook.errors" 302),en P "__firstlineno__" 349 (.int (74) 348),Z' P "__static_attributes__" 350 123,en P "__doc__" 351 .none] 2),⟨(.type "type"),none,(.cls ⟨"Over",[(rf 100)],[(rf 125),(rf 100),(.type "ValueError"),(.type "Exception"),(.type "BaseException"),(.type "object")],124,"Over",true,[],[],false,none,false⟩),#[(some (rf 116)),none,(some (.str "Over" 338)),(some (.str "Over" 346)),(some (.builtin "ValueError.__new__")),(some (.bool true))]⟩,(oS 125),(oI 125),tu [(rf 100)],oP,(oD #[en P "__module__" 361 (.str "duskbook.errors" 302),en P "__qualname__" 363 (.str "NoLight" 362),en P "__firstlineno__" 365 (.int (76) 364),Z' P "__static_attributes__" 366 135] 4)]++([tu [],fl,(oK "NoLight" 356 76 131 181 359),(oX 133 130 "duskbook.errors" 302),tu [],(oD #[en P "__module__" 361 (.str "duskbook.errors" 302),en P "__firstlineno__" 365 (.int (76) 364),Z' P "__static_attributes__" 366 135,en P "__doc__" 367 .none] 2),⟨(.type "type"),none,(.cls ⟨"NoLight",[(rf 100)],[(rf 137),(rf 100),(.type "ValueError"),(.type "Exception"),(.type "BaseException"),(.type "object")],136,"NoLight",true,[],[],false,none,false⟩),#[(some (rf 128)),none,(some (.str "NoLight" 354)),(some (.str "NoLight" 362)),(some (.builtin "ValueError.__new__")),(some (.bool true))]⟩,(oS 137),(oI 137)]++(dF "either_holds" 25 80 2 374 140 p5 181++(dF "sum_holds" 26 82 2 380 145 p5 181++(dF "if_holds" 27 85 3 386 150 p5 181++(dG "rule_holds" 28 89 3 392 155 p5 181 [(.str "kind" 395),(.str "rule" 396),(.str "evening" 397)]++(dF "broken_rules" 29 95 2 401 162 p5 181++(dG "holds" 30 97 2 407 167 p5 181 [(.str "book" 410),(.str "evening" 411)]++(dF "beacons_in" 31 99 2 415 174 p5 181++(dG "beacons_of" 32 105 1 421 179 p5 181 [(.str "book" 424),(.str "found" 425),(.str "rule" 426)]))))))))))))))))))))))))
def al1(P:Params):List Obj:=dG "is_void" 33 110 2 430 186 p5 181 [.str "kind" 433,.str "rule" 434]++(dF "without" 34 112 2 438 193 p5 181++(dF "either_left" 35 114 3 444 198 p5 181++(dG "sum_left" 36 118 3 450 203 p5 181 [.str "rule" 453,.str "beacon" 454,.str "lit" 455,.str "beacons" 456,.str "odd" 457]++(dG "if_left" 37 124 3 461 210 p5 181 [.str "rule" 464,.str "beacon" 465,.str "so" 466,.str "head" 467]++(dG "rule_left" 38 131 4 471 217 p5 181 [.str "kind" 474,.str "rule" 475,.str "beacon" 476,.str "lit" 477]++(dF "left_behind" 39 139 3 481 224 p5 181++(dG "is_place" 41 143 2 489 229 p6 181 [.str "book" 492,.str "place" 493]++(dF "body_is_known" 42 145 2 497 236 p6 181++(dG "is_step" 43 147 3 503 241 p6 181 [.str "book" 506,.str "known" 507,.str "place" 508,.str "rule" 509]++(dG "step_to_more" 44 152 2 513 248 p6 181 [.str "book" 516,.str "known" 517,.str "place" 518,.str "rule" 519]++(dF "derived_in_full" 45 157 2 523 255 p6 181++(dF "is_broken" 47 167 1 531 260 p7 181++(dG "sayings_of" 49 170 1 539 265 p8 181 [.str "beacons" 542,.str "sayings" 543,.str "beacon" 544]++(dG "lead_to_one_another" 50 175 3 548 272 p8 181 [.str "ways" 551,.str "saying" 552,.str "other" 553]++(dG "clash_found" 51 177 1 557 279 p8 181 [.str "ways" 560,.str "saying" 561,.str "other" 562]++(dG "cross_found" 52 183 2 566 286 p8 181 [.str "ways" 569,.str "storms" 570,.str "saying" 571,.str "other" 572]++(dG "late_found" 53 189 3 576 293 p8 181 [.str "ways" 579,.str "keepers" 580,.str "storms" 581,.str "saying" 582,.str "other" 583]++(dF "storms_paper" 54 195 4 587 300 p8 181++(dG "free_saying" 55 201 2 593 305 p8 181 [.str "keeper" 596,.str "ways" 597,.str "dark" 598]++(dG "truths_made" 56 204 3 602 312 p8 181 [.str "ways" 605,.str "keepers" 606,.str "storms" 607,.str "truths" 608,.str "saying" 609,.str "keeper" 610]++(dG "plan_row" 57 212 4 614 319 p8 181 [.str "keeper" 617,.str "ways" 618,.str "storms" 619,.str "truths" 620,.str "saying" 621]++(dF "either_outcome" 58 217 3 625 326 p8 181++(dG "replaced" 60 227 2 633 331 p9 181 [.str "rule" 636,.str "sums" 637,.str "whole" 638,.str "beacon" 639,.str "row" 640]++(dF "ahead_of" 61 233 2 644 338 p9 181))))))))))))))))))))))))
def al2(P:Params):List Obj:=dG "places_to_none" 63 236 2 652 343 gS 181 [(.str "book" 655),(.str "full" 656),(.str "place" 657),(.str "rule" 658)]++(dF "places_to_beacon" 64 241 3 662 350 gS 181++(dF "some_of" 65 246 2 668 355 gS 181++(dG "facts_beside" 66 248 3 674 360 gS 181 [(.str "beacon" 677),(.str "storms" 678),(.str "first" 679)]++(dG "if_outcome" 67 250 3 683 367 gS 181 [(.str "book" 686),(.str "hands" 687),(.str "start" 688),(.str "keepers" 689),(.str "storms" 690),(.str "whole" 691),(.str "places" 692),(.str "first" 693),(.str "rows" 694),(.str "beacon" 695),(.str "full" 696)]++(dG "last_beacon" 69 267 1 702 374 jz 181 [(.str "pair" 705)]++(dF "storms_places" 70 269 3 709 381 jz 181++(dF "sum_rows" 71 274 2 715 386 jz 181++(dG "sum_outcome" 72 282 3 721 391 jz 181 [(.str "book" 724),(.str "hands" 725),(.str "start" 726),(.str "keepers" 727),(.str "storms" 728),(.str "answer" 729),(.str "places" 730)]++([tu [(.int (0) 736)],tu [],fl,tu [(.str "book" 740),(.str "hands" 741),(.str "start" 742)],tu [],oZ "outcome" 74,oC "outcome" 737 291 3 399 (rf 401) (rf 402) 403 181 743,⟨(.type "function"),none,(fn "outcome" "outcome" (Lw.top 74) (rf 398) .none .none (.str "duskbook.outcomes" 734) none (rf 404) .none 3 0),#[]⟩]++(dG "is_hand" 76 300 1 748 406 d0 181 [(.str "thing" 751)]++(dF "check_hands" 77 302 2 755 413 d0 181++([tu [],oP,(oD #[en P "__module__" 768 (.str "duskbook.watches" 746),en P "__qualname__" 770 (.str "Watch" 769),en P "__firstlineno__" 772 (.int (309) 771),Z' P "__init__" 781 431,Z' P "turn" 788 438,Z' P "evening" 795 445,Z' P "left" 805 452,Z' P "winner" 812 459,Z' P "settle" 820 466,Z' P "back" 827 473,Z' P "__static_attributes__" 831 474] 11),tu [],⟨.none,none,(.fields #[(iz 311),(iz 4),(rf 430),(iz 317),(iz 4),(rf 437),(iz 322),(iz 4),(rf 444),(iz 325),(iz 4),(rf 451),(iz 331),(iz 4),(rf 458),(iz 336),(iz 4),(rf 465),(iz 344),(iz 4),(rf 472)]),#[]⟩,(oK "Watch" 763 309 421 181 766),(oX 423 420 "duskbook.watches" 746),tu [],fl,tu [(.str "self" 776),(.str "book" 777),(.str "hands" 778)],tu [],⟨.none,none,(fn "__init__" "Watch.__init__" (eN 78 0) .none .none .none .none none .none .none 0 0),#[]⟩,(oQ "__init__" "Watch.__init__" 773 311 3 425 (rf 427) (rf 428) 429 181 779),oM "__init__" "Watch.__init__" 78 0 d0 430,tu [],fl,tu [(.str "self" 785)],tu [],⟨.none,none,(fn "turn" "Watch.turn" (eN 78 1) .none .none .none .none none .none .none 0 0),#[]⟩,(oQ "turn" "Watch.turn" 782 317 1 432 (rf 434) (rf 435) 436 181 786),oM "turn" "Watch.turn" 78 1 d0 437,tu [],fl,tu [(.str "self" 792)],tu [],⟨.none,none,(fn "evening" "Watch.evening" (eN 78 2) .none .none .none .none none .none .none 0 0),#[]⟩,(oQ "evening" "Watch.evening" 789 322 1 439 (rf 441) (rf 442) 443 181 793),oM "evening" "Watch.evening" 78 2 d0 444,tu [],fl,tu [(.str "self" 799),(.str "book" 800),(.str "beacon" 801),(.str "lit" 802)],tu [],⟨.none,none,(fn "left" "Watch.left" (eN 78 3) .none .none .none .none none .none .none 0 0),#[]⟩,(oQ "left" "Watch.left" 796 325 1 446 (rf 448) (rf 449) 450 181 803),oM "left" "Watch.left" 78 3 d0 451,tu [],fl,tu [(.str "self" 809)],tu [],⟨.none,none,(fn "winner" "Watch.winner" (eN 78 4) .none .none .none .none none .none .none 0 0),#[]⟩]++([(oQ "winner" "Watch.winner" 806 331 1 453 (rf 455) (rf 456) 457 181 810),oM "winner" "Watch.winner" 78 4 d0 458,tu [],fl,tu [(.str "self" 816),(.str "lit" 817)],tu [],⟨.none,none,(fn "settle" "Watch.settle" (eN 78 5) .none .none .none .none none .none .none 0 0),#[]⟩,(oQ "settle" "Watch.settle" 813 336 2 460 (rf 462) (rf 463) 464 181 818),oM "settle" "Watch.settle" 78 5 d0 465,tu [],fl,tu [(.str "self" 824)],tu [],⟨.none,none,(fn "back" "Watch.back" (eN 78 6) .none .none .none .none none .none .none 0 0),#[]⟩,(oQ "back" "Watch.back" 821 344 1 467 (rf 469) (rf 470) 471 181 825),oM "back" "Watch.back" 78 6 d0 472,tu [(.str "book" 828),(.str "hands" 829),(.str "truths" 830)],(oD #[en P "__module__" 768 (.str "duskbook.watches" 746),en P "__firstlineno__" 772 (.int (309) 771),Z' P "__init__" 781 431,Z' P "turn" 788 438,Z' P "evening" 795 445,Z' P "left" 805 452,Z' P "winner" 812 459,Z' P "settle" 820 466,Z' P "back" 827 473,Z' P "__static_attributes__" 831 474,Z' P "__dict__" 833 477,Z' P "__weakref__" 835 478,en P "__doc__" 836 .none] 4),⟨(.type "type"),none,(.cls ⟨"Watch",[(.type "object")],[(rf 476),(.type "object")],475,"Watch",true,[],[],false,none,false⟩),#[none,none,(some (.str "Watch" 761)),(some (.str "Watch" 769)),(some (.builtin "object.__new__")),(some (.bool true))]⟩,⟨(.type "getset_descriptor"),none,(.fields #[(.str "__dict__" 832),(rf 476),(.builtin "function.__dict__"),(.builtin "function.__dict__#set")]),#[]⟩,⟨(.type "getset_descriptor"),none,(.fields #[(.str "__weakref__" 834),(rf 476),(.builtin "ExceptionGroup.__weakref__"),.none]),#[]⟩,(oS 476),(oI 476)]++(dG "_law_cell" 80 347 2 841 481 eO 181 [(.str "script" 844),(.str "k" 845)]++(dG "_law_mixed" 81 351 2 849 488 eO 181 [(.str "cell" 852),(.str "by" 853)]++(dF "_law_hands" 82 353 2 857 495 eO 181++(dF "_law_own" 83 356 3 863 500 eO 181++(dF "_law_rule" 84 358 4 869 505 eO 181++(dG "_law_hand" 85 378 3 875 510 eO 181 [(.str "book" 878),(.str "hands" 879),(.str "start" 880),(.str "found" 881)]++(dG "_law_steps" 86 383 3 885 517 eO 181 [(.str "book" 888),(.str "hands" 889),(.str "lights" 890),(.str "watch" 891),(.str "beacon" 892),(.str "left" 893),(.str "hand" 894),(.str "dark" 895),(.str "lit" 896),(.str "due" 897)]++(dF "law" 87 397 1 901 524 eO 181)))))))))))))))))))))
def al(P:Params):List Obj:=al0 P++al1 P++al2 P
def upd(l:List (Nat×Obj))(xs:List Obj):List Obj:=l.foldl (λxs p=>xs.set p.1 p.2) xs
def ev:List Obj->List Obj
 | []=>[]
 | [x]=>[x]
 | x::_::r=>x::ev r
def bt:Nat->List Obj->BT
 | 0,_=>.nil
 | _+1,[]=>.nil
 | n+1,x::xs=>.node x (bt n (ev xs)) (bt n (ev xs.tail))
abbrev bd:List Stmt:=behindTheImports pg
abbrev sl(i n:Nat):List Stmt:=(bd.drop i).take n
abbrev env:Env:={ scope:=pg.main.scope,locals:=mainNs,globals:=mainNs,cells:=[],code:=(rf 13),frame:=some 14 }
abbrev cE:Code:=.body bd env
abbrev B:List Frame:=[topFrame ⟨0,0,0,0⟩]
abbrev ss(n:Nat)(l:Params->List (Nat×Obj))(t:Nat)(w:World)(os:OsState):SharedT:=⟨bt 12 (upd (l w.params) ((al w.params).take n)),n,{},.mk [],boot_drawn,t,os⟩
def h0(P:Params):Heap:=⟨⟨upd [(3,boot_o_3 P),(12,fl)] ((al P).take 15)⟩,{}⟩
abbrev s0(w:World)(os:OsState):Shared:=⟨h0 w.params,.mk [],boot_drawn,187,os⟩
abbrev s1:World->OsState->SharedT:=ss 15 (λP=>[(3,boot_o_3 P),(12,fl)]) 187
abbrev s2:World->OsState->SharedT:=ss 72 (λP=>[(3,ns P (en P "__name__" 165 (.str "duskbook.adding" 269)) 19 20),(12,ft 27)]) 279
abbrev s3:World->OsState->SharedT:=ss 104 (λP=>[(3,ns P (en P "__name__" 165 (.str "duskbook.errors" 302)) 23 24),(12,ft 39),(100,⟨(.type "type"),none,(.cls ⟨"DuskError",[(.type "ValueError")],[(rf 100),(.type "ValueError"),(.type "Exception"),(.type "BaseException"),(.type "object")],99,"DuskError",true,[],[],false,none,false⟩),#[(some (rf 91)),none,(some (.str "DuskError" 304)),(some (.str "DuskError" 312)),(some (.builtin "ValueError.__new__")),(some (.bool true))]⟩)]) 322
abbrev s4:World->OsState->SharedT:=ss 116 (λP=>[(3,ns P (en P "__name__" 165 (.str "duskbook.errors" 302)) 24 25),(12,ft 42),(100,⟨(.type "type"),none,(.cls ⟨"DuskError",[(.type "ValueError")],[(rf 100),(.type "ValueError"),(.type "Exception"),(.type "BaseException"),(.type "object")],99,"DuskError",true,[],[(rf 113)],false,none,false⟩),#[(some (rf 91)),none,(some (.str "DuskError" 304)),(some (.str "DuskError" 312)),(some (.builtin "ValueError.__new__")),(some (.bool true))]⟩)]) 338
abbrev s5:World->OsState->SharedT:=ss 128 (λP=>[(3,ns P (en P "__name__" 165 (.str "duskbook.errors" 302)) 25 26),(12,ft 45),(100,⟨(.type "type"),none,(.cls ⟨"DuskError",[(.type "ValueError")],[(rf 100),(.type "ValueError"),(.type "Exception"),(.type "BaseException"),(.type "object")],99,"DuskError",true,[],[(rf 113),(rf 125)],false,none,false⟩),#[(some (rf 91)),none,(some (.str "DuskError" 304)),(some (.str "DuskError" 312)),(some (.builtin "ValueError.__new__")),(some (.bool true))]⟩)]) 354
abbrev s6:World->OsState->SharedT:=ss 174 (λP=>[(3,ns P (en P "__name__" 165 (.str "duskbook.books" 370)) 33 34),(12,ft 66)]) 415
abbrev s7:World->OsState->SharedT:=ss 255 (λP=>[(3,ns P (en P "__name__" 165 (.str "duskbook.deriving" 487)) 46 47),(12,ft 105)]) 523
abbrev s8:World->OsState->SharedT:=ss 331 (λP=>[(3,ns P (en P "__name__" 165 (.str "duskbook.keeping" 631)) 58 59),(12,ft 141)]) 633
abbrev s9:World->OsState->SharedT:=ss 406 (λP=>[(3,ns P (en P "__name__" 165 (.str "duskbook.watches" 746)) 70 71),(12,ft 177)]) 748
abbrev Kc:World->OsState->SharedT:=ss 418 (λP=>[(3,ns P (en P "__name__" 165 (.str "duskbook.watches" 746)) 72 73),(12,ft 183)]) 761
abbrev Ke:World->OsState->SharedT:=ss 481 (λP=>[(3,ns P (en P "__name__" 165 (.str "duskbook.watches" 746)) 73 74),(12,ft 186)]) 839
abbrev Kf:World->OsState->SharedT:=ss 529 (λP=>[]) 907
def yb(P:Params):Heap:=⟨⟨upd [] ((al P).take 529)⟩,{}⟩
abbrev mL(w:World)(os:OsState):Shared:=⟨yb w.params,.mk [],boot_drawn,907,os⟩
abbrev sz(w:World)(os:OsState):Shared:=⟨boot_heap w.params,.mk [],boot_drawn,boot_toks,os⟩
def e0:∀w:World,(λos=>topGo treeTable pg w 11 (some (rf 6)) 12 (sz w os) (topStub pg))=λos=>some (s0 w os,⟨denote treeTable cE,cE,⟨0,0,0,0⟩,B⟩):=by
 rw[W.Fast.te15667345088766844465,W.Fast.te14364793385576792824,W.Fast.te11892475500146522536];intro w;kernel_rfl
def e1:∀w:World,(λos=>segRun treeTable pg w 11 (some (rf 6)) 1 1 (s0 w os) (blockOf bd env cE ⟨0,0,0,0⟩ B))=λos=>some (.next,(s1 w os).abs,cE,⟨0,0,0,0⟩):=by
 rw[W.Fast.te14374325043358763698,W.Fast.te14364793385576792824];intro w;kernel_rfl
def e2:∀w:World,(λos=>segRunT treeTable pg w 11 (some (rf 6)) 1 377 (s1 w os) (piecesOf (sl 0 15) env cE ⟨0,0,0,0⟩ B))=λos=>some (.next,s2 w os,cE,⟨49,0,50,77⟩):=by
 rw[W.Fast.te10110043849684766642,W.Fast.te14364793385576792824];refine byRow2 "special-get-raises" ?_ ?_<;>(intro w;kernel_rfl)
def e3:∀w:World,(λos=>segRunT treeTable pg w 11 (some (rf 6)) 1 283 (s2 w os) (piecesOf (sl 15 5) env cE ⟨49,0,50,77⟩ B))=λos=>some (.next,s3 w os,cE,⟨70,0,71,8⟩):=by
 rw[W.Fast.te10110043849684766642,W.Fast.te14364793385576792824];intro w;kernel_rfl
def e4:∀w:World,(λos=>segRunT treeTable pg w 11 (some (rf 6)) 1 214 (s3 w os) (piecesOf (sl 20 1) env cE ⟨70,0,71,8⟩ B))=λos=>some (.next,s4 w os,cE,⟨72,0,73,8⟩):=by
 rw[W.Fast.te10110043849684766642,W.Fast.te14364793385576792824];intro w;kernel_rfl
def e5:∀w:World,(λos=>segRunT treeTable pg w 11 (some (rf 6)) 1 214 (s4 w os) (piecesOf (sl 21 1) env cE ⟨72,0,73,8⟩ B))=λos=>some (.next,s5 w os,cE,⟨74,0,75,8⟩):=by
 rw[W.Fast.te10110043849684766642,W.Fast.te14364793385576792824];intro w;kernel_rfl
def e6:∀w:World,(λos=>segRunT treeTable pg w 11 (some (rf 6)) 1 397 (s5 w os) (piecesOf (sl 22 9) env cE ⟨74,0,75,8⟩ B))=λos=>some (.next,s6 w os,cE,⟨97,0,98,48⟩):=by
 rw[W.Fast.te10110043849684766642,W.Fast.te14364793385576792824];intro w;kernel_rfl
def e7:∀w:World,(λos=>segRunT treeTable pg w 11 (some (rf 6)) 1 392 (s6 w os) (piecesOf (sl 31 14) env cE ⟨97,0,98,48⟩ B))=λos=>some (.next,s7 w os,cE,⟨152,0,156,15⟩):=by
 rw[W.Fast.te10110043849684766642,W.Fast.te14364793385576792824];intro w;kernel_rfl
def e8:∀w:World,(λos=>segRunT treeTable pg w 11 (some (rf 6)) 1 388 (s7 w os) (piecesOf (sl 45 15) env cE ⟨152,0,156,15⟩ B))=λos=>some (.next,s8 w os,cE,⟨226,0,226,8⟩):=by
 rw[W.Fast.te10110043849684766642,W.Fast.te14364793385576792824];intro w;kernel_rfl
def e9:∀w:World,(λos=>segRunT treeTable pg w 11 (some (rf 6)) 1 399 (s8 w os) (piecesOf (sl 60 16) env cE ⟨226,0,226,8⟩ B))=λos=>some (.next,s9 w os,cE,⟨299,0,299,8⟩):=by
 rw[W.Fast.te10110043849684766642,W.Fast.te14364793385576792824];intro w;kernel_rfl
def e10:∀w:World,(λos=>segRunT treeTable pg w 11 (some (rf 6)) 1 56 (s9 w os) (piecesOf (sl 76 2) env cE ⟨299,0,299,8⟩ B))=λos=>some (.next,Kc w os,cE,⟨302,0,308,69⟩):=by
 rw[W.Fast.te10110043849684766642,W.Fast.te14364793385576792824];intro w;kernel_rfl
def e11:∀w:World,(λos=>segRunT treeTable pg w 11 (some (rf 6)) 1 416 (Kc w os) (piecesOf (sl 78 1) env cE ⟨302,0,308,69⟩ B))=λos=>some (.next,Ke w os,cE,⟨309,0,345,16⟩):=by
 rw[W.Fast.te10110043849684766642,W.Fast.te14364793385576792824];intro w;kernel_rfl
def e12:∀w:World,(λos=>segRunT treeTable pg w 11 (some (rf 6)) 1 244 (Ke w os) (piecesOf (sl 79 9) env cE ⟨309,0,345,16⟩ B))=λos=>some (.next,Kf w os,cE,⟨397,0,405,63⟩):=by
 rw[W.Fast.te10110043849684766642,W.Fast.te14364793385576792824];intro w;kernel_rfl
def e13:∀w:World,(λos=>topRun treeTable pg w 11 (some (rf 6)) 2 (Kf w os).abs ⟨doneF .next,cE,⟨397,0,405,63⟩,B⟩)=λos=>some (mL w os):=by
 rw[W.Fast.te14082659384304107361,W.Fast.te14364793385576792824];intro w;kernel_rfl
abbrev QL:Nat:=2
abbrev QM:List Stmt:=[]
abbrev R(w:World)(os:OsState)(m:Nat)(s:Shared)(t:List Stmt)(p:Pos):Prop:=topRun treeTable pg w 11 (some (rf 6)) m s (restOf t env cE p B)=some (mL w os)
def r13(w:World)(os:OsState):R w os QL (Kf w os).abs QM ⟨397,0,405,63⟩:=congrFun (e13 w) os
abbrev QN:Nat:=244+QL
abbrev QO:List Stmt:=sl 79 9++QM
def r12(w:World)(os:OsState):R w os QN (Ke w os).abs QO ⟨309,0,345,16⟩:=piece_app (segRun_of (congrFun (e12 w) os)) (r13 w os)
abbrev QQ:Nat:=416+QN
abbrev QR:List Stmt:=sl 78 1++QO
def r11(w:World)(os:OsState):R w os QQ (Kc w os).abs QR ⟨302,0,308,69⟩:=piece_app (segRun_of (congrFun (e11 w) os)) (r12 w os)
abbrev QS:Nat:=56+QQ
abbrev QT:List Stmt:=sl 76 2++QR
def r10(w:World)(os:OsState):R w os QS (s9 w os).abs QT ⟨299,0,299,8⟩:=piece_app (segRun_of (congrFun (e10 w) os)) (r11 w os)
abbrev m9:Nat:=399+QS
abbrev t9:List Stmt:=sl 60 16++QT
def r9(w:World)(os:OsState):R w os m9 (s8 w os).abs t9 ⟨226,0,226,8⟩:=piece_app (segRun_of (congrFun (e9 w) os)) (r10 w os)
abbrev m8:Nat:=388+m9
abbrev t8:List Stmt:=sl 45 15++t9
def r8(w:World)(os:OsState):R w os m8 (s7 w os).abs t8 ⟨152,0,156,15⟩:=piece_app (segRun_of (congrFun (e8 w) os)) (r9 w os)
abbrev m7:Nat:=392+m8
abbrev t7:List Stmt:=sl 31 14++t8
def r7(w:World)(os:OsState):R w os m7 (s6 w os).abs t7 ⟨97,0,98,48⟩:=piece_app (segRun_of (congrFun (e7 w) os)) (r8 w os)
abbrev m6:Nat:=397+m7
abbrev t6:List Stmt:=sl 22 9++t7
def r6(w:World)(os:OsState):R w os m6 (s5 w os).abs t6 ⟨74,0,75,8⟩:=piece_app (segRun_of (congrFun (e6 w) os)) (r7 w os)
abbrev m5:Nat:=214+m6
abbrev t5:List Stmt:=sl 21 1++t6
def r5(w:World)(os:OsState):R w os m5 (s4 w os).abs t5 ⟨72,0,73,8⟩:=piece_app (segRun_of (congrFun (e5 w) os)) (r6 w os)
abbrev m4:Nat:=214+m5
abbrev t4:List Stmt:=sl 20 1++t5
def r4(w:World)(os:OsState):R w os m4 (s3 w os).abs t4 ⟨70,0,71,8⟩:=piece_app (segRun_of (congrFun (e4 w) os)) (r5 w os)
abbrev m3:Nat:=283+m4
abbrev t3:List Stmt:=sl 15 5++t4
def r3(w:World)(os:OsState):R w os m3 (s2 w os).abs t3 ⟨49,0,50,77⟩:=piece_app (segRun_of (congrFun (e3 w) os)) (r4 w os)
abbrev m2:Nat:=377+m3
abbrev t2:List Stmt:=sl 0 15++t3
def r2(w:World)(os:OsState):R w os m2 (s1 w os).abs t2 ⟨0,0,0,0⟩:=piece_app (segRun_of (congrFun (e2 w) os)) (r3 w os)
def tb:bd=t2:=by kernel_rfl
def run(w:World)(os:OsState):topRun treeTable pg w 11 (some (rf 6)) (12+(1+m2)) (sz w os) (topStub pg)=some (mL w os):=by
 have r:=r2 w os;unfold R at r;rw[<-congrArg (λx=>restOf x env cE ⟨0,0,0,0⟩ B) tb]at r;exact go_top (congrFun (e0 w) os) (piece_block (congrFun (e1 w) os) r)
def op:∀w:World,(fencedOpening treeTable pg w 6864).map (λs=>(s.heap,s.gens,s.drawn,s.toks))=some (boot_heap w.params,Array.mk [],boot_drawn,boot_toks):=
 boot_open (by kernel_rfl) (by decide) (λs=>by kernel_rfl)
def size:∀w:World,((boot_heap w.params).isNs mainGlobals&&(Array.mk []:Array GenState).size==0,(boot_heap w.params).objs.size,(boot_heap w.params).nsMap mainGlobals "__annotations__")=(true,11,(some (rf 6))):=by
 rw[W.Fast.te8920871248978507458];intro w;kernel_rfl
def K(P:Params):Frag:=(nat_lit 2,boot_o_2 P)::(nat_lit 3,ns P (en P "__name__" 165 (.str "law_duskbook_k67_whole_step_by_step" 839)) 81 82)::(nat_lit 27,oC "contrary" 196 5 1 22 (rf 24) (rf 25) 26 181 200)::(nat_lit 28,oF "contrary" 2 p1 27)::(nat_lit 32,oC "led_to" 203 7 2 29 .none .none 31 181 206)::(nat_lit 33,oF "led_to" 3 p1 32)::(nat_lit 39,oC "traced" 209 15 2 34 (rf 36) (rf 37) 38 181 216)::(nat_lit 40,oF "traced" 4 p1 39)::(nat_lit 46,oC "ways_from" 219 22 2 41 (rf 43) (rf 44) 45 181 228)::(nat_lit 47,oF "ways_from" 5 p1 46)::(nat_lit 48,(oD #[en P "eithers" 233 (.str "eithers" 234),en P "sums" 235 (.str "sums" 236),en P "ifs" 237 (.str "nots" 238),en P "nots" 239 (.str "ifs" 240)] 4))::(nat_lit 52,oC "exchanged_rule" 246 35 2 49 .none .none 51 181 249)::(nat_lit 53,oF "exchanged_rule" 8 p2 52)::(nat_lit 57,oC "exchanged" 252 41 1 54 .none .none 56 181 255)::(nat_lit 58,oF "exchanged" 9 p2 57)::(nat_lit 59,tu [(.str "keeper" 260),(.str "storm" 261)])::(nat_lit 63,oC "beacons_with" 263 46 3 60 .none .none 62 181 266)::(nat_lit 64,oF "beacons_with" 12 p3 63)::(nat_lit 70,oC "both_added" 271 49 2 65 (rf 67) (rf 68) 69 181 276)::(nat_lit 71,oF "both_added" 14 p4 70)::(nat_lit 77,oC "pairs_added" 279 51 2 72 (rf 74) (rf 75) 76 181 284)::(nat_lit 78,oF "pairs_added" 15 p4 77)::(nat_lit 84,oC "cleared" 287 53 2 79 (rf 81) (rf 82) 83 181 293)::(nat_lit 85,oF "cleared" 16 p4 84)::(nat_lit 89,oC "reduced" 296 58 1 86 .none .none 88 181 299)::(nat_lit 90,oF "reduced" 17 p4 89)::(nat_lit 143,oC "either_holds" 374 80 2 140 .none .none 142 181 377)::(nat_lit 144,oF "either_holds" 25 p5 143)::(nat_lit 148,oC "sum_holds" 380 82 2 145 .none .none 147 181 383)::(nat_lit 149,oF "sum_holds" 26 p5 148)::(nat_lit 153,oC "if_holds" 386 85 3 150 .none .none 152 181 389)::(nat_lit 154,oF "if_holds" 27 p5 153)::(nat_lit 160,oC "rule_holds" 392 89 3 155 (rf 157) (rf 158) 159 181 398)::(nat_lit 161,oF "rule_holds" 28 p5 160)::(nat_lit 165,oC "broken_rules" 401 95 2 162 .none .none 164 181 404)::(nat_lit 166,oF "broken_rules" 29 p5 165)::(nat_lit 172,oC "holds" 407 97 2 167 (rf 169) (rf 170) 171 181 412)::(nat_lit 173,oF "holds" 30 p5 172)::(nat_lit 177,oC "beacons_in" 415 99 2 174 .none .none 176 181 418)::(nat_lit 178,oF "beacons_in" 31 p5 177)::(nat_lit 184,oC "beacons_of" 421 105 1 179 (rf 181) (rf 182) 183 181 427)::(nat_lit 185,oF "beacons_of" 32 p5 184)::(nat_lit 191,oC "is_void" 430 110 2 186 (rf 188) (rf 189) 190 181 435)::(nat_lit 192,oF "is_void" 33 p5 191)::(nat_lit 196,oC "without" 438 112 2 193 .none .none 195 181 441)::(nat_lit 197,oF "without" 34 p5 196)::(nat_lit 201,oC "either_left" 444 114 3 198 .none .none 200 181 447)::(nat_lit 202,oF "either_left" 35 p5 201)::(nat_lit 208,oC "sum_left" 450 118 3 203 (rf 205) (rf 206) 207 181 458)::(nat_lit 209,oF "sum_left" 36 p5 208)::(nat_lit 215,oC "if_left" 461 124 3 210 (rf 212) (rf 213) 214 181 468)::(nat_lit 216,oF "if_left" 37 p5 215)::(nat_lit 222,oC "rule_left" 471 131 4 217 (rf 219) (rf 220) 221 181 478)::(nat_lit 223,oF "rule_left" 38 p5 222)::(nat_lit 227,oC "left_behind" 481 139 3 224 .none .none 226 181 484)::(nat_lit 228,oF "left_behind" 39 p5 227)::(nat_lit 234,oC "is_place" 489 143 2 229 (rf 231) (rf 232) 233 181 494)::(nat_lit 235,oF "is_place" 41 p6 234)::(nat_lit 239,oC "body_is_known" 497 145 2 236 .none .none 238 181 500)::(nat_lit 240,oF "body_is_known" 42 p6 239)::(nat_lit 246,oC "is_step" 503 147 3 241 (rf 243) (rf 244) 245 181 510)::(nat_lit 247,oF "is_step" 43 p6 246)::(nat_lit 253,oC "step_to_more" 513 152 2 248 (rf 250) (rf 251) 252 181 520)::(nat_lit 254,oF "step_to_more" 44 p6 253)::(nat_lit 258,oC "derived_in_full" 523 157 2 255 .none .none 257 181 526)::(nat_lit 259,oF "derived_in_full" 45 p6 258)::(nat_lit 263,oC "is_broken" 531 167 1 260 .none .none 262 181 534)::(nat_lit 264,oF "is_broken" 47 p7 263)::(nat_lit 270,oC "sayings_of" 539 170 1 265 (rf 267) (rf 268) 269 181 545)::(nat_lit 271,oF "sayings_of" 49 p8 270)::(nat_lit 277,oC "lead_to_one_another" 548 175 3 272 (rf 274) (rf 275) 276 181 554)::(nat_lit 278,oF "lead_to_one_another" 50 p8 277)::(nat_lit 284,oC "clash_found" 557 177 1 279 (rf 281) (rf 282) 283 181 563)::(nat_lit 285,oF "clash_found" 51 p8 284)::(nat_lit 291,oC "cross_found" 566 183 2 286 (rf 288) (rf 289) 290 181 573)::(nat_lit 292,oF "cross_found" 52 p8 291)::(nat_lit 298,oC "late_found" 576 189 3 293 (rf 295) (rf 296) 297 181 584)::(nat_lit 299,oF "late_found" 53 p8 298)::(nat_lit 303,oC "storms_paper" 587 195 4 300 .none .none 302 181 590)::(nat_lit 304,oF "storms_paper" 54 p8 303)::(nat_lit 310,oC "free_saying" 593 201 2 305 (rf 307) (rf 308) 309 181 599)::(nat_lit 311,oF "free_saying" 55 p8 310)::(nat_lit 317,oC "truths_made" 602 204 3 312 (rf 314) (rf 315) 316 181 611)::(nat_lit 318,oF "truths_made" 56 p8 317)::(nat_lit 324,oC "plan_row" 614 212 4 319 (rf 321) (rf 322) 323 181 622)::(nat_lit 325,oF "plan_row" 57 p8 324)::(nat_lit 329,oC "either_outcome" 625 217 3 326 .none .none 328 181 628)::(nat_lit 330,oF "either_outcome" 58 p8 329)::(nat_lit 336,oC "replaced" 633 227 2 331 (rf 333) (rf 334) 335 181 641)::(nat_lit 337,oF "replaced" 60 p9 336)::(nat_lit 341,oC "ahead_of" 644 233 2 338 .none .none 340 181 647)::(nat_lit 342,oF "ahead_of" 61 p9 341)::(nat_lit 348,oC "places_to_none" 652 236 2 343 (rf 345) (rf 346) 347 181 659)::(nat_lit 349,oF "places_to_none" 63 gS 348)::(nat_lit 353,oC "places_to_beacon" 662 241 3 350 .none .none 352 181 665)::(nat_lit 354,oF "places_to_beacon" 64 gS 353)::(nat_lit 358,oC "some_of" 668 246 2 355 .none .none 357 181 671)::(nat_lit 359,oF "some_of" 65 gS 358)::(nat_lit 365,oC "facts_beside" 674 248 3 360 (rf 362) (rf 363) 364 181 680)::(nat_lit 366,oF "facts_beside" 66 gS 365)::(nat_lit 372,oC "if_outcome" 683 250 3 367 (rf 369) (rf 370) 371 181 697)::(nat_lit 373,oF "if_outcome" 67 gS 372)::(nat_lit 379,oC "last_beacon" 702 267 1 374 (rf 376) (rf 377) 378 181 706)::(nat_lit 380,oF "last_beacon" 69 jz 379)::(nat_lit 384,oC "storms_places" 709 269 3 381 .none .none 383 181 712)::(nat_lit 385,oF "storms_places" 70 jz 384)::(nat_lit 389,oC "sum_rows" 715 274 2 386 .none .none 388 181 718)::(nat_lit 390,oF "sum_rows" 71 jz 389)::(nat_lit 396,oC "sum_outcome" 721 282 3 391 (rf 393) (rf 394) 395 181 731)::(nat_lit 397,oF "sum_outcome" 72 jz 396)::(nat_lit 398,tu [(.int (0) 736)])::(nat_lit 404,oC "outcome" 737 291 3 399 (rf 401) (rf 402) 403 181 743)::(nat_lit 405,⟨(.type "function"),none,(fn "outcome" "outcome" (Lw.top 74) (rf 398) .none .none (.str "duskbook.outcomes" 734) none (rf 404) .none 3 0),#[]⟩)::(nat_lit 411,oC "is_hand" 748 300 1 406 (rf 408) (rf 409) 410 181 752)::(nat_lit 412,oF "is_hand" 76 d0 411)::(nat_lit 416,oC "check_hands" 755 302 2 413 .none .none 415 181 758)::(nat_lit 417,oF "check_hands" 77 d0 416)::(nat_lit 430,(oQ "__init__" "Watch.__init__" 773 311 3 425 (rf 427) (rf 428) 429 181 779))::(nat_lit 431,oM "__init__" "Watch.__init__" 78 0 d0 430)::(nat_lit 437,(oQ "turn" "Watch.turn" 782 317 1 432 (rf 434) (rf 435) 436 181 786))::(nat_lit 438,oM "turn" "Watch.turn" 78 1 d0 437)::(nat_lit 444,(oQ "evening" "Watch.evening" 789 322 1 439 (rf 441) (rf 442) 443 181 793))::(nat_lit 445,oM "evening" "Watch.evening" 78 2 d0 444)::(nat_lit 451,(oQ "left" "Watch.left" 796 325 1 446 (rf 448) (rf 449) 450 181 803))::(nat_lit 452,oM "left" "Watch.left" 78 3 d0 451)::(nat_lit 458,(oQ "winner" "Watch.winner" 806 331 1 453 (rf 455) (rf 456) 457 181 810))::(nat_lit 459,oM "winner" "Watch.winner" 78 4 d0 458)::(nat_lit 465,(oQ "settle" "Watch.settle" 813 336 2 460 (rf 462) (rf 463) 464 181 818))::(nat_lit 466,oM "settle" "Watch.settle" 78 5 d0 465)::(nat_lit 472,(oQ "back" "Watch.back" 821 344 1 467 (rf 469) (rf 470) 471 181 825))::(nat_lit 473,oM "back" "Watch.back" 78 6 d0 472)::(nat_lit 475,(oD #[en P "__module__" 768 (.str "duskbook.watches" 746),en P "__firstlineno__" 772 (.int (309) 771),Z' P "__init__" 781 431,Z' P "turn" 788 438,Z' P "evening" 795 445,Z' P "left" 805 452,Z' P "winner" 812 459,Z' P "settle" 820 466,Z' P "back" 827 473,Z' P "__static_attributes__" 831 474,Z' P "__dict__" 833 477,Z' P "__weakref__" 835 478,en P "__doc__" 836 .none] 4))::(nat_lit 476,⟨(.type "type"),none,(.cls ⟨"Watch",[(.type "object")],[(rf 476),(.type "object")],475,"Watch",true,[],[],false,none,false⟩),#[none,none,(some (.str "Watch" 761)),(some (.str "Watch" 769)),(some (.builtin "object.__new__")),(some (.bool true))]⟩)::(nat_lit 486,oC "_law_cell" 841 347 2 481 (rf 483) (rf 484) 485 181 846)::(nat_lit 487,oF "_law_cell" 80 eO 486)::(nat_lit 493,oC "_law_mixed" 849 351 2 488 (rf 490) (rf 491) 492 181 854)::(nat_lit 494,oF "_law_mixed" 81 eO 493)::(nat_lit 498,oC "_law_hands" 857 353 2 495 .none .none 497 181 860)::(nat_lit 499,oF "_law_hands" 82 eO 498)::(nat_lit 508,oC "_law_rule" 869 358 4 505 .none .none 507 181 872)::(nat_lit 509,oF "_law_rule" 84 eO 508)::(nat_lit 515,oC "_law_hand" 875 378 3 510 (rf 512) (rf 513) 514 181 882)::(nat_lit 516,oF "_law_hand" 85 eO 515)::(nat_lit 522,oC "_law_steps" 885 383 3 517 (rf 519) (rf 520) 521 181 898)::(nat_lit 523,oF "_law_steps" 86 eO 522)::(nat_lit 527,oC "law" 901 397 1 524 .none .none 526 181 904)::(nat_lit 528,oF "law" 87 eO 527)::[]
def hk:Hook:=kHook K (2::3::27::28::32::33::39::40::46::47::48::52::53::57::58::59::63::64::70::71::77::78::84::85::89::90::143::144::148::149::153::154::160::161::165::166::172::173::177::178::184::185::191::192::196::197::201::202::208::209::215::216::222::223::227::228::234::235::239::240::246::247::253::254::258::259::263::264::270::271::277::278::284::285::291::292::298::299::303::304::310::311::317::318::324::325::329::330::336::337::341::342::348::349::353::354::358::359::365::366::372::373::379::380::384::385::389::390::396::397::398::404::405::411::412::416::417::430::431::437::438::444::445::451::452::458::459::465::466::472::473::475::476::486::487::493::494::498::499::508::509::515::516::522::523::527::528::[]) (λ_=>by kernel_rfl)
def Q:P7:={ pg with main:={ pg.main with body:=[Lw.top 87] } }
def ls:AJ:=(["_wall","contrary","led_to","traced","ways_from","EXCHANGED_KINDS","exchanged_rule","exchanged","HANDS","beacons_with","both_added","pairs_added","cleared","reduced","DuskError","NoHands","Over","NoLight","BEACON_COUNT","either_holds","sum_holds","if_holds","rule_holds","broken_rules","holds","beacons_in","beacons_of","is_void","without","either_left","sum_left","if_left","rule_left","left_behind","is_place","body_is_known","is_step","step_to_more","derived_in_full","is_broken","sayings_of","lead_to_one_another","clash_found","cross_found","late_found","storms_paper","free_saying","truths_made","plan_row","either_outcome"]++["replaced","ahead_of","places_to_none","places_to_beacon","some_of","facts_beside","if_outcome","last_beacon","storms_places","sum_rows","sum_outcome","outcome","is_hand","check_hands","Watch","_law_cell","_law_mixed","_law_hands","_law_own","_law_rule","_law_hand","_law_steps"]).map Str.ofString
abbrev Xt(s:Shared):Bool:=xlAt Q [] s&&recOk (RowW.records (OpenRow.toRowW PySem.Challenge.rw_duskbook_k67_whole_step_by_step.row)) s
def Kg:∀w:World,(λos=>((staticsOk (importedModules pg.main.body) (boot_heap w.params) (yb w.params)&&namesBound pg (yb w.params)&&gensDone (mL w os)&&laidKept (boot_heap w.params) (yb w.params)),openSeen Q ls (importedModules pg.main.body) Xt true (mL w os),Hook.obs hk (mL w os)))=λ_=>(true,openGood Q ls,Hook.val hk w):=by
 intro w;kernel_rfl
def left:LeftO pg Q ls Xt (Hook.obs hk) (Hook.val hk) 6864:=.of_pieces op size run (by decide) Kg
end Op
end
noncomputable def PySem.W.Fast.tw3181593639242600781:PySem.Program:=PySem.Challenge.pw_duskbook_k67_whole_step_by_step
theorem PySem.W.Fast.te3181593639242600781:PySem.Challenge.pw_duskbook_k67_whole_step_by_step=PySem.W.Fast.tw3181593639242600781:=rfl
open PySem PySem.W PyProof.Rows
local macro_rules|`(tactic|ac_rfl)=>`(tactic|first|k_is|kernel_rfl)
theorem PySem.Challenge.cw_duskbook_k67_whole_step_by_step_holds : PySem.Challenge.rw_duskbook_k67_whole_step_by_step.Holds := by
 w_on;o_law
 refine holds_open (q:=Op.Q) (loose:=Op.ls) (Xt:=Op.Xt) (XP:=XL Op.Q []) (Yf:=Hook.obs Op.hk) (Ya:=Hook.val Op.hk) (YP:=InK Op.K) (N:=6864) Op.left (Hook.of Op.hk) (Hook.keeps Op.hk) (λs e=>xl_of s (Bool.and_eq_true_iff.mp e).1) XL.keeps (by rfl) (by rfl) (by rfl) (λs e=>recFacts_of (Bool.and_eq_true_iff.mp e).2) (by rfl) (by assumption) (by decide +kernel) ⟨rfl,rfl,rfl,rfl,rfl,by decide +kernel⟩ ?hw ?hc
 (case hw=>w_witness2)
 k_fill
 refine Lw.walk Lw.law_true (l:=PySem.Challenge.rw_duskbook_k67_whole_step_by_step) rfl rfl (K:=Op.K) (λw h Y=>Y) ?F
 case F=>
  intro w mg fa h KX G hmg;refine' Lw.all_mk KX G hmg ..
  all_goals (try (first|(refine' Lw.fkd_mk ?a ?l ?c ?k ?t;(case a=>k_is);(case l=>k_is);(case c=>k_is);(case k=>k_is);(case t=>k_is))|(refine' M.mq_mk ?a ?pg ?hd ?po ?sa ?i ?n ?l ?cd ?k;(case a=>ac_rfl);(case pg=>ac_rfl);(case hd=>ac_rfl);(case po=>ac_rfl);(case sa=>ac_rfl);(case i=>ac_rfl);(case n=>ac_rfl);(case l=>ac_rfl);(case cd=>ac_rfl);(case k=>ac_rfl))|(refine' M.nq_mk ?a ?pg ?hd ?po ?sa ?n;(case a=>ac_rfl);(case pg=>ac_rfl);(case hd=>ac_rfl);(case po=>ac_rfl);(case sa=>ac_rfl);(case n=>ac_rfl))|(refine' M.iqc_mk ?a ?mk ?kc ?i ?n ?l ?cd ?k;(case a=>ac_rfl);(case mk=>ac_rfl);(case kc=>ac_rfl);(case i=>ac_rfl);(case n=>ac_rfl);(case l=>ac_rfl);(case cd=>ac_rfl);(case k=>ac_rfl))|(refine' M.iqz_mk ?a ?mk ?kc ?i ?n ?l ?cd ?d;(case a=>ac_rfl);(case mk=>ac_rfl);(case kc=>ac_rfl);(case i=>ac_rfl);(case n=>ac_rfl);(case l=>ac_rfl);(case cd=>ac_rfl);(case d=>ac_rfl))|(refine' M.kq_mk (mc:=.type "type") ?e ?i ?l ?cd ?k ?s ?r ?g ?h;(case e=>ac_rfl);(case i=>ac_rfl);(case l=>ac_rfl);(case cd=>ac_rfl);(case k=>ac_rfl);(case s=>ac_rfl);(case r=>ac_rfl);(case g=>ac_rfl);(case h=>ac_rfl))|(refine' M.isk_mk ?a ?a0 ?pg ?hd ?po ?sa ?e ?f ?g ?m ?k;(case a=>ac_rfl);(case a0=>ac_rfl);(case pg=>ac_rfl);(case hd=>ac_rfl);(case po=>ac_rfl);(case sa=>ac_rfl);(case e=>ac_rfl);(case f=>ac_rfl);(case g=>ac_rfl);(case m=>ac_rfl);(case k=>ac_rfl))|(refine' Lw.fk_mk ?a ?l ?c ?k;(case a=>k_is);(case l=>k_is);(case c=>k_is);(case k=>k_is))|k_is))
