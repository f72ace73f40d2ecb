import PyProof.Rows.All
import Wide.All
import OpenK.AllK
import Wide.FinOn
import Lean
import PyProof.EqAt
import PyProof.EqKinds
import PyProof.TupleCall
import PySem.Challenge.RW_duskbook_k43_whole_storms_papers_win
set_option Elab.async false
set_option linter.all false
set_option compiler.extract_closed false
set_option maxRecDepth 100000
abbrev Fb(l:List (PySem.Str×PySem.NameKind)):PySem.Scope:={ kind:=.function,names:=l,isGenerator:=false,isCoroutine:=false,more:=[] }
def qa{c d:Type _}{o:Option c}{f:c->Option d}{b:d}(h:o.bind f=some b):∃a,o=some a/\f a=some b:=Option.bind_eq_some_iff.mp h
def qc{c d:Type _}{o:Option c}{f:c->d}{b:d}(h:o.map f=some b):∃a,o=some a/\f a=b:=Option.map_eq_some_iff.mp h
def qd:=@Option.bind_some
def qe:=@PySem.Heap.get?_push_of_some
def qf:=@List.length_map
def qg:=@List.mem_cons_of_mem
def qh:=@List.mem_cons_self
def qi:=@Bool.false_ne_true
def qj:=@Array.length_toList
def qk:=@List.size_toArray
def ql:=@PySem.Heap.lt_size
def qm:=@Nat.ne_of_lt
def qo{b:Type _}{l:List b}{i:Nat}{a:b}(h:l[i]?=some a):∃h:i<l.length,l[i]=a:=List.getElem?_eq_some_iff.mp h
def qp:=@PySem.Heap.get?_push_size
def qr:=@List.getElem?_eq_getElem
def qt:=@List.length_cons
def qu{c:Type _}{a b:c}{l:List c}(h:a∈b::l):a=b\/a∈l:=List.mem_cons.mp h
def qv:=@Nat.le_refl
def qw{b:Type _}{a:b}{s t:List b}(h:a∈s++t):a∈s\/a∈t:=List.mem_append.mp h
def qx:=@Nat.lt_succ_of_lt
def qy{c d:Type _}{b:d}{f:c->d}{l:List c}(h:b∈l.map f):∃a,a∈l/\f a=b:=List.mem_map.mp h
def qz:=@List.length_append
def Qa:=@Nat.lt_succ_self
def Qb{m n:Nat}(h:m∈List.range n):m<n:=List.mem_range.mp h
def Qc{b:Type _}{p:b->Bool}{l:List b}{a:b}(h:a∈l.filter p):a∈l/\p a=true:=List.mem_filter.mp h
def Qd:=@List.map_cons
def Qe:=@Bool.and_eq_true
def Qf:=@List.map_map
def Qg:=@Nat.le_trans
def Qh:=@Nat.zero_le
def Qi:=@Nat.lt_of_lt_of_le
def Qj:=@List.nil_append
def Qk:=@List.map_append
def Ql:=@List.mem_filter
def Qm:=@List.getElem?_map
def Qn:=@List.length_filter_le
def Qo:=@Bool.false_eq_true
def Qp:=@List.getElem?_set_ne
def Qq:=@List.map_congr_left
def Qr:=@List.mem_append_right
def Qs:=@List.getElem_mem
def Qt:=@List.getD_eq_getElem?_getD
def Qu:=@List.mem_singleton
set_option maxHeartbeats 4000000
local macro_rules|`(tactic|ext)=>`(tactic|simp_all)
local macro_rules|`(tactic|symm)=>`(tactic|grind)
local macro_rules|`(∅)=>`(by lia)
local macro_rules|`(⋯)=>`(by grind)
local macro_rules|`(term|nofun)=>`(by simp)
local macro_rules|`(tactic|trivial)=>`(tactic|first|exact .inl rfl|exact .inr rfl|exact .inr (.inl rfl)|exact .inr (.inr rfl)|assumption)
local macro_rules|`(~~~$x)=>`(($x).heap.objs.size)|`(↑$x)=>`(some (.sh $x))
abbrev AA:=PySem.Value->PySem.Shared->Prop
abbrev AB:=List (PySem.Addr×PySem.Obj)
abbrev AC:=List PySem.Value
abbrev AE:=PySem.Str->Option PySem.Value
abbrev AF:=List Nat
abbrev AG:=List Int
abbrev AH:=List Bool
abbrev AJ:=Nat->Bool
abbrev AK:=List PySem.Str
abbrev AL:=List PySem.Expr
abbrev AN:=Option Nat
def wa:=@PySem.wpAny_bind
def wc:=@PySem.wpAny_pure
def wd:=@PySem.wpAny_holding
def we:=@PySem.wpAny_call_entry
def wf:=@PySem.wpAny_newObj_type
def wg:=@PySem.wpAny_setState_of
def wj:=@decide_eq_true_eq
def wm:=@decide_eq_true
def wt:=@decide_eq_false
def wu:=@of_decide_eq_true
def wv:=@Function.comp_def
def wx:=@PySem.Heap.SameBut.update
def wy:=@PySem.Heap.size_push
def wz:=@PySem.Heap.get?_update_self
def w5:=@PySem.codeAny_builtin
def w6:=@PySem.wpAny_mono
def w9:=@Option.some.inj
def ja:=@List.append_nil
def jb:=@List.append_assoc
def jc:=@List.length_singleton
def jd:=@PySem.plainId_quiet
def je:=@PySem.Around.under_plainId
def jf:=@PySem.PassesOwn.never
def jg:=@PySem.Obj.data_mapFields
def jh:=@PySem.wpAny_attempt
def ji:=@PySem.sizeLine_eq
abbrev mZ:=@PySem.model
abbrev W7:=PySem.W.Frag
abbrev P7:=PySem.Program
noncomputable section
namespace L2
variable {h':Heap}{X:Cx}{pins:AB}{pos apos:Pos}{ys:AQ}{tg:Expr}{prog:P7}{K:W7}{dx:Addr}{es:AL}
open PySem PySem.Spec PyProof.Rows
abbrev eA:=Sum Int Str
def kA:eA->Value->Bool
 | .inl k,v=>Value.isInt k v
 | .inr x,v=>Value.isStrOf x v
def tI(w:World):eA->Int
 | .inl k=>hashInt k
 | .inr x=>hashStr w x
theorem fT:∀{k:eA}{v:Value},kA k v=true->(∃i t,k=Sum.inl i/\v=Value.int i t)\/(∃x t,k=Sum.inr x/\v=Value.str x t)
 | .inl i,v,h=>by
   obtain⟨t,e⟩:=Value.isInt_shape h;symm
 | .inr x,v,h=>by
   obtain⟨t,e⟩:=Value.isStrOf_shape h;symm
theorem tJ(a b:Int):decide ((Sum.inl a:eA)=Sum.inl b)=(a==b):=by ext<;>lia
theorem tL(a b:Str):decide ((Sum.inr a:eA)=Sum.inr b)=decide (a=b):=by ext
theorem tM(a:Int)(b:Str):decide ((Sum.inl a:eA)=Sum.inr b)=false:=by symm
theorem tN(a:Str)(b:Int):decide ((Sum.inr a:eA)=Sum.inl b)=false:=by symm
def Fc(prog:P7)(w:World):KeyKind prog w eA where
 is:=kA
 hash:=tI w
 inj:=λv a b l m=>by
  rcases fT l with⟨i,t,rfl,rfl⟩|⟨x,t,rfl,rfl⟩
  .rcases fT m with⟨j,u,rfl,e⟩|⟨y,u,rfl,e⟩
   .grind
   symm
  .rcases fT m with⟨j,u,rfl,e⟩|⟨y,u,rfl,e⟩
   .grind
   symm
 byValue:=λk v h=>by
  rcases fT h with⟨i,t,rfl,rfl⟩|⟨x,t,rfl,rfl⟩<;>rfl
 pyHash:=λd h=>by
  rcases fT d with⟨i,t,rfl,rfl⟩|⟨x,t,rfl,rfl⟩
  .exact wpAny_pyHash_int h
  .exact wpAny_pyHash_str h
 eqBool:=λg d h=>by
  rcases fT g with⟨i,t,rfl,rfl⟩|⟨x,t,rfl,rfl⟩
  .rcases fT d with⟨j,u,rfl,rfl⟩|⟨y,u,rfl,rfl⟩
   .rw[tJ]at h;exact wpAny_eqBool_int h
   .exact SeqAt.EqAt.int_str i t y u _ _ _ _ h
  .rcases fT d with⟨j,u,rfl,rfl⟩|⟨y,u,rfl,rfl⟩
   .exact SeqAt.EqAt.str_int x t j u _ _ _ _ h
   .rw[tL]at h;exact wpAny_eqBool_str h
 «strs»:=λk x t v h=>by
  rcases fT h with⟨i,u,rfl,e⟩|⟨y,u,rfl,e⟩
  .grind
  .injection e with n _
   subst n;cases v<;>rfl
inductive V where
 | non|bl (b:Bool)|int (i:Int)|str (x:Str)|byt (b:Array UInt8)|flt (b:UInt64)|ref (a:Addr)|ty (n:String)
 deriving DecidableEq
abbrev AQ:=List V
def RelV:V->Value->Prop
 | .non,u=>u=.none
 | .bl b,u=>u=.bool b
 | .int i,u=>∃t,u=.int i t
 | .str x,u=>∃t,u=.str x t
 | .byt b,u=>∃t,u=.bytes b t
 | .flt b,u=>∃t,u=.float b t
 | .ref a,u=>u=.ref a
 | .ty n,u=>u=.type n
abbrev Vals:AQ->AC->Prop:=Paired RelV
def Vals.length(r:Vals xs us):xs.length=us.length:=Paired.length r
theorem Vals.get:∀{xs:AQ}{us:AC}{i:Nat}{x:V},Vals xs us->xs[i]?=some x->∃u,us[i]?=some u/\RelV x u
 | _,_,_,_,.nil,e=>by simp at e
 | _,_,0,_,.cons r _,e=>by ext
 | _,_,i+1,x,.cons _ t,e=>by
   obtain⟨u,a,b⟩:=Vals.get t (by simpa using e)
   ext
theorem Vals.set{x:V}{u:Value}(r:RelV x u):∀{xs:AQ}{us:AC} (i:Nat),Vals xs us->Vals (xs.set i x) (us.set i u)
 | _,_,_,.nil=>.nil
 | _,_,0,.cons _ t=>.cons r t
 | _,_,i+1,.cons q t=>.cons q (Vals.set r i t)
theorem Vals.append:∀{xs ys:AQ}{us a:AC},Vals xs us->Vals ys a->Vals (xs++ys) (us++a)
 | _,_,_,_,.nil,s=>s
 | _,_,_,_,.cons r t,s=>.cons r (Vals.append t s)
theorem Vals.take:∀{xs:AQ}{us:AC} (n:Nat),Vals xs us->Vals (xs.take n) (us.take n)
 | _,_,0,_=>.nil
 | _,_,_+1,.nil=>.nil
 | _,_,n+1,.cons r t=>.cons r (Vals.take n t)
theorem Vals.drop:∀{xs:AQ}{us:AC} (n:Nat),Vals xs us->Vals (xs.drop n) (us.drop n)
 | _,_,0,r=>r
 | _,_,_+1,.nil=>.nil
 | _,_,n+1,.cons _ t=>.drop n t
def RelO:Option V->Option Value->Prop
 | some v,some u=>RelV v u
 | none,none=>True
 | _,_=>False
def KV{κ:Type}:List (κ×V)->List (κ×Value)->Prop:=Paired λp q=>p.1=q.1/\RelV p.2 q.2
def kV:eA->V
 | .inl i=>.int i
 | .inr x=>.str x
inductive HO where
 | lst (xs:AQ)
 | tup (xs:AQ)
 | dK (kvs:List (eA×V))|dT (kvs:List (List eA×V))
 | set (S:Int->Bool) (n:Nat)
 | ins (C dx:Addr) (fs:List (Str×V))
 | own (x:Addr)
 | xd (fs:List (Str×V))
 | met (f x:Addr)
 | rng (lo hi:Int)
 | frz (o:Obj) (u:HO)
 | tbl (ps:Array Value)
 | ext (φ:Heap->Prop)
abbrev Hp:=Addr->Option HO
def upd(H:Hp)(a:Addr)(o:HO):Hp:=λb=>if b=a then some o else H b
theorem Yi:upd H a o a=some o:=by unfold upd;symm
def Yh(h:b≠a):upd H a o b=H b:=by unfold upd;rw[if_neg h]
theorem Yl{H:Hp}(h:H a=some o)(c:H b=none):a≠b:=by symm
section
variable (P:P7)(w:World)
def ObjOk(H:Hp)(h:Heap)(a:Addr):HO->Prop
 | .lst xs=>xs.length<=sizeLine/\∃(its:AC) (n:Nat),Vals xs its/\h.get? a=some {cls:=.type "list",data:=.seq its.toArray n}
 | .tup xs=>xs.length<=sizeLine/\∃its:AC,Vals xs its/\IsTup h a its.toArray
 | .dK c=>c.length<=sizeLine/\(a==sysModules)=false/\∃vs,KV c vs/\h.DictOf (Fc P w) a vs
 | .dT c=>c.length<=sizeLine/\(a==sysModules)=false/\∃xs:List (List eA×Addr×Value),
  Paired (λp q=>p.1=q.1/\H q.2.1=some (.tup (p.1.map kV))/\RelV p.2 q.2.2) c xs/\
  ∃o k m,h.get? a=some o/\o.ExactDict/\o.data=.dict k m/\k.toList=xs.map (entryOfKey (tupleKind (Fc P w)))/\(xs.map (·.1)).Nodup
 | .set S n=>h.SetOf (intKind P w) a S n
 | .ins C g e=>H g=some (.own a)/\e.length<=1000/\g≠a/\h.get? a=some (W.instObj C g)/\
  ∃d,h.Ns1 g d/\(∀f,RelO (e.lookup f) (d f))/\PySem.Within d (e.map (·.1))
 | .own _=>∃o,h.get? a=some o
 | .xd e=>∃d,h.Ns1 a d/\∀f,RelO (e.lookup f) (d f)
 | .rng lo r=>∃t u v,h.get? a=some {cls:=.type "range",data:=.fields #[.int lo t,.int r u,.int 1 v]}
 | .frz o u=>h.get? a=some o/\ObjOk H h a u
 | .tbl ps=>h.get? a=some {cls:=.none,data:=.fields ps}
 | .met f x=>h.get? a=some (W.methodObj (.ref f) (.ref x))
 | .ext i=>i h/\(∃o,h.get? a=some o)/\∀j l,i j->(∀o,j.get? a=some o->l.get? a=some o)->i l
def HOk(H:Hp)(h:Heap):Prop:=∀a o,H a=some o->ObjOk P w H h a o
end
section
variable {P:P7}{w:World}{H H':Hp}{h:Heap}{a:Addr}{o:HO}
def ObjOk.lt(x:ObjOk P w H h a o):a<h.objs.size:=by
 cases o with
 | lst k=>obtain⟨_,_,_,_,e⟩:=x;exact ql e
 | tup k=>obtain⟨_,_,_,p⟩:=x;exact p.lt
 | dK b=>obtain⟨_,_,_,_,o,_,_,e,_⟩:=x;exact ql e
 | dT b=>obtain⟨_,_,_,_,o,_,_,e,_⟩:=x;exact ql e
 | set S n=>obtain⟨o,_,_,_,e,_⟩:=x;exact ql e
 | ins C i c=>obtain⟨_,_,_,e,_⟩:=x;exact ql e
 | own y=>obtain⟨_,e⟩:=x;exact ql e
 | xd c=>obtain⟨_,⟨_,_,_,e,_⟩,_⟩:=x;exact ql e
 | rng lo g=>obtain⟨_,_,_,e⟩:=x;exact ql e
 | frz d u=>obtain⟨e,_⟩:=x;exact ql e
 | tbl l=>exact ql (x)
 | met f y=>exact ql (x)
 | ext j=>obtain⟨_,⟨_,e⟩,_⟩:=x;exact ql e
theorem Paired.mapP:∀{g:List d}{c:List e},Paired F g c->(∀a b,F a b->G a b)->Paired G g c
 | _,_,.nil,_=>.nil
 | _,_,.cons r t,f=>.cons (f _ _ r) (Paired.mapP t f)
theorem ObjOk.stay(x:ObjOk P w H h a o)(k:∀b u,(b=a\/H b=some (.own a))->h.get? b=some u->h'.get? b=some u)(G:∀b,H b=some (.own a)->H' b=some (.own a))(E:∀b xs,H b=some (.tup xs)->H' b=some (.tup xs)):ObjOk P w H' h' a o:=by
 induction o with
 | lst xs=>obtain⟨z,l,n,r,e⟩:=x;exact⟨z,l,n,r,k _ _ (.inl rfl) e⟩
 | tup xs=>obtain⟨z,l,r,g,e,c⟩:=x;exact⟨z,l,r,g,k _ _ (.inl rfl) e,c⟩
 | dK s=>obtain⟨z,y,L,r,g,i,j,e,c⟩:=x;exact⟨z,y,L,r,g,i,j,k _ _ (.inl rfl) e,c⟩
 | dT s=>
   obtain⟨z,y,xs,r,g,i,j,e,c⟩:=x;exact⟨z,y,xs,Paired.mapP r λp q z=>⟨z.1,E _ _ z.2.1,z.2.2⟩,g,i,j,k _ _ (.inl rfl) e,c⟩
 | set S n=>obtain⟨g,i,j,t,e,c⟩:=x;exact⟨g,i,j,t,k _ _ (.inl rfl) e,c⟩
 | ins C I D=>
   obtain⟨d,z,B,e,A,⟨m,i,j,M,c⟩,r⟩:=x;exact⟨G _ d,z,B,k _ _ (.inl rfl) e,A,⟨m,i,j,k _ _ (.inr d) M,c⟩,r⟩
 | own y=>obtain⟨g,e⟩:=x;exact⟨g,k _ _ (.inl rfl) e⟩
 | xd D=>obtain⟨A,⟨m,i,j,e,c⟩,r⟩:=x;exact⟨A,⟨m,i,j,k _ _ (.inl rfl) e,c⟩,r⟩
 | rng lo K=>obtain⟨t,u,v,e⟩:=x;exact⟨t,u,v,k _ _ (.inl rfl) e⟩
 | frz g u F=>obtain⟨e,q⟩:=x;exact⟨k _ _ (.inl rfl) e,F q⟩
 | tbl N=>
   have e:_=_:=x;show _=_
   ext
 | met f y=>
   have e:_=_:=x;show _=_
   ext
 | ext J=>obtain⟨p,⟨o,e⟩,st⟩:=x;exact⟨st _ _ p λo q=>k _ _ (.inl rfl) q,⟨o,k _ _ (.inl rfl) e⟩,st⟩
def HOk.lt(x:HOk P w H h)(e:H a=some o):a<h.objs.size:=(x a o e).lt
def HOk.fresh(x:HOk P w H h)(e:h.objs.size<=a):H a=none:=by
 cases q:H a with
 | none=>rfl
 | some u=>exact absurd (Qi (x.lt q) e) (Nat.lt_irrefl _)
def HOk.kept(x:HOk P w H h)(k:∀b u,h.get? b=some u->h'.get? b=some u):HOk P w H h':=λa o e=>
 (x a o e).stay (λb u _ q=>k b u q) (λ_ q=>q) λ_ _ q=>q
theorem HOk.laid(x:HOk P w H h)(k:∀b u,h.get? b=some u->h'.get? b=some u)(g:h.objs.size<=a)(f:ObjOk P w (upd H a o) h' a o):HOk P w (upd H a o) h':=λb u e=>by
 have d:=x.fresh g;by_cases i:b=a
 .subst i;rw[Yi]at e;symm
 .rw[Yh i]at e
  exact(x b u e).stay (λc v _ q=>k c v q) (λc q=>by rwa [Yh (Yl q d)]) λc j q=>by rwa [Yh (Yl q d)]
end
def Rd(H:Hp)(a:Addr)(u:HO):Prop:=H a=some u\/∃o,H a=some (.frz o u)
def Rd.ok(r:Rd H a u)(x:HOk P w H h):ObjOk P w H h a u:=by
 rcases r with r|⟨o,r⟩
 .exact x a u r
 .obtain⟨_,q⟩:=x a _ r
  exact q
def n0:Option HO->Prop
 | some (.lst _)=>True
 | some (.dK _)=>True
 | some (.dT _)=>True
 | some (.set _ _)=>True
 | some (.ins _ _ _)=>True
 | some (.ext _)=>True
 | _=>False
section
variable {P:P7}{w:World}{H:Hp}{h:Heap}{x e:Addr}{o':HO}
theorem HOk.write(l:HOk P w H h)(d:n0 (H x))(o:e=x\/H e=some (.own x))(k:∀b u,b≠e->h.get? b=some u->h'.get? b=some u)(f:∃u,h'.get? e=some u)(i:ObjOk P w (upd H x o') h' x o'):HOk P w (upd H x o') h':=λb u q=>by
 have a:∀c y,H c=some (.own y)->c≠x:=λc y r z=>by subst z;rwa [r]at d
 by_cases p:b=x
 .subst p;rw[Yi]at q;symm
 .rw[Yh p]at q
  by_cases j:b=e
  .have g:H b=some (.own x):=by
    symm
   rw[q]at g;cases g;obtain⟨v,m⟩:=f;exact⟨v,by symm⟩
  .refine(l b u q).stay (λc v n r=>k c v ?_ r) (λc r=>by rwa [Yh (a c b r)]) λc s r=>by rwa [Yh ((λc s r z=>by subst z;rwa [r]at d) c s r)]
   symm
end
structure Un(fs ex:List Addr)(H H':Hp)(h h':Heap):Prop where
 keep:∀b o,h.get? b=some o->H b=none->b∉fs->b∉ex->h'.get? b=some o
 slot:∀b o,h.get? b=some o->H b=none->b∈fs->b∉ex->∃sl,h'.get? b=some {o with slots:=sl}
 free:∀b o,h.get? b=some o->H b=none->b∉ex->H' b=none
 there:∀b o,h.get? b=some o->b∉ex->∃o',h'.get? b=some o'
 tups:∀b xs,H b=some (.tup xs)->H' b=some (.tup xs)
 frzs:∀b o u,H b=some (.frz o u)->H' b=some (.frz o u)
 tbls:∀b ps,H b=some (.tbl ps)->∃more,H' b=some (.tbl (ps++more))
section
variable {fs fs' ex ex':List Addr}{H H1 H2:Hp}{h h1 h2:Heap}{a x e:Addr}{o:HO}
def Un.any(u:Un fs ex H H1 h h1)(q:h.get? b=some c)(n:H b=none)(d:b∉ex):∃f,h1.get? b=some {c with slots:=f}:=by
 by_cases a:b∈fs
 .exact u.slot b c q n a d
 .exact⟨c.slots,u.keep b c q n a d⟩
def Un.kept(k:∀b u,h.get? b=some u->h'.get? b=some u):Un fs ex H H h h':=
 ⟨λb c q _ _ _=>k b c q,λb c q _ _ _=>⟨c.slots,k b c q⟩,λ_ _ _ n _=>n,λb c q _=>⟨c,k b c q⟩,λ_ _ q=>q,λ_ _ _ q=>q,λ_ a q=>⟨#[],by rw[q];simp⟩⟩
def Un.refl:Un fs ex H H h h:=.kept λ_ _ q=>q
theorem Un.laid(k:∀b u,h.get? b=some u->h'.get? b=some u)(d:h.objs.size<=a)(c:H a=none):Un fs ex H (upd H a o) h h' where
 keep:=λb u q _ _ _=>k b u q
 slot:=λb u q _ _ _=>⟨u.slots,k b u q⟩
 free:=λb u q n _=>by rwa [Yh (qm (Qi (ql q) d))]
 there:=λb u q _=>⟨u,k b u q⟩
 tups:=λb e q=>by rwa [Yh (Yl q c)]
 frzs:=λb u e q=>by rwa [Yh (Yl q c)]
 tbls:=λb f q=>⟨#[],by rw[Yh (Yl q c),q];simp⟩
theorem Un.write(d:n0 (H x))(j:e=x\/H e=some (.own x))(k:∀b u,b≠e->h.get? b=some u->h'.get? b=some u)(g:∃u,h'.get? e=some u):Un fs ex H (upd H x o) h h':=by
 have f:∀b,H b=none->b≠x:=λb n z=>by subst z;rwa [n]at d
 have a:∀b,H b=none->b≠e:=λb n z=>by
  ext
 have c:∀b u,H b=some u->¬n0 (some u)->b≠x:=λb u q i z=>by symm
 refine⟨λb u q n _ _=>k b u (a b n) q,λb u q n _ _=>⟨u.slots,k b u (a b n) q⟩,λb u q n _=>by rwa [Yh (f b n)],λb u q _=>?_,
  λb l q=>by rwa [Yh (c b _ q λz=>z)],λb u l q=>by rwa [Yh (c b _ q λz=>z)],λb m q=>⟨#[],by rw[Yh (c b _ q λz=>z),q];simp⟩⟩
 symm
end
def Ll(h:Heap)(H:Hp):List Addr:=(List.range h.objs.size).filter λa=>(H a).isSome
def d6(h:Heap)(H:Hp):Heap:=W.hideAll h (Ll h H)
def Lm(h:Heap)(H:Hp):(d6 h H).objs.size=h.objs.size:=W.hideAll_size _ _
theorem Ln(e:h.get? b=some o)(n:H b=none):(d6 h H).get? b=some o:=
 W.hideAll_get _ e λc=>by
  have q:=(Qc c).2;symm
theorem tP(e:(d6 h H).get? b=some o):h.get? b=some o/\H b=none:=by
 have c:=W.of_hideAll _ e;refine⟨c,?_⟩
 cases q:H b with
 | none=>rfl
 | some x=>
   have z:(d6 h H).get? b=none:=W.hideAll_none _ (List.mem_filter.mpr ⟨List.mem_range.mpr (ql c),by simp[q]⟩);symm
structure Mod(K:W7)(mg:AE)(base:Heap):Prop where
 kin:K.In base
 glob:base.Ns mainGlobals mg
 blt:∃mb,base.Ns builtinsNs mb/\∀x:Str,x≠"__name__"->mb x=bootBuiltins x
 nolimit:base.NoLimit
structure Cx where
 prog:P7
 w:World
 K:W7
 mg:AE
 base:Heap
 A:Around
 N:AK
 s₀:Shared
 H₀:Hp
 env:Env
 outer:List Env
 stack:List Env
 ex:List Addr
 fn:Str->Bool
 calm:Bool
 pn:AB
 xe:AA
def eQ(l:List Env):List Addr:=l.filterMap (·.frame)
abbrev Cx.fs(X:Cx):List Addr:=eQ X.outer
def eZ(a:Scope)(x:Str):Prop:=a.names.lookup x=some .local\/a.names.lookup x=some .cell\/a.names.lookup x=some .free
def eG(a:Scope)(x:Str):Prop:=a.names.lookup x=some .local\/a.names.lookup x=some .cell
def tQ(env:Env)(h:Heap)(m:AE)(x:Str)(u:Value):Prop:=
 env.kindOf x=some .local/\m x=some u\/((env.kindOf x=some .cell\/env.kindOf x=some .free)/\∃c,env.cells.lookup x=some c/\h.IsCell c (some u))
structure Cx.Ok(X:Cx):Prop where
 mod:Mod X.K X.mg X.base
 kind:X.env.scope.kind=.function
 glob:X.env.globals=mainGlobals
 blt:X.env.builtins=builtinsNs
 above:X.s₀.heap.objs.size<=X.env.locals
 inj:∀x y c,X.env.cells.lookup x=some c->X.env.cells.lookup y=some c->x=y
 has:∀x,(X.env.kindOf x=some .cell\/X.env.kindOf x=some .free)->∃c,X.env.cells.lookup x=some c
 cab:∀x c,X.fn x=true->X.env.cells.lookup x=some c->X.s₀.heap.objs.size<=c
 hd:X.calm=true->X.A.handled=none
 frames:X.A.frames=some X.stack
 stk:X.stack=X.outer\/(X.stack=X.env::X.outer/\X.env.frame=some X.env.locals)
 exf:∀b∈X.ex,b≠X.env.locals/\∀x c,X.env.cells.lookup x=some c->c≠b
 bs:∀b o,X.base.get? b=some o->X.s₀.heap.get? b=some o/\X.H₀ b=none
 bsz:X.base.objs.size<=X.s₀.heap.objs.size
 noex:∀b o,X.base.get? b=some o->b∉X.ex
 exfs:∀b∈X.ex,b∉X.fs
 funs:X.s₀.heap.FunFrames X.base X.outer
 frf:∀b∈X.fs,X.H₀ b=none
structure Inv(X:Cx)(pins:AB)(σ:List (Option V))(H:Hp)(s:Shared):Prop where
 ok:X.Ok
 os:s.os=X.s₀.os
 bare:AllBare s.gens
 base:Un X.fs X.ex X.H₀ H X.s₀.heap s.heap
 loc:∃m,s.heap.Ns X.env.locals m/\∀(i:Nat) (x:Str) (v:V),X.N[i]?=some x->σ[i]?=some (some v)->eZ X.env.scope x->∃u,RelV v u/\tQ X.env s.heap m x u
 cell:∀x c,X.env.cells.lookup x=some c->∃v,s.heap.IsCell c v
 free:H X.env.locals=none
 freeC:∀x c,X.env.cells.lookup x=some c->H c=none
 pin:∀p∈X.pn++pins,s.heap.get? p.1=some p.2/\H p.1=none/\p.1≠X.env.locals/\p.1∉X.fs/\∀v,p.2.data≠.cell v
 hok:HOk X.prog X.w H s.heap
 len:σ.length=X.N.length
section
variable {σ:List (Option V)}{H H':Hp}{s:Shared}
theorem Cx.Ok.nofr(c:X.Ok)(e:X.base.get? b=some o):b∉X.fs:=λa=>by
 have:=(c.funs.mem a).1;symm
def Inv.bs(I:Inv X pins σ H s):∀b o,X.base.get? b=some o->s.heap.get? b=some o/\H b=none:=λb o e=>
 ⟨I.base.keep b o (I.ok.bs b o e).1 (I.ok.bs b o e).2 (I.ok.nofr e) (I.ok.noex b o e),I.base.free b o (I.ok.bs b o e).1 (I.ok.bs b o e).2 (I.ok.noex b o e)⟩
def Inv.bk(I:Inv X pins σ H s):∀b o,X.base.get? b=some o->s.heap.get? b=some o:=λb o e=>(I.bs b o e).1
def Inv.mod(I:Inv X pins σ H s):Mod X.K X.mg X.base:=I.ok.mod
def Inv.kIn(I:Inv X pins σ H s):X.K.In s.heap:=I.ok.mod.kin.keeps I.bk
def Inv.lt(I:Inv X pins σ H s):X.env.locals< ~~~s:=let ⟨_,a,_⟩:=I.loc;a.lt
def Inv.sz(I:Inv X pins σ H s):X.s₀.heap.objs.size<= ~~~s:=Qg I.ok.above (Nat.le_of_lt I.lt)
def Inv.nofs(I:Inv X pins σ H s){a:Addr}(h:(~~~s)<=a):a∉X.fs:=λc=>by
 obtain⟨_,o,b,_⟩:=I.ok.funs.mem c;exact absurd (Qi (ql b) (Qg I.sz h)) (Nat.lt_irrefl _)
theorem Inv.cne(I:Inv X pins σ H s):∀x c,X.env.cells.lookup x=some c->c≠X.env.locals:=λx c e z=>by
 obtain⟨v,o,d,i⟩:=I.cell x c e;obtain⟨m,⟨g,f,h,b,a,_⟩,_⟩:=I.loc;symm
theorem Inv.funs(I:Inv X pins σ H s):s.heap.FunFrames X.base X.outer:=by
 have c:∀(l:_),(∀b∈eQ l,b∈X.fs)->X.s₀.heap.FunFrames X.base l->s.heap.FunFrames X.base l:=by
  intro l
  induction l with
  | nil=>intro _ _;trivial
  | cons t r k=>
    intro q m;obtain⟨j,⟨L,o,d,i,f,h⟩,g⟩:=m;have a:=q L (by unfold eQ;ext);obtain⟨n,e⟩:=I.base.slot L o f (I.ok.frf L a) a λz=>I.ok.exfs L z a;exact⟨j,⟨L,_,d,i,e,h⟩,k (λb p=>q b (by unfold eQ;rw[List.filterMap_cons,d];exact qg _ p)) g⟩
 exact c _ (λ_ p=>p) I.ok.funs
def Inv.stack(I:Inv X pins σ H s):s.heap.FunFrames X.base X.stack:=by
 rcases I.ok.stk with e|⟨e,b⟩
 .rw[e];exact I.funs
 .rw[e]
  obtain⟨m,a,_⟩:=I.loc;exact .cons (by rw[I.ok.kind];decide) b a (Heap.get?_none_of_le (Qg I.ok.bsz I.ok.above)) I.funs
theorem Inv.stkSub(I:Inv X pins σ H s):∀b∈eQ X.stack,b∈X.env.locals::X.fs:=λb c=>by
 rcases I.ok.stk with e|⟨e,a⟩
 .grind
 .rw[e]at c
  unfold eQ at c
  rwa [List.filterMap_cons,a]at c
def Inv.stkFree(I:Inv X pins σ H s):∀b∈eQ X.stack,H b=none:=λb c=>by
 rcases qu (I.stkSub b c)with e|c
 .rw[e];exact I.free
 .obtain⟨_,o,a,_⟩:=I.ok.funs.mem c
  exact I.base.free b o a (I.ok.frf b c) λz=>I.ok.exfs b z c
theorem Inv.step{ch:List Addr}(I:Inv X pins σ H s)(g:∀b∈ch,(b∈X.ex\/X.s₀.heap.objs.size<=b)/\b≠X.env.locals/\(∀x c,X.env.cells.lookup x=some c->c≠b)/\∀p∈X.pn++pins,p.1≠b)(h:∀b o,b≠X.env.locals->b∉X.fs->b∉ch->s.heap.get? b=some o->H b=none->h'.get? b=some o)(j:∀b o,b≠X.env.locals->b∈X.fs->b∉ch->s.heap.get? b=some o->H b=none->∃G,h'.get? b=some {o with slots:=G})(f:∀b o,b∉ch->s.heap.get? b=some o->H b=none->H' b=none)(K:∀b o,b∉ch->s.heap.get? b=some o->∃F,h'.get? b=some F)(E:∀b xs,H b=some (.tup xs)->H' b=some (.tup xs))(C:∀b o u,H b=some (.frz o u)->H' b=some (.frz o u))(O:∀b ps,H b=some (.tbl ps)->∃B,H' b=some (.tbl (ps++B)))(ns:∀m,s.heap.Ns X.env.locals m->h'.Ns X.env.locals m)(M:HOk X.prog X.w H' h')(S:AllBare g'):
 Inv X pins σ H' {s with heap:=h',gens:=g',drawn:=d',toks:=t' }:=by
 have A:∀b o,X.s₀.heap.get? b=some o->b≠X.env.locals:=λb o e=>qm (Qi (ql e) I.ok.above)
 have w:∀b o,X.s₀.heap.get? b=some o->b∉X.ex->b∉ch:=λb o e a V=>by
  rcases(g b V).1 with z|z
  .exact a z
  .exact absurd (Qi (ql e) z) (Nat.lt_irrefl _)
 have t:∀x c,_->∀v,s.heap.IsCell c v->h'.IsCell c v:=λx c e v J=>by
  obtain⟨o,y,L⟩:=J;have D:c∉ch:=λz=>(g c z).2.2.1 x c e rfl;by_cases N:c∈X.fs
  .obtain⟨G,q⟩:=j c o (I.cne x c e) N D y (I.freeC x c e)
   exact⟨_,q,L⟩
  .exact⟨o,h c o (I.cne x c e) N D y (I.freeC x c e),L⟩
 refine⟨I.ok,I.os,S,⟨λb o e n V a=>?_,λb o e n V a=>?_,λb o e n a=>?_,λb o e a=>?_,λb xs e=>E b xs (I.base.tups b xs e),λb o xs e=>C b o xs (I.base.frzs b o xs e),λb ps e=>?_⟩,?_,λx c e=>?_,?_,λx c e=>?_,λp U=>?_,M,I.len⟩
 .exact h b o (A b o e) V (w b o e a) (I.base.keep b o e n V a) (I.base.free b o e n a)
 .obtain⟨G,e1⟩:=I.base.slot b o e n V a
  obtain⟨R,e2⟩:=j b _ (A b o e) V (w b o e a) e1 (I.base.free b o e n a);symm
 .obtain⟨F,e1⟩:=I.base.there b o e a
  exact f b F (w b o e a) e1 (I.base.free b o e n a)
 .obtain⟨F,e1⟩:=I.base.there b o e a
  ext
 .obtain⟨Y,e1⟩:=I.base.tbls b ps e
  symm
 .obtain⟨m,T,Q⟩:=I.loc
  refine⟨m,ns m T,λi x v e1 e2 P=>?_⟩;obtain⟨u,r,l⟩:=Q i x v e1 e2 P;refine⟨u,r,?_⟩;rcases l with l|⟨k,c,e,z⟩
  .exact .inl l
  .exact .inr ⟨k,c,e,t x c e _ z⟩
 .obtain⟨v,z⟩:=I.cell x c e
  symm
 .obtain⟨m,⟨o,_,_,y,_⟩,_⟩:=I.loc
  exact f _ o (λz=>(g _ z).2.1 rfl) y I.free
 .obtain⟨v,o,y,L⟩:=I.cell x c e
  exact f c o (λz=>(g c z).2.2.1 x c e rfl) y (I.freeC x c e)
 .obtain⟨e,n,Z,W,d⟩:=I.pin p U
  symm
theorem Inv.un(I:Inv X pins σ H s)(u:Un X.fs [] H H' s.heap h')(f:HOk X.prog X.w H' h'):Inv X pins σ H' {s with heap:=h',toks:=t' }:=by
 obtain⟨m,⟨o,q,t,g,r⟩,_⟩:=id I.loc;obtain⟨p,j⟩:=u.any g I.free nofun
 exact I.step (ch:=[]) (λ_ z=>nomatch z) (λb o _ v _ e n=>u.keep b o e n v nofun) (λb o _ v _ e n=>u.slot b o e n v nofun) (λb o _ e n=>u.free b o e n nofun) (λb o _ e=>u.there b o e nofun) u.tups u.frzs u.tbls (λk h=>by
  obtain⟨l,c,d,a,i⟩:=h;rw[g]at a;cases a
  exact⟨_,c,d,j,i⟩) f I.bare
def Inv.call(I:Inv X pins σ H s)(u:Un (eQ X.stack) ch H H' s.heap h')(i:HOk X.prog X.w H' h')(q:AllBare D)(d:∀b∈ch,(b∈X.ex\/X.s₀.heap.objs.size<=b)/\b≠X.env.locals/\(∀x c,X.env.cells.lookup x=some c->c≠b)/\∀p∈X.pn++pins,p.1≠b):
 Inv X pins σ H' {s with heap:=h',gens:=D,drawn:=E,toks:=t' }:=by
 obtain⟨m,⟨o,B,A,k,r⟩,_⟩:=id I.loc;obtain⟨v,j⟩:=u.any k I.free λz=>(d _ z).2.1 rfl
 exact I.step d (λb o j C a e n=>u.keep b o e n (λz=>(qu (I.stkSub b z)).elim j C) a) (λb o _ _ a e n=>u.any e n a) (λb o a e n=>u.free b o e n a) (λb o a e=>u.there b o e a) u.tups u.frzs u.tbls (λy l=>by
  obtain⟨w,g,h,f,t⟩:=l;rw[k]at f;cases f
  exact⟨_,g,h,j,t⟩) i q
theorem Inv.turned(I:Inv X pins σ H s)(k:∀b o,b≠a->s.heap.get? b=some o->h'.get? b=some o)(t:H a=none)(i:a≠X.env.locals)(w:a∈X.ex\/X.s₀.heap.objs.size<=a)(y:∀x c,X.env.cells.lookup x=some c->c≠a)(l:∀p∈X.pn++pins,p.1≠a):Inv X pins σ H {s with heap:=h',toks:=t' }:=by
 refine I.step (ch:=[a]) (λb A=>?_) (λb o _ _ d e _=>k b o (λz=>d (by simp[z])) e) (λb o _ _ d e _=>⟨o.slots,k b o (λz=>d (by simp[z])) e⟩) (λ_ _ _ _ n=>n)
  (λb o d e=>⟨o,k b o (λz=>d (by simp[z])) e⟩) (λ_ _ e=>e) (λ_ _ _ e=>e) (λb B e=>⟨#[],by rw[e];simp⟩) (λm f=>?_) (λb u e=>?_) I.bare
 .simp_all<;>lia
 .obtain⟨o,g,h,j,r⟩:=f
  exact⟨o,g,h,k _ o (.symm i) j,r⟩
 .refine(I.hok b u e).stay (λc v d q=>k c v ?_ q) (λ_ q=>q) λ_ _ q=>q
  symm
def Inv.tok(I:Inv X pins σ H s)(t:Nat):Inv X pins σ H {s with toks:=t}:=I.un .refl I.hok
def Inv.kept(I:Inv X pins σ H s)(k:∀b u,s.heap.get? b=some u->h'.get? b=some u):Inv X pins σ H {s with heap:=h',toks:=t' }:=I.un (.kept k) (I.hok.kept k)
def Inv.laid{a:Addr}(I:Inv X pins σ H s)(k:∀b u,s.heap.get? b=some u->h'.get? b=some u)(c:(~~~s)<=a)(d:ObjOk X.prog X.w (upd H a o) h' a o):
 Inv X pins σ (upd H a o) {s with heap:=h',toks:=t' }:=I.un (.laid k c (I.hok.fresh c)) (I.hok.laid k c d)
def Inv.write(I:Inv X pins σ H s)(f:n0 (H x))(d:e=x\/H e=some (.own x))(k:∀b u,b≠e->s.heap.get? b=some u->h'.get? b=some u)(a:∃u,h'.get? e=some u)(c:ObjOk X.prog X.w (upd H x o) h' x o):Inv X pins σ (upd H x o) {s with heap:=h',toks:=t' }:=I.un (.write f d k a) (I.hok.write f d k a c)
def Inv.pins_of(I:Inv X pins σ H s)(h:∀p∈a,s.heap.get? p.1=some p.2/\H p.1=none/\p.1≠X.env.locals/\p.1∉X.fs/\∀v,p.2.data≠.cell v):Inv X a σ H s:=
 ⟨I.ok,I.os,I.bare,I.base,I.loc,I.cell,I.free,I.freeC,λp b=>(qw b).elim (λz=>I.pin p (List.mem_append_left _ z)) (h p),I.hok,I.len⟩
def Fd{N:AK}(c:N.Nodup){i j:Nat}(a:N[i]?=some x)(b:N[j]?=some x):i=j:=by
 obtain⟨e,f⟩:=qo a;obtain⟨d,g⟩:=qo b;exact(List.getElem_inj c).mp (f.trans g.symm)
theorem Fe(I:Inv X pins σ H s)(hN:X.N.Nodup)(J:X.N[i]?=some x)(g:eG X.env.scope x)(r:RelV v u)(h:∀s',Inv X pins (σ.set i (some v)) H s'->(∃a,Heap.SameBut a s.heap s'.heap/\(a=X.env.locals\/X.env.cells.lookup x=some a))->Q () s')(hf:X.fn x=true\/X.env.scope.names.lookup x=some .local:=by trivial):wpAny M A (storeName X.env x u) Q E s:=by
 obtain⟨m,N,hl⟩:=id I.loc
 have F:(X.env.scope.kind==.class||(X.env.scope.kind==.module&&X.env.locals != X.env.globals))=false:=by rw[I.ok.kind];rfl
 have t:i<σ.length:=by rw[I.len];symm
 have B:=I.cne
 have f:∀{a:Addr}{h':Heap},(∃o,s.heap.get? a=some o/\H a=none)->Heap.SameBut a s.heap h'->HOk X.prog X.w H h':=λ{a h'} ha V b ob e=>by
  refine(I.hok b ob e).stay (λc R l q=>(V.2 c ?_).trans q) (λ_ q=>q) λ_ _ q=>q;symm
 rcases g with D|D
 .refine wpAny_storeName_local D N (λh' hn' V=>?_) F
  obtain⟨oL,_,_,Z,_⟩:=id N;refine h _ ⟨I.ok,I.os,I.bare,⟨λb o e n hb g=>?_,λb o e n hb g=>?_,I.base.free,λb o e g=>?_,I.base.tups,I.base.frzs,I.base.tbls⟩,⟨_,hn',λj y O e1 e2 U=>?_⟩,λy c e=>?_,I.free,I.freeC,λp L=>?_,f ⟨oL,Z,I.free⟩ V,by simpa using I.len⟩ ⟨_,V,.inl rfl⟩
  .exact(V.2 b (qm (Qi (ql e) I.ok.above))).trans (I.base.keep b o e n hb g)
  .obtain⟨T,e1⟩:=I.base.slot b o e n hb g
   exact⟨T,(V.2 b (qm (Qi (ql e) I.ok.above))).trans e1⟩
  .obtain⟨o',e1⟩:=I.base.there b o e g
   exact⟨o',(V.2 b (qm (Qi (ql e) I.ok.above))).trans e1⟩
  .by_cases w:j=i
   .subst w
    rw[J]at e1;cases e1;rw[List.getElem?_set_self t]at e2;cases e2;exact⟨u,r,.inl ⟨D,by simp⟩⟩
   .rw[Qp (Ne.symm w)]at e2
    obtain⟨W,S,q⟩:=hl j y O e1 e2 U;refine⟨W,S,?_⟩;rcases q with⟨k,e⟩|⟨k,c,e,z⟩
    .refine .inl ⟨k,?_⟩
     have:y≠x:=λe=>w (Fd hN e1 (e ▸ J));symm
    .exact .inr ⟨k,c,e,z.sameBut V (B y c e)⟩
  .obtain⟨R,z⟩:=I.cell y c e
   exact⟨R,z.sameBut V (B y c e)⟩
  .obtain⟨e,n,K,nf,d⟩:=I.pin p L
   exact⟨(V.2 p.1 K).trans e,n,K,nf,d⟩
 .have C:X.fn x=true:=by
   symm
  obtain⟨c,l⟩:=I.ok.has x (.inl D);obtain⟨R,z⟩:=I.cell x c l;refine wpAny_storeName_cell I.ok.kind D l z (λh' P V=>?_);obtain⟨oc,hoc,hocd⟩:=id z;refine h {s with heap:=h' } ⟨I.ok,I.os,I.bare,⟨λb o e n hb g=>?_,λb o e n hb g=>?_,I.base.free,λb o e g=>?_,I.base.tups,I.base.frzs,I.base.tbls⟩,⟨m,N.sameBut V (Ne.symm (B x c l)),λj y O e1 e2 U=>?_⟩,λy G e=>?_,I.free,I.freeC,λp L=>?_,f ⟨oc,hoc,I.freeC x c l⟩ V,by simpa using I.len⟩ ⟨c,V,.inr l⟩
  .exact(V.2 b (qm (Qi (ql e) (I.ok.cab x c C l)))).trans (I.base.keep b o e n hb g)
  .obtain⟨T,e1⟩:=I.base.slot b o e n hb g
   exact⟨T,(V.2 b (qm (Qi (ql e) (I.ok.cab x c C l)))).trans e1⟩
  .obtain⟨o',e1⟩:=I.base.there b o e g
   exact⟨o',(V.2 b (qm (Qi (ql e) (I.ok.cab x c C l)))).trans e1⟩
  .by_cases w:j=i
   .subst w
    rw[J]at e1;cases e1;rw[List.getElem?_set_self t]at e2;cases e2;exact⟨u,r,.inr ⟨.inl D,c,l,P⟩⟩
   .rw[Qp (Ne.symm w)]at e2
    obtain⟨W,S,q⟩:=hl j y O e1 e2 U;refine⟨W,S,?_⟩;rcases q with q|⟨k,G,e,z'⟩
    .exact .inl q
    .refine .inr ⟨k,G,e,z'.sameBut V ?_⟩
     rintro rfl;exact w (Fd hN e1 (I.ok.inj _ _ _ e l ▸ J))
  .by_cases Y:G=c
   .grind
   .obtain⟨w2,z2⟩:=I.cell y G e
    exact⟨w2,z2.sameBut V Y⟩
  .obtain⟨e,n,K,nf,d⟩:=I.pin p L
   refine⟨(V.2 p.1 ?_).trans e,n,K,nf,d⟩;symm
abbrev Zf(X:Cx)(x:Str):Prop:=X.fn x=true\/X.env.scope.names.lookup x=some .local
def Ff(I:Inv X pins σ H s)(a:X.N.Nodup)(d:X.N[i]?=some x)(b:eG X.env.scope x)(r:RelV v u)(h:∀s',Inv X pins (σ.set i (some v)) H s'->Q () s')(e:Zf X x:=by trivial):wpAny M A (storeName X.env x u) Q E s:=
 Fe I a d b r (λs' c _=>h s' c) e
def Inv.call'(I:Inv X pins σ H s)(f:s'.os=s.os)(u:Un (eQ X.stack) ch H H' s.heap s'.heap)(d:HOk X.prog X.w H' s'.heap)(e:AllBare s'.gens)(a:∀b∈ch,(b∈X.ex\/X.s₀.heap.objs.size<=b)/\b≠X.env.locals/\(∀x c,X.env.cells.lookup x=some c->c≠b)/\∀p∈X.pn++pins,p.1≠b):Inv X pins σ H' s':=by
 obtain⟨k,h,j,i,g⟩:=s';subst f;exact I.call u d e a
end
abbrev XK:=Value->Option Addr->Hp->Prop
abbrev St:=List (Option V)
abbrev VK:=V->Hp->Prop
abbrev TE:=St->Hp->VK->Prop
abbrev TT:=St->Hp->(Bool->Hp->Prop)->Prop
abbrev TA:=St->Hp->(AQ->Hp->Prop)->Prop
structure Ends where
 nx:St->Hp->Prop
 rt:VK
 bk:St->Hp->Prop:=λ_ _=>False
 ct:St->Hp->Prop:=λ_ _=>False
abbrev TS:=Ends->St->Hp->Prop
def EP(X:Cx)(pins:AB)(σ:St)(Q:VK)(u:Value)(s':Shared):Prop:=∃v a,Inv X pins σ a s'/\RelV v u/\Q v a
def TP(X:Cx)(pins:AB)(σ:St)(Q:Bool->Hp->Prop)(b:Bool)(s':Shared):Prop:=∃a,Inv X pins σ a s'/\Q b a
def AP(X:Cx)(pins:AB)(σ:St)(Q:AQ->Hp->Prop)(us:AC)(s':Shared):Prop:=∃a b,Inv X pins σ b s'/\Vals a us/\Q a b
def SP(X:Cx)(pins:AB)(D:Ends)(f:Flow)(s':Shared):Prop:=
 match f with
 | .next=>∃a b,Inv X pins a b s'/\D.nx a b
 | .brk=>∃a b,Inv X pins a b s'/\D.bk a b
 | .cont=>∃a b,Inv X pins a b s'/\D.ct a b
 | .ret u=>∃v a b,Inv X pins a b s'/\RelV v u/\D.rt v b
abbrev Zh(X:Cx){a:Type}:=@wpAny a (mZ X.prog X.w) X.A
def PE(X:Cx)(e:Expr)(t:TE):Prop:=
 ∀(a:List _) (s:Shared) (b:St) (H:Hp) (Q:VK),Inv X a b H s->t b H Q->Zh X (eval e X.env) (EP X a b Q) X.xe s
def PT(X:Cx)(e:Expr)(t:TT):Prop:=
 ∀(a:List _) (s:Shared) (b:St) (H:Hp) (Q:Bool->Hp->Prop),Inv X a b H s->t b H Q->Zh X (isTrue e X.env (eval e X.env)) (TP X a b Q) X.xe s
def PW(X:Cx)(e:Expr)(t:TT):Prop:=
 ∀(a:Sem _) (b:List _) (s:Shared) (c:St) (H:Hp) (Q:Bool->Hp->Prop),Inv X b c H s->t c H Q->Zh X (isTrue e X.env a) (TP X b c Q) X.xe s
def PW.pt(h:PW X e t):PT X e t:=h _
def PA(X:Cx)(b:AL)(t:TA):Prop:=
 ∀(a:Pos) (c:List _) (s:Shared) (d:St) (H:Hp) (Q:AQ->Hp->Prop),Inv X c d H s->t d H Q->Zh X (spliced (backTo a (starEach b X.env))) (AP X c d Q) X.xe s
def PS(X:Cx)(st:Stmt)(t:TS):Prop:=
 ∀(a:List _) (s:Shared) (b:St) (H:Hp) (D:Ends),Inv X a b H s->t D b H->Zh X (exec st X.env) (SP X a D) X.xe s
def PSs(X:Cx)(st:List Stmt)(t:TS):Prop:=
 ∀(a:List _) (s:Shared) (b:St) (H:Hp) (D:Ends),Inv X a b H s->t D b H->Zh X (execs st X.env) (SP X a D) X.xe s
def aF(h:wpAny M A t Q E s)(c:∀a s,Q a s->b a s):wpAny M A t b E s:=w6 h c λ_ _ x=>x
section
def tR(i:Nat):TE:=λa H Q=>∃v,a[i]?=some (some v)/\Q v H
def tC(v:V):TE:=λ_ H Q=>Q v H
abbrev cj(x:Str):Prop:=(x==("__debug__":Str))=false
abbrev fM(x:Str):Prop:=(x==("__classdict__":Str))=false
def fU{j:Pos}(p:X.N[i]?=some x)(o:eZ X.env.scope x)(f:cj x:=by decide)(g:fM x:=by decide):PE X (.Name x j) (tR i):=by
 intro w s y H Q I h;obtain⟨v,e,h⟩:=h;obtain⟨m,n,q⟩:=I.loc;obtain⟨u,r,l⟩:=q i x v p e o
 have b:EP X _ y Q u s:=⟨v,H,I,r,h⟩
 rcases l with⟨d,t⟩|⟨d,c,k,a⟩
 .exact wpAny_Name (wpAny_loadName_local I.ok.kind d n t b) f
 .rcases d with d|d
  .exact wpAny_Name (wpAny_loadName_cell I.ok.kind d k a b) f
  .exact wpAny_Name (wpAny_loadName_free I.ok.kind d k a b g) f
def Fg{i j a}:PE X (.Constant (.int i) j a) (tC (.int i)):=λ_ _ _ H _ I h=>wpAny_Constant_int ⟨.int i,H,I.tok _,⟨_,rfl⟩,h⟩
def tS{b j a}:PE X (.Constant (.bool b) j a) (tC (.bl b)):=λ_ _ _ H _ I h=>Constant_bool ⟨.bl b,H,I,rfl,h⟩
def tU{j a}:PE X (.Constant .none j a) (tC .non):=λ_ _ _ H _ I h=>Constant_none ⟨.non,H,I,rfl,h⟩
def tV{x j b}:PE X (.Constant (.str x) j b) (tC (.str x)):=λ_ _ _ H _ I h=>Calls.Constant_str ⟨.str x,H,I.tok _,⟨_,rfl⟩,h⟩
def Gl(X:Cx)(x:Str):Prop:=X.env.kindOf x=some .globalImplicit
def n3{σ:St}(I:Inv X pins σ H s)(d:Gl X x)(e:X.mg x=some u)(h:Q u s)(c:cj x:=by decide):Zh X (eval (.Name x b) X.env) Q E s:=
 Calls.Name_function_global I.ok.kind d (Calls.loadGlobal_global (by rw[I.ok.glob];exact I.mod.glob.keeps I.bk) e h) c
theorem gJ{E:AA}{σ:St}{b:Pos}(I:Inv X pins σ H s)(e:Gl X x)(g:X.mg x=none)(c:bootBuiltins x=some u)(h:Q u s)(j:x≠"__name__":=by decide)(f:cj x:=by decide):Zh X (eval (.Name x b) X.env) Q E s:=by
 obtain⟨k,i,d⟩:=I.mod.blt;exact Calls.Name_function_global I.ok.kind e (Calls.loadGlobal_builtin (by rw[I.ok.glob];exact I.mod.glob.keeps I.bk) g (by rw[I.ok.blt];exact i.keeps I.bk) ((d x j).trans c) h) f
def tW{x:Str}{v:V}{u:Value}{a:Pos}(c:Gl X x)(b:X.mg x=some u)(r:RelV v u)(d:cj x:=by decide):PE X (.Name x a) (tC v):=
 λ_ _ _ H _ I h=>n3 I c b ⟨v,H,I,r,h⟩ d
def tX{a:Pos}(d:Gl X x)(e:X.mg x=none)(b:bootBuiltins x=some u)(r:RelV v u)(f:x≠"__name__":=by decide)(c:cj x:=by decide):PE X (.Name x a) (tC v):=
 λ_ _ _ H _ I h=>gJ I d e b ⟨v,H,I,r,h⟩ f c
variable {a b:Expr}{ta tb:TE}
variable {tA tB':TT}{rest:AL}
def kB(t u:TT):TT:=λa H Q=>t a H λc d=>if c=true then u a d Q else Q false d
def Fh(t u:TT):TT:=λa H Q=>t a H λc d=>if c=true then Q true d else u a d Q
def tZ(t:TT):TT:=λa H Q=>t a H λc d=>Q (!c) d
def t4(d:PT X a tA):PW X (.BoolOp .And [a] pos) tA:=by
 intro g b s i H Q I h;refine isTrue_and (aF (d _ s i H Q I h) λc f e=>?_)
 cases c with
 | true=>exact isTrue_and_nil e
 | false=>exact e
def t5(d:PT X a tA):PW X (.BoolOp .Or [a] pos) tA:=by
 intro g b s i H Q I h;refine isTrue_or (aF (d _ s i H Q I h) λc f e=>?_)
 cases c with
 | false=>exact isTrue_or_nil e
 | true=>exact e
def t6(i:PT X a tA)(n:PW X (.BoolOp .And (b::rest) pos) tB'):PW X (.BoolOp .And (a::b::rest) pos) (kB tA tB'):=by
 intro k l s m H Q I h;refine isTrue_and (aF (i _ s m H _ I h) λc j d=>?_);obtain⟨g,f,e⟩:=d
 cases c with
 | true=>exact n k _ j m g Q f e
 | false=>exact⟨g,f,e⟩
def t7(i:PT X a tA)(n:PW X (.BoolOp .Or (b::rest) pos) tB'):PW X (.BoolOp .Or (a::b::rest) pos) (Fh tA tB'):=by
 intro k l s m H Q I h;refine isTrue_or (aF (i _ s m H _ I h) λc j d=>?_);obtain⟨g,f,e⟩:=d
 cases c with
 | true=>exact⟨g,f,e⟩
 | false=>exact n k _ j m g Q f e
def t8(d:PT X a tA):PT X (.UnaryOp .Not a pos) (tZ tA):=by
 intro b s c H Q I h;exact isTrue_not (d _ s c H _ I h)
def t9(ta tb:TE):TE:=λa H Q=>ta a H λx d=>∃c,x=.bl c/\if c=true then tb a d Q else Q (.bl false) d
def t_(ta:TE):TE:=λa H Q=>ta a H λx d=>∃c,x=.bl c/\Q (.bl (!c)) d
def uA{e}(h:PE X a t):PE X (.BoolOp e [a] pos) t:=λb s d H Q I c=>BoolOp_one (h _ s d H Q I c)
def uB(k:PE X a ta)(n:PE X (.BoolOp .And (b::rest) pos) tb):PE X (.BoolOp .And (a::b::rest) pos) (t9 ta tb):=by
 intro l s m H Q I h;refine BoolOp_and (aF (k _ s m H _ I h) λv i e=>?_);obtain⟨x,f,g,j,d⟩:=e;obtain⟨c,rfl,d⟩:=d;cases j;refine wpAny_truthy_bool ?_
 cases c with
 | true=>exact n _ i m f Q g d
 | false=>exact⟨.bl _,f,g,rfl,d⟩
def uC(j:PE X a ta):PE X (.UnaryOp .Not a pos) (t_ ta):=by
 intro b s l H Q I h;refine UnaryOp_ (aF (j _ s l H _ I h) λv k d=>?_);obtain⟨x,i,g,f,e⟩:=d;obtain⟨c,rfl,e⟩:=e;cases f;exact not_of (wpAny_truthy_bool ⟨.bl _,i,g,rfl,e⟩)
def Lo(t:TT)(ta tb:TE):TE:=λa H Q=>t a H λc d=>if c=true then ta a d Q else tb a d Q
def Lp(l:PT X c tA)(k:PE X a ta)(o:PE X b tb):PE X (.IfExp c a b pos) (Lo tA ta tb):=by
 intro n s m H Q I h;refine wpAny_IfExp (aF (l _ s m H _ I h) λd j e=>?_);obtain⟨i,g,f⟩:=e
 cases d with
 | true=>exact k _ j m i Q g f
 | false=>exact o _ j m i Q g f
end
def SqL(K:W7)(H:Hp)(a:Addr)(xs:AQ):Prop:=
 Rd H a (.lst xs)\/
  ∃(o:Obj) (b:Array _) (n:Nat),K.lookup a=some o/\o.cls=.type "list"/\o.dict=none/\o.data=.seq b n/\b.size<=sizeLine/\Vals xs b.toList
def SqT(K:W7)(H:Hp)(a:Addr)(xs:AQ):Prop:=
 Rd H a (.tup xs)\/
  ∃(o:Obj) (b:Array _) (n:Nat),K.lookup a=some o/\o.cls=.type "tuple"/\o.data=.seq b n/\b.size<=sizeLine/\Vals xs b.toList
def uD:Value->Option V
 | .none=>some .non
 | .bool b=>some (.bl b)
 | .int i _=>some (.int i)
 | .str x _=>some (.str x)
 | .bytes b _=>some (.byt b)
 | .float b _=>some (.flt b)
 | .ref a=>some (.ref a)
 | .type n=>some (.ty n)
 | _=>none
def RelV.abs(r:RelV x u):uD u=some x:=by
 cases x with
 | non=>cases r;rfl
 | bl _=>cases r;rfl
 | int _=>obtain⟨t,rfl⟩:=r;rfl
 | str _=>obtain⟨t,rfl⟩:=r;rfl
 | byt _=>obtain⟨t,rfl⟩:=r;rfl
 | flt _=>obtain⟨t,rfl⟩:=r;rfl
 | ref _=>cases r;rfl
 | ty _=>cases r;rfl
def RelV.inj(r:RelV x u)(q:RelV y u):x=y:=w9 (r.abs.symm.trans q.abs)
theorem Vals.inj:∀{xs ys:AQ}{us:AC},Vals xs us->Vals ys us->xs=ys
 :=by
  intro xs ys us h
  induction h generalizing ys with
  | nil=>
    intro a;cases a;rfl
  | cons r t c=>
    intro a
    cases a with
    | cons b d=>rw[r.inj b,c d]
section
variable {σ:St}{H:Hp}{s:Shared}{a:Addr}{xs:AQ}
def SqL.of{K:W7}(h:H a=some (.lst xs)):SqL K H a xs:=.inl (.inl h)
def SqT.of{K:W7}(h:H a=some (.tup xs)):SqT K H a xs:=.inl (.inl h)
theorem Inv.list(I:Inv X pins σ H s)(h:SqL X.K H a xs):∃its:AC,Vals xs its/\PlainL s.heap a its.toArray/\xs.length<=sizeLine:=by
 rcases h with h|⟨o,its,n,c,d,b,g,f,r⟩
 .obtain⟨z,its,n,r,e⟩:=h.ok I.hok
  exact⟨its,r,⟨_,n,e,rfl,rfl,rfl⟩,z⟩
 .refine⟨its.toList,r,⟨o,n,I.kIn a o c,d,b,by simpa using g⟩,?_⟩
  have e:=r.length
  ext
theorem Inv.tuple(I:Inv X pins σ H s)(h:SqT X.K H a xs):∃its:AC,Vals xs its/\IsTup s.heap a its.toArray/\xs.length<=sizeLine:=by
 rcases h with h|⟨o,its,n,c,b,f,d,r⟩
 .obtain⟨z,its,r,p⟩:=h.ok I.hok
  symm
 .refine⟨its.toList,r,⟨o,I.kIn a o c,b,n,by simpa using f⟩,?_⟩
  have e:=r.length;symm
theorem Inv.list_inj(I:Inv X pins σ H s)(h:SqL X.K H a xs)(k:SqL X.K H a ys):xs=ys:=by
 obtain⟨j,r,⟨o,n,e,_,_,d⟩,_⟩:=I.list h;obtain⟨i,b,⟨c,f,g,_,_,l⟩,_⟩:=I.list k
 have:j=i:=by symm
 subst this;exact r.inj b
theorem Inv.tuple_inj(I:Inv X pins σ H s)(h:SqT X.K H a xs)(k:SqT X.K H a ys):xs=ys:=by
 obtain⟨j,r,⟨o,e,_,n,d⟩,_⟩:=I.tuple h;obtain⟨i,b,⟨c,g,_,f,l⟩,_⟩:=I.tuple k
 have:j=i:=by symm
 subst this;exact r.inj b
end
abbrev Cx.wish(X:Cx)(E:AA):Cx:={X with xe:=E}
abbrev Cx.nox(X:Cx):Cx:=X.wish λ_ _=>False
def Cx.Ok.wish{X:Cx}(a:X.Ok)(E:AA):(X.wish E).Ok:=
 ⟨a.mod,a.kind,a.glob,a.blt,a.above,a.inj,a.has,a.cab,a.hd,a.frames,a.stk,a.exf,a.bs,a.bsz,a.noex,a.exfs,a.funs,a.frf⟩
def Cx.Ok.unwish{X:Cx}(a:(X.wish E).Ok):X.Ok:=
 ⟨a.mod,a.kind,a.glob,a.blt,a.above,a.inj,a.has,a.cab,a.hd,a.frames,a.stk,a.exf,a.bs,a.bsz,a.noex,a.exfs,a.funs,a.frf⟩
section
variable {σ:St}{H:Hp}{s:Shared}{E:AA}{st:Stmt}{rest:List Stmt}{t u:TS}{e:Expr}{te:TE}
def Inv.wish(I:Inv X pins σ H s)(E:AA):Inv (X.wish E) pins σ H s:=⟨I.ok.wish E,I.os,I.bare,I.base,I.loc,I.cell,I.free,I.freeC,I.pin,I.hok,I.len⟩
def Inv.unwish(I:Inv (X.wish E) pins σ H s):Inv X pins σ H s:=⟨I.ok.unwish,I.os,I.bare,I.base,I.loc,I.cell,I.free,I.freeC,I.pin,I.hok,I.len⟩
def SP.unwish(h:SP (X.wish E) pins D f s'):SP X pins D f s':=by
 cases f with
 | next=>obtain⟨a,b,I,q⟩:=h;exact⟨a,b,I.unwish,q⟩
 | brk=>obtain⟨a,b,I,q⟩:=h;exact⟨a,b,I.unwish,q⟩
 | cont=>obtain⟨a,b,I,q⟩:=h;exact⟨a,b,I.unwish,q⟩
 | ret u=>obtain⟨v,a,b,I,r,q⟩:=h;exact⟨v,a,b,I.unwish,r,q⟩
def PSs.nox{st:List Stmt}(h:PSs X.nox st t):PSs X st t:=λb s c H D I a=>
 w6 (h _ s c H D (I.wish _) a) (λ_ _ q=>q.unwish) λ_ _ z=>False.elim z
def kC:TS:=λD a H=>D.nx a H
def uE(t u:TS):TS:=λD a H=>t {D with nx:=u D} a H
def Fi:PSs X [] kC:=λ_ _ a H _ I h=>wpAny_execs_nil ⟨a,H,I,h⟩
def Fj(a:PS X st t)(c:PSs X rest u):PSs X (st::rest) (uE t u):=by
 intro g s i H D I h;refine wpAny_execs_cons (aF (a _ s i H _ I h) λf b q=>?_)
 cases f with
 | next=>
   obtain⟨e,j,d,q⟩:=q;exact c _ b e j D d q
 | ret v=>exact q
 | brk=>exact q
 | cont=>exact q
def uF(a:PS X st t):PSs X [st] t:=by
 intro c s d H D I h;refine wpAny_execs_cons (aF (a _ s d H D I h) λf b q=>?_)
 cases f with
 | next=>exact wpAny_execs_nil q
 | ret v=>exact q
 | brk=>exact q
 | cont=>exact q
def uG:PS X (.Pass pos) kC:=λ_ _ σ H _ I h=>wpAny_Pass ⟨σ,H,I,h⟩
def Inv.quiet(I:Inv X pins σ H s):interactive X.env=false:=by simp[interactive,I.ok.kind]
def uH(te:TE):TS:=λD b H=>te b H λ_ a=>D.nx b a
def kE(f:PE X e te)(hs:swapsWith e none pos.line X.env=pure false:=by rfl):PS X (.Expr e pos) (uH te):=by
 intro j s k H D I h;refine wpAny_Expr_any (aF (f _ s k H _ I h) λv i a=>?_) I.quiet hs;obtain⟨x,d,c,g,b⟩:=a;exact⟨k,d,c,b⟩
def uI(te:TE):TS:=λD a H=>te a H D.rt
def uJ(d:PE X e te):PS X (.Return (some e) pos) (uI te):=by
 intro j s k H D I h;refine wpAny_Return_some (aF (d _ s k H _ I h) λv i a=>?_);obtain⟨x,g,c,b,f⟩:=a;exact⟨x,k,g,c,b,f⟩
def uK(c:TT)(t u:TS):TS:=λD d H=>c d H λb a=>if b=true then t D d a else u D d a
def kF(m:PT X c n)(l:PSs X a t)(p:PSs X b u):PS X (.If c a b pos) (uK n t u):=by
 intro o s e H D I h;refine wpAny_If (aF (m _ s e H _ I h) λd g f=>?_);obtain⟨k,i,j⟩:=f
 cases d with
 | true=>exact l _ g e k D i j
 | false=>exact p _ g e k D i j
end
abbrev TG:=V->St->Hp->(St->Hp->Prop)->Prop
abbrev kG:=AQ->St->Hp->(St->Hp->Prop)->Prop
def PG(X:Cx)(a:Expr)(t:TG):Prop:=
 ∀(b:List _) (s:Shared) (d:St) (H:Hp) (v:V) (u:Value) (Q:St->Hp->Prop),Inv X b d H s->RelV v u->t v d H Q->
  Zh X (assign a X.env u) (λ_ f=>∃c e,Inv X b c e f/\Q c e) X.xe s
def n4(X:Cx)(a:AL)(t:kG):Prop:=
 ∀(b:List _) (s:Shared) (g:St) (H:Hp) (f:AQ) (e:List _) (Q:St->Hp->Prop),Inv X b g H s->Vals f e->t f g H Q->
  Zh X (assignInOrder ((assignEach a X.env).map (·.2)) e) (λ_ h=>∃c d,Inv X b c d h/\Q c d) X.xe s
abbrev kH:=V->V->V->Hp->(Hp->Prop)->Prop
def kI(X:Cx)(t:kH):Prop:=
 ∀(a:List _) (s:Shared) (d:St) (H:Hp) (o i v:V) (b c u:Value) (Q:Hp->Prop),Inv X a d H s->RelV o b->RelV i c->RelV v u->t o i v H Q->
  Zh X (setItem b c u) (λ_ f=>∃e,Inv X a d e f/\Q e) X.xe s
def jE(i:Nat):TG:=λv a H Q=>Q (a.set i (some v)) H
def uL(a:X.N.Nodup)(d:X.N[i]?=some x)(b:eG X.env.scope x)(e:Zf X x:=by trivial):PG X (.Name x pos) (jE i):=by
 intro f s j H v u Q I r h;exact wpAny_assign_Name (Ff I a d b r (λg c=>⟨_,H,c,h⟩) e)
def uM:kG:=λb a H Q=>b=[]/\Q a H
def uN(t:TG)(u:kG):kG:=λd b H Q=>∃v r,d=v::r/\t v b H λa c=>u r a c Q
def uO:n4 X [] uM:=by
 intro a s b H d c Q I r h;obtain⟨e,h⟩:=h;exact assignInOrder_nil ⟨b,H,I,h⟩
def Fl(k:PG X e t)(i:n4 X a u)(hs:(assignEach (e::a) X.env).map (·.2)=assign e X.env::(assignEach a X.env).map (·.2):=by rfl):n4 X (e::a) (uN t u):=by
 intro n s o H w q Q I r h;obtain⟨v,m,p,h⟩:=h;subst p
 cases r with
 | cons r f=>
   rw[hs];refine assignInOrder_cons (aF (k _ s o H _ _ _ I r h) λ_ d b=>?_);obtain⟨c,j,g,l⟩:=b;exact i _ d c j _ _ Q g f l
def uP(K:W7)(n:Nat)(t:kG):TG:=λv d H Q=>∃a c,v=.ref a/\SqT K H a c/\c.length=n/\t c d H Q
theorem uQ{k:Nat}(l:X.calm=true)(h:n4 X f t)(m:(assignEach f X.env).length=n:=by rfl)(d:(assignEach f X.env).findIdx? (·.1)=none:=by rfl):PG X (.Tuple f k pos) (uP X.K n t):=by
 intro x s B H v u Q I r c;obtain⟨a,z,y,p,q,c⟩:=c;subst y;cases r;obtain⟨A,i,j,w⟩:=I.tuple p;exact assign_Tuple_tuple (I.ok.hd l) j (by simp[m,<-q,i.length]) d λC g=>h _ _ B H z _ Q (I.kept λb o e=>g b o (qm (ql e)) e) ⋯ c
def uR(b f:TE)(t:kH):TG:=λv a H Q=>b a H λo d=>f a d λi c=>t o i v c λe=>Q a e
def uS(n:PE X o D)(k:PE X i f)(hs:kI X t)(B:∀v,assign (.Subscript o i pos) X.env v=(do
  let b <-holding [v] (eval o X.env)
  let c <-holding [v,b] (eval i X.env)
  standAt pos
  holding [v,b,c] (setItem b c v)
  release [v,b,c] []):=by intro _;rfl):PG X (.Subscript o i pos) (uR D f t):=by
 intro e s d H v u Q I r h;rw[B];refine wa (wd (aF (n _ s d H _ I h) λb m a=>?_));obtain⟨x,p,j,G,q⟩:=a;refine wa (wd (aF (k _ m d p _ j q) λc l a=>?_));obtain⟨y,E,C,A,F⟩:=a;refine wa (wpAny_standAt (wa (wd (aF (hs _ l d E x y v b c u _ C G A r F) λ_ J a=>?_))));obtain⟨w,g,z⟩:=a;exact wpAny_release ⟨d,w,g,z⟩
def e_(a:TE)(g:TG):TS:=λD c H=>a c H λx b=>g x c b D.nx
theorem Fm(i:PE X e m)(j:PG X a g)(hs:swapsWithSole [a] e pos.line X.env=pure false:=by rfl)(o:swappedStores [a] e X.env=pure none:=by rfl)(n:(assignEach [a] X.env).map (·.2)=[assign a X.env]:=by rfl):PS X (.Assign [a] e pos) (e_ m g):=by
 intro r s t H D I h;refine wpAny_Assign_stores (aF (i _ s t H _ I h) λv c b=>?_) hs o;obtain⟨x,d,l,k,f⟩:=b;rw[n];exact aF (j _ c t d x v _ l k f) λ_ p q=>q
def uT(c:X.N.Nodup)(o:X.N[i]?=some x)(p:eG X.env.scope x)(j:PE X e n)(hs:swapsWith e (some (.Name x a)) pos.line X.env=pure false:=by rfl)(g:Zf X x:=by trivial):
 PS X (.Assign [.Name x a] e pos) (e_ n (jE i)):=by
 intro t s u H D I h;refine wpAny_Assign_Name (aF (j _ s u H _ I h) λv r b=>?_) hs;obtain⟨y,d,m,l,f⟩:=b;exact Ff m c o p l (λq k=>⟨_,d,k,f⟩) g
def uU(c:TT)(e:TS):TS:=λD f H=>∃W:Nat->St->Hp->Prop,(∃m,W m f H)/\∀m f H,W m f H->
 c f H λb d=>if b=true then ∃N:St->Hp->Prop,(∀g h,N g h->∃a,a<m/\W a g h)/\e {D with nx:=N,ct:=N,bk:=D.nx} f d else D.nx f d
theorem Lq(p:PassesOwn (mZ X.prog X.w) X.A X.env X.xe)(y:PT X c A)(M:PSs X d r):PS X (.While c d [] pos) (uU A r):=by
 intro K s Q H D I h;obtain⟨W,⟨q,B⟩,e⟩:=h;refine wpAny_While (codeAny_whileLoop (λn O=>∃J L,Inv X _ J L O/\W n J L) ?_ q ⟨Q,H,I,B⟩);rintro n t ⟨a,l,x,E⟩;refine wpAny_passesOwn p (aF (y _ t a l _ x (e n a l E)) λb z j=>?_);obtain⟨m,o,i⟩:=j
 cases b with
 | true=>
   obtain⟨N,G,i⟩:=i;refine wpAny_passesOwn p (aF (M _ z a m _ o i) λf F g=>?_)
   cases f with
   | next=>
     obtain⟨k,u,w,C⟩:=g;symm
   | cont=>
     obtain⟨k,u,w,C⟩:=g;symm
   | brk=>exact g
   | ret v=>exact g
 | false=>
   exact wpAny_execs_nil ⟨a,m,o,i⟩
structure It where
 go:Nat->Hp->Prop
 yld:Nat->Hp->V->Hp->Prop
 stop:Nat->Hp->Prop
def cJ(X:Cx)(pins:AB)(H:Hp)(b:Addr):Prop:=
 H b=none/\b≠X.env.locals/\b∉X.fs/\(b∈X.ex\/X.s₀.heap.objs.size<=b)/\(∀x c,X.env.cells.lookup x=some c->c≠b)/\∀p∈X.pn++pins,p.1≠b
theorem Inv.fpOk{σ:St}{b:Addr}(I:Inv X pins σ H s)(f:(~~~s)<=b)(a:H' b=none):cJ X pins H' b:=by
 refine⟨a,Nat.ne_of_gt (Qi I.lt f),I.nofs f,.inr (Qg I.sz f),λx c e z=>?_,λp d z=>?_⟩
 .obtain⟨v,q⟩:=I.cell x c e
  exact absurd (Qi q.lt (by ext)) (Nat.lt_irrefl _)
 .exact absurd (Qi (ql (I.pin p d).1) (by ext)) (Nat.lt_irrefl _)
structure d7(P:P7)(w:World)(K:W7)(tg:Expr)(J:It)(fp:List Addr)(it:Addr)(tn:Nat->Heap->Prop):Prop where
 mem:it∈fp
 obj:∀i h,tn i h->∀b∈fp,∃o,h.get? b=some o/\∀v,o.data≠.cell v
 keep:∀i h h',tn i h->(∀b∈fp,∀o,h.get? b=some o->h'.get? b=some o)->tn i h'
 item:∀(X:Cx),X.prog=P->X.w=w->X.K=K->X.calm=true->∀(i:Nat) (pins:AB) (s:Shared) (σ:St) (H:Hp) (E:AA),Inv X pins σ H s->(∀b∈fp,cJ X pins H b)->tn i s.heap->J.go i H->
  wpAny (mZ P w) X.A (pyNext (.ref it)) (λr s1=>∃u,r=some u/\
   wpAny (mZ P w) X.A (letOwnedTupleGo tg (.ref it) u) (λ_ s2=>∃x H',Inv X pins σ H' s2/\RelV x u/\J.yld i H x H'/\tn (i+1) s2.heap/\∀b∈fp,H' b=none) E s1) E s
 done:∀(X:Cx),X.prog=P->X.w=w->X.K=K->X.calm=true->∀(i:Nat) (pins:AB) (s:Shared) (σ:St) (H:Hp) (E:AA),Inv X pins σ H s->(∀b∈fp,cJ X pins H b)->tn i s.heap->J.stop i H->
  wpAny (mZ P w) X.A (pyNext (.ref it)) (λr s1=>r=none/\Inv X pins σ H s1) E s
 self:∀(A:Around) (i:Nat) (s:Shared) (Q:AA) (E:AA),tn i s.heap->Q (.ref it) s->wpAny (mZ P w) A (pyIter (.ref it)) Q E s
abbrev TI:=St->Hp->(It->Hp->Prop)->Prop
def Fn(X:Cx)(pins:AB)(σ:St)(g:Expr)(R:It->Hp->Prop)(a:Value)(e:Shared):Prop:=
 ∃(f:Addr) (d:List _) (c:Nat->Heap->Prop) (J:It) (h:Hp),a=.ref f/\Inv X pins σ h e/\d7 X.prog X.w X.K g J d f c/\c 0 e.heap/\(∀b∈d,cJ X pins h b)/\R J h
def PI(X:Cx)(d a:Expr)(b:TI):Prop:=
 ∀(e:List _) (s:Shared) (f:St) (H:Hp) (R:It->Hp->Prop),Inv X e f H s->b f H R->
  Zh X (eval a X.env) (λv c=>Zh X (pyIter v) (Fn X e f d R) X.xe c) X.xe s
theorem hU(f:s.heap.get? c=some o)(b:o.cls=.type n)(e:o.data=.fields vs)(g:["enumerate","zip","dict_itemiterator","dict_reverseitemiterator","odict_iterator","itertools.zip_longest","itertools.pairwise"].contains n=false)(a:Q () s):wpAny M A (letOwnedTupleGo d (.ref c) u) Q E s:=by
 cases d<;>first
  | exact wc a
  | (cases u<;>first
   | exact wc a
   | (refine wa (wpAny_load f ?_)
      rw[b,e];show wpAny M A (if _ then _ else _) Q E s;rw[if_neg ⋯]
      exact wc a))
def Fo(K:W7)(a:Addr):It:=
 ⟨λi H=>∃b x,SqL K H a b/\b[i]?=some x,λi H x d=>d=H/\∀b,SqL K H a b->b[i]?=some x,λi H=>∃b,SqL K H a b/\b.length<=i⟩
def Fp(K:W7)(a:Addr):It:=
 ⟨λi H=>∃b x,SqT K H a b/\b[i]?=some x,λi H x d=>d=H/\∀b,SqT K H a b->b[i]?=some x,λi H=>∃b,SqT K H a b/\b.length<=i⟩
def kJ(lo:Int)(n:Nat):It:=⟨λi _=>i<n,λi H x a=>a=H/\x=.int (lo+i),λi _=>n<=i⟩
theorem Lr{K:W7}(a f:Addr):d7 P w K S (Fo K a) [f] f (λi h=>h.IsListIter f a i) where
 mem:=by simp
 obj:=λi h st b m=>by
  obtain⟨o,e,c,d⟩:=st
  ext
 keep:=λi h Y st k=>st.at λo e=>k f nofun o e
 item:=by
  intro X r n C F i T s σ H E I l st t;subst r n C;obtain⟨Z,x,j,z⟩:=t;obtain⟨U,A,p,J⟩:=I.list j;obtain⟨u,R,G⟩:=A.get z;obtain⟨q,y,N,v,B,D⟩:=l f nofun;refine wpAny_pyNext_list_item st p.isList (x:=u) ⋯ λY g M=>?_;obtain⟨o,e,c,d⟩:=id g;exact⟨u,rfl,hU e c d (by decide) ⟨x,H,I.turned (λb o m e=>(M.2 b m).trans e) q y v B D,G,⟨rfl,λys L=>by rwa [I.list_inj L j]⟩,g,λb m=>(l b m).1⟩⟩
 done:=by
  intro X r n C F i T s σ H E I l st t;subst r n C;obtain⟨Z,j,z⟩:=t;obtain⟨U,A,p,J⟩:=I.list j;obtain⟨q,y,N,v,B,D⟩:=l f nofun;have Q:=A.length
  exact wpAny_pyNext_list_end (I.ok.hd F) st p.isList (by simp;ext) λY O=>⟨rfl,I.turned (λb o m e=>O b o m e) q y v B D⟩
 self:=λ_ _ _ _ _ st h=>wpAny_pyIter_listiter st h
theorem Ls{K:W7}(a f:Addr):d7 P w K S (Fp K a) [f] f (λi h=>h.IsTupleIter f a i) where
 mem:=by simp
 obj:=λi h st b m=>by
  obtain⟨o,e,c,d⟩:=st;symm
 keep:=λi h Y st k=>st.at λo e=>k f nofun o e
 item:=by
  intro X r n C F i T s σ H E I l st t;subst r n C;obtain⟨Z,x,j,z⟩:=t;obtain⟨U,A,p,J⟩:=I.tuple j;obtain⟨u,R,G⟩:=A.get z;obtain⟨q,y,N,v,B,D⟩:=l f nofun;refine wpAny_pyNext_tuple_item st (p) (x:=u) ⋯ λY g M=>?_;obtain⟨o,e,c,d⟩:=id g;exact⟨u,rfl,hU e c d (by decide) ⟨x,H,I.turned (λb o m e=>(M.2 b m).trans e) q y v B D,G,⟨rfl,λys L=>by rwa [I.tuple_inj L j]⟩,g,λb m=>(l b m).1⟩⟩
 done:=by
  intro X r n C F i T s σ H E I l st t;subst r n C;obtain⟨Z,j,z⟩:=t;obtain⟨U,A,p,J⟩:=I.tuple j;obtain⟨q,y,N,v,B,D⟩:=l f nofun;have Q:=A.length
  exact wpAny_pyNext_tuple_end (I.ok.hd F) st (p) (by simp;lia) λY O=>⟨rfl,I.turned (λb o m e=>O b o m e) q y v B D⟩
 self:=λ_ _ _ _ _ st h=>wpAny_pyIter_tupleiter st h
theorem Lu{K:W7}(a:Addr)(lo:Int)(n:Nat):d7 P w K F (kJ lo n) [a] a (λi h=>IsRangeIter h a (lo+(i:Nat)*1) ((n:Int)-(i:Nat)) 1) where
 mem:=by simp
 obj:=λi h st b q=>by
  ext
 keep:=λi h J st k=>k a nofun _ st
 item:=by
  intro X y u x m i G s M H E I d st f;obtain⟨l,r,C,g,p,j⟩:=d a nofun;refine(Walks.range (I.ok.hd m) a lo 1 n).item i s _ _ f st λv J N A c z=>?_;obtain⟨t,rfl⟩:=A;have D:Inv X _ M H {s with heap:=J,toks:=N}:=I.turned (λb o q e=>z b o ⋯ e) l r g p j;refine⟨_,rfl,hU c rfl rfl (by decide) ⟨.int _,H,D,⟨t,?_⟩,⟨rfl,rfl⟩,c,λb q=>(d b q).1⟩⟩;symm
 done:=by
  intro X y u x m i G s M H E I d st f;obtain⟨l,r,C,g,p,j⟩:=d a nofun
  exact wpAny_pyNext_range_end (I.ok.hd m) st (by have:n<=i:=f;lia) λJ B=>⟨rfl,I.turned (λb o q e=>B b o q e) l r g p j⟩
 self:=λ_ _ _ _ _ st h=>wpAny_pyIter_rangeiter st h
theorem Ft{σ:St}{lo a:Int}(I:Inv X pins σ H s)(d:-(2^62)<=lo)(g:lo<2^62)(f:-(2^62)<=a)(h:a<2^62)(q:R (kJ lo (a-lo).toNat) H):Zh X (pyIter (.ref (~~~s))) (Fn X pins σ tg R) E {s with heap:=s.heap.push {cls:=.type "range",data:=.fields #[.int lo t,.int a u,.int 1 v]},toks:=tk}:=by
 refine wpAny_pyIter_range (.new ..) (small_one d g f h) ?_;have c:Inv X _ σ H {s with heap:=s.heap.push {cls:=.type "range",data:=.fields #[.int lo t,.int a u,.int 1 v]},toks:=tk}:=I.kept λb o e=>qe _ e
 refine⟨(s.heap.push _).objs.size,[(s.heap.push _).objs.size],_,_,H,rfl,
  c.kept λb o e=>qe _ e,Lu _ lo _,?_,λb k=>?_,q⟩
 .have i:lo+((0:Nat))*1=lo:=by simp
  have j:(((a-lo).toNat))-((0:Nat))=Builtin.Range.rangeSize lo a 1:=by rw[rangeSize_one];split<;>lia
  rw[i,j];exact qp _ rfl
 .have e:b=(s.heap.push {cls:=.type "range",data:=.fields #[.int lo t,.int a u,.int 1 v]}).objs.size:=by ext
  subst e;exact c.fpOk (qv _) (c.hok.fresh (qv _))
def uV(a:TA):TI:=λd H R=>a d H λc b=>∃j:Int,c=[.int j]/\-(2^62)<=j/\j<2^62/\R (kJ 0 j.toNat) b
def uW(a:TA):TI:=λc H R=>a c H λd b=>∃i j:Int,d=[.int i,.int j]/\(-(2^62)<=i/\i<2^62/\-(2^62)<=j/\j<2^62)/\R (kJ i (j-i).toNat) b
abbrev Ze(X:Cx)(e:Expr):Prop:=starEach [e] X.env=[(false,eval e X.env)]
theorem Lv(k:Gl X "range")(g:X.mg "range"=none)(m:PA X [a] u)(hs:Ze X a:=by rfl):PI X tg (.Call (.Name "range" p) [a] [] c) (uV u):=by
 intro x s y H R I h;refine Call_ (gJ I k g boot_range (PyProof.Rows.callWith_type1 (aF (m c _ s y H _ I h) λA v f=>?_) hs rfl));obtain⟨z,w,l,o,d⟩:=f;obtain⟨j,e,d,n,q⟩:=d;subst e
 cases o with
 | cons r i=>
   cases i;obtain⟨t,rfl⟩:=r;exact call_range_1 (Ft l ∅ ∅ d n (by simpa using q))
theorem Lx{p c:Pos}(o:Gl X "range")(l:X.mg "range"=none)(w:PA X [a,b] m)(hs:starEach [a,b] X.env=[(false,eval a X.env),(false,eval b X.env)]:=by rfl)(f:starEach [b] X.env=[(false,eval b X.env)]:=by rfl):
 PI X tg (.Call (.Name "range" p) [a,b] [] c) (uW m):=by
 intro C s D H R I h;refine Call_ (gJ I o l boot_range (PyProof.Rows.callWith_type1 (aF (w c _ s D H _ I h) λF B ⟨G,A,u,n,k⟩=>?_) (by rw[hs,f]) (by rw[f];rfl)));obtain⟨i,j,e,⟨k,x,y,v⟩,q⟩:=k;subst e
 cases n with
 | cons r g=>
   cases g with
   | cons z g=>
     cases g;obtain⟨t,rfl⟩:=r;obtain⟨E,rfl⟩:=z;exact call_range_2 (Ft u k x y v q)
def uX(f:TI)(g:TG)(e:TS):TS:=λD h H=>f h H λJ c=>∃W:Nat->Nat->St->Hp->Prop,(∃m,W 0 m h c)/\∀i m h H,W i m h H->
 (J.stop i H/\D.nx h H)\/(J.go i H/\∃N:St->Hp->Prop,(∀j k,N j k->∃b,b<m/\W (i+1) b j k)/\∀x k,J.yld i H x k->g x h k λa d=>e {D with nx:=N,ct:=N,bk:=D.nx} a d)
def n5(a:List Addr)(h:Heap):AB:=a.filterMap λb=>(h.get? b).map λo=>(b,o)
def n6(c:b∈a)(e:h.get? b=some o):(b,o)∈n5 a h:=List.mem_filterMap.mpr ⟨b,c,by rw[e];rfl⟩
theorem Ly(a:p∈n5 c h):p.1∈c/\h.get? p.1=some p.2:=by
 obtain⟨b,d,e⟩:=List.mem_filterMap.mp a
 cases q:h.get? b with
 | none=>symm
 | some o=>
   symm
theorem Inv.pinned{σ:St}(I:Inv X pins σ H s)(c:∀b∈a,cJ X pins H b)(i:∀b∈a,∃o,s.heap.get? b=some o/\∀v,o.data≠.cell v):Inv X (pins++n5 a s.heap) σ H s:=
 I.pins_of λp d=>(qw d).elim (λz=>I.pin p (Qr _ z)) λz=>by
  obtain⟨j,e⟩:=Ly z;obtain⟨f,g,h,_⟩:=c p.1 j;symm
def Inv.unpinned{σ:St}(I:Inv X (pins++b) σ H s):Inv X pins σ H s:=I.pins_of λp a=>I.pin p (Qr _ (List.mem_append_left _ a))
theorem Fu(E:PassesOwn (mZ X.prog X.w) X.A X.env X.xe)(Y:X.calm=true)(hi:PI X tg q wi)(hg:PG X tg g)(hb:PSs X B tb)(hs:∀x,foldedSetIterable q X.env x=pure x:=by intro _;rfl):PS X (.For tg q B [] pos) (uX wi g tb):=by
 intro pins s σ H D I h;refine wpAny_For (aF (hi pins s σ H _ I h) λv s1 h1=>aF h1 λitv s2 h2=>?_) hs;obtain⟨it,A,Z,J,H2,e,I2,T,P,S,W,⟨m0,w0⟩,C⟩:=h2;subst e
 have k:∀{H':Hp},(∀b∈A,H' b=none)->∀b∈A,cJ X pins H' b:=λhn b hb=>⟨hn b hb,(S b hb).2⟩
 refine codeAny_forLoop_any (λn s'=>∃i σ' H',Inv X pins σ' H' s'/\Z i s'.heap/\(∀b∈A,H' b=none)/\W i n σ' H') ?_ m0 ⟨0,σ,H2,I2,P,λb hb=>(S b hb).1,w0⟩;rintro n s3 ⟨i,l,G,V,F,z,w3⟩;rcases C i n l G w3 with⟨y,qn⟩|⟨go,N,hN,step⟩
 .refine wpAny_passesOwn E (aF (T.done X rfl rfl rfl Y i pins s3 l G X.xe V (k z) F y) λr s4 c=>?_)
  obtain⟨M,I4⟩:=c;subst M;exact wpAny_execs_nil ⟨l,G,I4,qn⟩
 .refine wpAny_passesOwn E (aF (T.item X rfl rfl rfl Y i pins s3 l G X.xe V (k z) F go) λr s4 c=>?_)
  obtain⟨u,M,h4⟩:=c;subst M;refine wpAny_passesOwn E (aF h4 λ_ R c=>?_);obtain⟨x,U,I5,r5,y5,w,K⟩:=c;refine wpAny_passesOwn E (aF (hg _ R l U x u _ (I5.pinned (k K) (T.obj _ _ w)) r5 (step x U y5)) λ_ s6 c=>?_);obtain⟨O,H6,I6,q6⟩:=c;refine wpAny_passesOwn E (aF (hb _ s6 O H6 _ I6 q6) λf L t=>?_)
  have again:∀{a:St}{j:Hp},Inv X _ a j L->N a j->∃m,m<n/\∃i σ' H',Inv X pins σ' H' L/\Z i L.heap/\(∀b∈A,H' b=none)/\W i m σ' H':=λ{a j} p Q=>by
   obtain⟨m',hm,w7⟩:=hN a j Q;refine⟨m',hm,i+1,a,j,p.unpinned,T.keep _ _ _ w λb hb o e=>(p.pin (b,o) (Qr _ (Qr _ (n6 hb e)))).1,λb hb=>?_,w7⟩;obtain⟨o,e,d⟩:=T.obj _ _ w b hb;exact(p.pin (b,o) (Qr _ (Qr _ (n6 hb e)))).2.1
  cases f with
  | next=>obtain⟨a,j,p,Q⟩:=t;symm
  | cont=>obtain⟨a,j,p,Q⟩:=t;symm
  | brk=>obtain⟨a,j,p,t⟩:=t;exact⟨a,j,p.unpinned,t⟩
  | ret v=>obtain⟨x7,a,j,p,r7,t⟩:=t;exact⟨x7,a,j,p.unpinned,r7,t⟩
abbrev R2:=V->V->Hp->VK->Prop
def bV(X:Cx)(f:Value->Value->Sem Value)(r:R2):Prop:=
 ∀(a:List _) (s:Shared) (b:St) (H:Hp) (x y:V) (v u:Value) (Q:VK),Inv X a b H s->RelV x v->RelV y u->r x y H Q->
  Zh X (f v u) (EP X a b Q) X.xe s
def uY(X:Cx)(f:Value->Sem Value)(r:V->Hp->VK->Prop):Prop:=
 ∀(a:List _) (s:Shared) (b:St) (H:Hp) (x:V) (v:Value) (Q:VK),Inv X a b H s->RelV x v->r x H Q->
  Zh X (f v) (EP X a b Q) X.xe s
def dn(X:Cx)(f:Value)(r:AQ->Hp->VK->Prop):Prop:=
 ∀(a:List _) (s:Shared) (b:St) (H:Hp) (c:AQ) (d:List _) (Q:VK),Inv X a b H s->Vals c d->r c H Q->
  Zh X (call f d) (EP X a b Q) X.xe s
def uZ(X:Cx)(r:V->Hp->(Bool->Hp->Prop)->Prop):Prop:=
 ∀(a:List _) (s:Shared) (b:St) (H:Hp) (x:V) (v:Value) (Q:Bool->Hp->Prop),Inv X a b H s->RelV x v->r x H Q->
  Zh X (truthy v) (TP X a b Q) X.xe s
def hV(r:R2)(d a:TE):TE:=λe H Q=>d e H λx b=>a e b λy c=>r x y c Q
def Lz(r:V->Hp->VK->Prop)(a:TE):TE:=λc H Q=>a c H λx b=>r x b Q
def rI(C:Int->Int->Prop)(g:Int->Int->V):R2:=λx y H Q=>∃i j,x=.int i/\y=.int j/\C i j/\Q (g i j) H
def fg(g:Int->Int->V):R2:=λx y H Q=>∃i j,x=.int i/\y=.int j/\Q (g i j) H
def rU(g:Int->V):V->Hp->VK->Prop:=λx H Q=>∃i,x=.int i/\Q (g i) H
section
variable {a b c:Expr}{ta tb tc:TE}
theorem hX(m:PE X a ta)(c:PE X b tb){σ:St}{R:V->V->Hp->Prop}(I:Inv X pins σ H s)(h:ta σ H λx j=>tb σ j λy e=>R x y e){f:Value->Value->Sem Value}(w:∀v u k x y e,Inv X pins σ e k->RelV x v->RelV y u->R x y e->Zh X (f v u) Q X.xe k):
 Zh X (eval a X.env) (λv i=>Zh X (eval b X.env) (λu g=>Zh X (f v u) Q X.xe g) X.xe i) X.xe s:=by
 refine aF (m _ s σ H _ I h) λv l d=>?_;obtain⟨x,j,n,q,o⟩:=d;refine aF (c _ l σ j _ n o) λu k d=>?_;obtain⟨y,e,p,t,r⟩:=d;symm
def hY(j:bV X (binaryOp n) r)(d:PE X a ta)(l:PE X b tb):PE X (.BinOp a n b pos) (hV r ta tb):=by
 intro c s m H Q I h;exact wpAny_BinOp (hX d l I h λv u g x y f i e k q=>j _ g m f x y v u Q i e k q)
def u_(k:uY X (unaryOp m) r)(l:PE X a ta):PE X (.UnaryOp m a pos) (Lz r ta):=by
 intro b s c H Q I h;refine UnaryOp_ (aF (l _ s c H _ I h) λv g d=>?_);obtain⟨x,j,f,e,i⟩:=d;exact k _ g c j x v Q f e i
def n7{g:Int->Int->Int}(rule:∀(i j:Int) (t u:Tok) (s:Shared) (Q:AA) (E:AA),C i j->Q (.int (g i j) s.toks) {s with toks:=s.toks+1}->Zh X (f (.int i t) (.int j u)) Q E s):
 bV X f (rI C λi j=>.int (g i j)):=by
 intro a s c H x y v u Q I e d h;obtain⟨i,j,rfl,rfl,k,q⟩:=h;obtain⟨t,rfl⟩:=e;obtain⟨b,rfl⟩:=d;exact rule i j t b s _ _ k ⟨.int _,H,I.tok _,⟨_,rfl⟩,q⟩
def hZ{g:Int->Int->Int}(rule:∀(i j:Int) (t u:Tok) (s:Shared) (Q:AA) (E:AA),Q (.int (g i j) s.toks) {s with toks:=s.toks+1}->Zh X (f (.int i t) (.int j u)) Q E s):
 bV X f (fg λi j=>.int (g i j)):=by
 intro a s c H x y v u Q I e d h;obtain⟨i,j,rfl,rfl,q⟩:=h;obtain⟨t,rfl⟩:=e;obtain⟨b,rfl⟩:=d;exact rule i j t b s _ _ ⟨.int _,H,I.tok _,⟨_,rfl⟩,q⟩
def fV{g:Int->Int->Bool}(rule:∀(i j:Int) (t u:Tok) (s:Shared) (Q:AA) (E:AA),Q (.bool (g i j)) s->Zh X (f (.int i t) (.int j u)) Q E s):
 bV X f (fg λi j=>.bl (g i j)):=by
 intro a s c H x y v u Q I e d h;obtain⟨i,j,rfl,rfl,q⟩:=h;obtain⟨t,rfl⟩:=e;obtain⟨b,rfl⟩:=d;exact rule i j t b s _ _ ⟨.bl _,H,I,rfl,q⟩
def vm(i j:Int):Prop:=0<j/\j<1073741824
def vn(i j:Int):Prop:=0<=j/\j<=1000000/\i.natAbs<2^64
def CMul(i j:Int):Prop:=-(2^64)<i/\i<2^64\/(-(2^64)<j/\j<2^64)
def CMul.ok(h:CMul i j):IntMulOk i j:=by
 rcases h with⟨d,e⟩|⟨d,e⟩
 .exact .of_left (intBits_le_64 d e)
 .exact .of_right (intBits_le_64 d e)
def vo:bV X (binaryOp .Add) (fg λi j=>.int (i+j)):=hZ λ_ _ _ _ _ _ _ q=>add_int q
def vp:bV X (binaryOp .Sub) (fg λi j=>.int (i-j)):=hZ λ_ _ _ _ _ _ _ q=>sub_int q
def vq:bV X (binaryOp .Mult) (rI CMul λi j=>.int (i*j)):=n7 λ_ _ _ _ _ _ _ d q=>mul_int q d.ok
theorem vt:bV X (binaryOp .FloorDiv) (rI vm λi j=>.int (i/j)):=n7 λi j _ _ _ _ _ e q=>by
 have g:=e.1;have f:=e.2;exact floordiv_int ∅ ⋯ (.inl (PyProof.noPylong_small (by omega)))
theorem vu:bV X (binaryOp .Mod) (rI (λ_ j=>0<j) λi j=>.int (i%j)):=n7 λi j _ _ _ _ _ d q=>mod_int' ∅ ⋯
def vv:bV X (binaryOp .Pow) (rI vn λi j=>.int (i^j.toNat)):=n7 λ_ _ _ _ _ _ _ d q=>pow_int_small d.1 d.2.1 d.2.2 q
def op_xor:bV X (binaryOp .BitXor) (fg λi j=>.int (Builtin.bitXor i j)):=hZ λ_ _ _ _ _ _ _ q=>xor_int q
def LA{g:Int->Int}(rule:∀(i:Int) (t:Tok) (s:Shared) (Q:AA) (E:AA),Q (.int (g i) s.toks) {s with toks:=s.toks+1}->Zh X (f (.int i t)) Q E s):
 uY X f (rU λi=>.int (g i)):=by
 intro a s b H x v Q I d h;obtain⟨i,rfl,q⟩:=h;obtain⟨t,rfl⟩:=d;exact rule i t s _ _ ⟨.int _,H,I.tok _,⟨_,rfl⟩,q⟩
def vw:uY X (unaryOp .USub) (rU λi=>.int (-i)):=LA λ_ _ _ _ _ q=>neg_int q
end
def scal:V->V->Bool
 | .non,.non=>true|.non,.int _=>true|.int _,.non=>true|.non,.bl _=>true|.bl _,.non=>true|.non,.str _=>true|.str _,.non=>true
 | .int _,.int _=>true|.bl _,.bl _=>true|.str _,.str _=>true|.byt _,.byt _=>true
 | .int _,.str _=>true|.str _,.int _=>true|.bl _,.str _=>true|.str _,.bl _=>true
 | _,_=>false
section
variable {a b c:Expr}{ta tb tc:TE}
def Fv{σ:St}(I:Inv X pins σ H s)(q:Q (.bl k) H)(e:k=d):EP X pins σ Q (.bool d) s:=by
 subst e;exact⟨.bl k,H,I,rfl,q⟩
def h9:bV X (compareOp .Lt) (fg λi j=>.bl (decide (i<j))):=fV λ_ _ _ _ _ _ _ q=>lt_int q
def vx:bV X (compareOp .LtE) (fg λi j=>.bl (decide (i<=j))):=fV λ_ _ _ _ _ _ _ q=>le_int q
def kK:bV X (compareOp .Gt) (fg λi j=>.bl (decide (j<i))):=fV λ_ _ _ _ _ _ _ q=>gt_int q
def vy:bV X (compareOp .GtE) (fg λi j=>.bl (decide (j<=i))):=fV λ_ _ _ _ _ _ _ q=>ge_int q
def vz:bV X (compareOp .Is) (λx y H Q=>y=.non/\Q (.bl (decide (x=.non))) H):=by
 intro a s b H x y v u Q I e d h;obtain⟨rfl,q⟩:=h;cases d;refine is_none_gen (Fv I q ?_)
 cases x<;>first
  | (rfl)
  | (obtain⟨t,rfl⟩:=e;rfl)
def Fx:bV X (compareOp .IsNot) (λx y H Q=>y=.non/\Q (.bl (!decide (x=.non))) H):=by
 intro a s b H x y v u Q I e d h;obtain⟨rfl,q⟩:=h;cases d;refine isnot_none_gen (Fv I q ?_)
 cases x<;>first
  | (rfl)
  | (obtain⟨t,rfl⟩:=e;rfl)
theorem eH(b:Expr)(h:op≠.In:=by decide)(e:op≠.NotIn:=by decide):behindInMarks op b=false:=by
 cases b with
 | Set d k p=>
   show(_&&_)=_;symm
 | _=>rfl
def Fy(k:bV X (compareOp m) r)(d:PE X a ta)(n:PE X b tb)(j:behindInMarks m b=false):PE X (.Compare a [m] [b] pos) (hV r ta tb):=by
 intro c s o H Q I h;exact wpAny_Compare1 (hX d n I h λv u g x y f i e l q=>k _ g o f x y v u Q i e l q) j
def kL(t:TE):TT:=λa H Q=>t a H λx b=>∃k,x=.bl k/\Q k b
def vA(E:bV X (compareOp J) r)(p:PE X a ta)(L:PE X b tb)(f:behindInMarks J b=false):PT X (.Compare a [J] [b] pos) (kL (hV r ta tb)):=by
 intro K s G H Q I h;refine wpAny_isTrue_Compare1 (aF (p _ s G H _ I h) λv C d=>?_) f;obtain⟨x,g,w,o,i⟩:=d;refine aF (L _ C G g _ w i) λu D d=>?_;obtain⟨y,t,n,m,B⟩:=d;refine aF (E _ D G t x y v u _ n o m B) λc F d=>?_;obtain⟨z,j,q,A,k,e,l⟩:=d;subst e;cases A;exact wpAny_truthy_bool ⟨j,q,l⟩
def vB(r f:R2)(ta tb tc:TE):TE:=λa H Q=>ta a H λx d=>tb a d λy g=>r x y g λz b=>∃k,z=.bl k/\
 (if k=true then tc a b λc e=>f y c e Q else Q (.bl false) b)
def LB(E:bV X (compareOp o) r)(j:bV X (compareOp g) J)(R:PE X a ta)(hb:PE X b tb)(O:PE X c tc)(t:lastMarks [o,g] [b,c]=false:=by with_unfolding_all rfl):PE X (.Compare a [o,g] [b,c] pos) (vB r J ta tb tc):=by
 intro q s i H Q I h;refine Compare_chain (aF (R _ s i H _ I h) λv w f=>?_) t;obtain⟨x,F,A,S,G⟩:=f;refine chain_link (aF (hb _ w i F _ A G) λu C f=>?_);obtain⟨y,U,K,m,Z⟩:=f;refine aF (E _ C i U x y v u _ K S m Z) λd s3 f=>?_;obtain⟨z,l,p,Y,k,e,n⟩:=f;subst e;cases Y;refine wpAny_truthy_bool ?_
 cases k with
 | false=>exact ite_ff ⟨.bl _,l,p,rfl,n⟩
 | true=>
   refine ite_tt (chain_last (aF (O _ s3 i l _ p n) λB N f=>?_));obtain⟨V,M,D,T,L⟩:=f;exact j _ N i M y V u B Q D m T L
def h_(K:W7)(x:V)(H:Hp)(k:Bool):Prop:=
 match x with
 | .non=>k=false
 | .bl b=>k=b
 | .int i=>k=(i != 0)
 | .str y=>y.length<=sizeLine/\k=((y.length:Int)!=0)
 | .byt y=>y.size<=sizeLine/\k=((y.size:Int)!=0)
 | .ref p=>(∃a,SqL K H p a/\k=!a.isEmpty)\/(∃a,SqT K H p a/\k=!a.isEmpty)\/∃d,H p=some (.dK d)/\k=!d.isEmpty
 | _=>False
def LC{vs:List (κ×Value)}(r:KV d vs):(!vs.isEmpty)=!d.isEmpty:=by
 cases r<;>rfl
def Fz(r:Vals xs its):(!its.toArray.isEmpty)=!xs.isEmpty:=by
 cases r<;>simp
def jF:(sizeLine:Nat)<2^63:=by decide
theorem vC:uZ X (λx H Q=>∃k,h_ X.K x H k/\Q k H):=by
 intro A s E H x v Q I j h;obtain⟨k,e,q⟩:=h;have z:=jF;have D:sizeLine=16777216:=ji
 cases x with
 | non=>
   cases j;have d:k=false:=e;subst d;exact truthy_none ⟨H,I,q⟩
 | bl b=>
   cases j;have d:k=b:=e;subst d;exact wpAny_truthy_bool ⟨H,I,q⟩
 | int i=>
   obtain⟨t,rfl⟩:=j;have d:k=(i != 0):=e;subst d;exact PySem.P.truthy_int ⟨H,I,q⟩
 | str y=>
   obtain⟨t,rfl⟩:=j;obtain⟨w,d⟩:=e;subst d;exact PySem.P.truthy_str ∅ ⟨H,I.tok _,q⟩
 | byt y=>
   obtain⟨t,rfl⟩:=j;obtain⟨w,d⟩:=e;subst d;exact W.truthy_bytes ∅ ⟨H,I.tok _,q⟩
 | ref p=>
   cases j;have d:=e;rcases d with⟨C,l,d⟩|⟨C,l,d⟩|⟨n,l,d⟩
   .subst d
    obtain⟨c,r,f,o⟩:=I.list l;have g:=r.length;exact wpAny_truthy_list f.isList (by ext<;>lia) ⟨H,I.tok _,by rw[Fz r];exact q⟩
   .subst d
    obtain⟨c,r,f,o⟩:=I.tuple l;have g:=r.length;exact truthy_tuple f (by ext<;>lia) ⟨H,I.tok _,by rw[Fz r];exact q⟩
   .subst d
    obtain⟨o,u,B,r,m⟩:=I.hok p _ l;have g:n.length=B.length:=Paired.length r;exact wpAny_truthy_dict u m ∅ ⟨H,I.tok _,by rw[LC r];exact q⟩
 | _=>exact(show False from e).elim
def LD(n:PE X a ta)(l:∀d,isTrue a X.env d=(do let v <-d;standAt a.pos;holding [v] (truthy v))):
 PT X a (λσ H Q=>ta σ H λx H'=>∃k,h_ X.K x H' k/\Q k H'):=by
 intro b s σ H Q I h;refine isTrue_plain (aF (n _ s σ H _ I h) λv i e=>?_) (l _);obtain⟨x,m,g,f,j⟩:=e;exact vC _ i σ m x v Q g f j
theorem eB(r:Vals [x] us):∃u,us=[u]/\RelV x u:=by
 cases r with
 | cons e d=>cases d;symm
theorem n8(r:Vals [x,y] us):∃u d,us=[u,d]/\RelV x u/\RelV y d:=by
 cases r with
 | cons h f=>
   cases f with
   | cons g e=>cases e;symm
def LF:dn X (.type "int") (λxs H Q=>(∃i,xs=[.int i]/\Q (.int i) H)\/∃k,xs=[.bl k]/\Q (.int (if k then 1 else 0)) H):=by
 intro pins s σ H xs us Q I r h;rcases h with⟨i,rfl,q⟩|⟨k,rfl,q⟩
 .obtain⟨u,rfl,t,rfl⟩:=eB r
  exact call_int_int ⟨.int i,H,I,⟨_,rfl⟩,q⟩
 .obtain⟨u,rfl,d⟩:=eB r
  cases d;exact call_int_bool ⟨.int (if k then 1 else 0),H,I.tok _,⟨_,rfl⟩,q⟩
end
structure ObjM(h:Heap)(x dx C:Addr)(mA:AE):Prop where
 obj:h.get? x=some (W.instObj C dx)
 ns:h.Ns1 dx mA
 ne:dx≠x
theorem LG{h:Heap}(n:h.Ns1 m l):∃d,h.get? m=some d/\∀b,W.lookIn b d=some (l b):=by
 obtain⟨o,j,q,f,i,g,_,p⟩:=n;refine⟨o,f,λb=>?_⟩;have e:=p b;unfold nsFind findBy at e;unfold W.lookIn;rw[i];dsimp only
 split
 .grind
 .have a:j.toList.any (·.refKey)=false:=by
   rw[List.any_eq_false];intro y k;obtain⟨z,t,c⟩:=g y (Array.mem_toList_iff.mp k);simp[DictEntry.refKey,c]
  symm
def ObjM.look(I:ObjM h x d C e):∃b,W.InstAt h x (W.instObj C d) C (some b)/\∀g,W.lookIn g b=some (e g):=
 let ⟨b,c,f⟩:=LG I.ns
 ⟨b,⟨I.obj,rfl,rfl,c⟩,f⟩
section
variable {w:World}{A:Around}{E:AA}{s:Shared}{x C f:Addr}{mA:AE}{name:Str}{v:Value}
def vD{a:Bool}{Q:AA}(X:K.In s.heap)(I:ObjM s.heap x dx C mA)(d:W.plainGet K C name=true)(e:W.hasDictIn K C=true)(i:W.findIn K (.ref C) name=some none)(c:mA name=some v)(b:W.handedIn v=true)(h:Q v {s with toks:=s.toks+1}):
 wpAny (mZ prog w) A (getAttr (.ref x) name a) Q E s:=by
 obtain⟨j,J,g⟩:=I.look;exact W.get_value X J (W.plainGet_of d).1 (W.findObj_own e i rfl (by rw[g,c])) b h
def LH{i:Sem Bool}{Q:Value×AC->Shared->Prop}(X:K.In s.heap)(I:ObjM s.heap x dx C mA)(a:W.plainGet K C name=true)(d:W.findIn K (.ref C) name=some (some (.ref f)))(g:W.isFn K (.ref f)=true)(b:mA name=none)(h:Q (.ref f,[.ref x]) s):
 wpAny (mZ prog w) A (getMethod (.ref x) name i) Q E s:=by
 obtain⟨c,J,e⟩:=I.look;exact W.method_fn X J (W.plainGet_of a).1 (W.plainGet_of a).2 d (beq_iff_eq.mp g) (by show(W.lookIn _ c).map _=_;rw[e,b];rfl) h
theorem vE{ns:AK}{Q:Unit->Shared->Prop}(X:K.In s.heap)(I:ObjM s.heap x dx C mA)(hs:W.findIn K (.ref C) "__setattr__"=some (some (.builtin "object.__setattr__")))(q:W.plainOver K C=true)(j:W.takerIn K C name=some none)(m:W.hasDictIn K C=true)(p:PySem.Within mA ns)(o:ns.length<=sizeLine)(h:∀f,ObjM f x dx C (λy=>if y=name then some v else mA y)->Heap.SameBut dx s.heap f->Q () {s with heap:=f,toks:=s.toks+2}):
 wpAny (mZ prog w) A (setAttr (.ref x) name v) Q E s:=by
 obtain⟨u,J,t⟩:=I.look;refine W.set_plain X J hs (W.osa_open X J q j λb=>?_);obtain⟨r,k,i⟩:=W.any_some m;refine wa (wc (wa (wa (wpAny_loadPart I.obj (wa (W.Looks.here (W.looks_clsIn X k) ?_))))));rw[i];refine wc (wa (wc (wa (wpAny_nsSet1 I.ns λf c a=>?_))));obtain⟨z,l,n,d,e,g⟩:=c.count (.cons _ v p);exact wa (wpAny_lookBehind d (by rw[e];exact pastItsLine_dict (Qg g (by rw[qt];ext))) (wc (h _ ⟨(a.2 _ (.symm I.ne)).trans I.obj,c,I.ne⟩ a)))
def LI{R:Result->Shared->Prop}{vs:AC}{b:List (Str×Value)}(X:K.In s.heap)(d:W.makesIn K C=true)(c:W.findIn K (.ref C) "__init__"=some (some (.ref f)))(e:W.typeIn K (.ref f)=some (.type "function"))(h:codeAny (mZ prog w) (A.under (.builtin "type.__call__" ⟨.ref C::vs,b⟩)) (.call (.ref f) ⟨.ref (~~~s+1)::vs,b⟩) (W.InitBack (~~~s+1) R)
  {s with heap:=(s.heap.push W.emptyDict).push (W.instObj C (~~~s))}):
 codeAny (mZ prog w) A (.call (.ref C) ⟨vs,b⟩) R s:=W.make_core (W.makes_of X d) (W.looks_findIn X c) (λa=>W.bind_fn X a e) (.inl rfl) h
end
def bG(f:Str)(v:V):List (Str×V)->List (Str×V)
 | []=>[(f,v)]
 | (g,x)::r=>if g=f then (g,v)::r else (g,x)::bG f v r
theorem FA(f g:Str)(v:V):∀b:List (Str×V),(bG f v b).lookup g=if g=f then some v else b.lookup g
 | []=>by
   show List.lookup g [_]=_;by_cases h:g=f
   .have c:=beq_iff_eq.mpr h
    simp [List.lookup,c,if_pos h]
   .have c:=beq_eq_false_iff_ne.mpr h
    simp [List.lookup,c,if_neg h]
 | (k,x)::r=>by
   rw[show bG f v _=(if k=f then (k,v)::r else (k,x)::bG f v r) from rfl];by_cases a:k=f
   .rw[if_pos a]
    by_cases h:g=k
    .have c:=beq_iff_eq.mpr h
     simp [List.lookup,c,if_pos (h.trans a)]
    .have c:=beq_eq_false_iff_ne.mpr h
     simp [List.lookup,c,if_neg (λe:g=f=>h (e.trans a.symm))]
   .rw[if_neg a]
    by_cases h:g=k
    .have c:=beq_iff_eq.mpr h
     simp [List.lookup,c,if_neg (λe=>a (h.symm.trans e))]
    .have c:=beq_eq_false_iff_ne.mpr h
     simp [List.lookup,c];exact(FA f g v r)
theorem vF(f:Str)(v:V):∀a:List (Str×V),f∈(bG f v a).map (·.1)/\∀g,g∈a.map (·.1)->g∈(bG f v a).map (·.1)
 | []=>⟨by simp[bG],λg h=>by simp at h⟩
 | (k,x)::r=>by
   obtain⟨d,c⟩:=vF f v r;rw[show bG f v _=(if k=f then (k,v)::r else (k,x)::bG f v r) from rfl];by_cases b:k=f
   .subst b
    exact⟨by simp,λg h=>by simpa using h⟩
   .rw[if_neg b]
    refine⟨?_,λg h=>?_⟩
    .exact qg _ d
    .rcases qu h with e|e
     .exact List.mem_cons.mpr (.inl e)
     .exact qg _ (c g e)
theorem FB(f:Str)(v:V):∀b:List (Str×V),(bG f v b).length<=b.length+1
 | []=>by simp[bG]
 | (k,x)::r=>by
   have c:=FB f v r;rw[show bG f v _=(if k=f then (k,v)::r else (k,x)::bG f v r) from rfl];by_cases a:k=f
   .rw[if_pos a,qt,qt];lia
   .rw[if_neg a,qt,qt];ext
def RelO.some_of(r:RelO (some v) o):∃u,o=some u/\RelV v u:=by
 cases o with
 | none=>exact(r).elim
 | some u=>exact⟨u,rfl,r⟩
def RelO.none_of{o:Option Value}(r:RelO none o):o=none:=by
 cases o with
 | none=>rfl
 | some u=>exact(r).elim
def LJ{v:V}{u:Value}(r:RelV v u):W.handedIn u=true:=by
 cases v with
 | non=>cases (r);rfl
 | bl b=>cases (r);rfl
 | int i=>obtain⟨t,e⟩:=r;cases e;rfl
 | str x=>obtain⟨t,e⟩:=r;cases e;rfl
 | byt b=>obtain⟨t,e⟩:=r;cases e;rfl
 | flt b=>obtain⟨t,e⟩:=r;cases e;rfl
 | ref a=>cases (r);rfl
 | ty n=>cases (r);rfl
section
variable {P:P7}{w:World}{H H':Hp}{h:Heap}{a C:Addr}{fs fs':List (Str×V)}
def n9(g:HOk P w H h)(e:H a=some (.ins C dx fs)):∃b,ObjM h a dx C b/\(∀f,RelO (fs.lookup f) (b f))/\PySem.Within b (fs.map (·.1))/\fs.length<=1000/\H dx=some (.own a):=by
 obtain⟨d,z,i,j,b,n,r,q⟩:=g a _ e;exact⟨b,⟨j,n,i⟩,r,q,z,d⟩
end
structure Cls(K:W7)(C:Addr):Prop where
 pg:W.plainGet K C Str.empty=true
 hd:W.hasDictIn K C=true
 po:W.plainOver K C=true
 sa:W.findIn K (.ref C) "__setattr__"=some (some (.builtin "object.__setattr__"))
def Cls.get{K:W7}(c:Cls K C)(f:Str):W.plainGet K C f=true:=c.pg
def NoAttr(K:W7)(C:Addr)(f:Str):Prop:=W.findIn K (.ref C) f=some none
def NoAttr.taker{K:W7}{C:Addr}{f:Str}(n:NoAttr K C f):W.takerIn K C f=some none:=by
 unfold W.takerIn;rw[n];rfl
structure WC(K:W7)(C:Addr)(f:Str)(v:V)(u:Value):Prop where
 at_:W.findIn K (.ref C) f=some (some u)
 rel:RelV v u
 get:W.specialIn K u "__get__"=some none
 cp:W.copiedNames.contains f=false
structure dI(K:W7)(C:Addr)(m:Str)(f:Addr):Prop where
 at_:W.findIn K (.ref C) m=some (some (.ref f))
 fn:W.isFn K (.ref f)=true
 kp:W.keepIn K (.ref f)=true
section
variable {σ:St}{H:Hp}{s:Shared}{a C:Addr}{fs:List (Str×V)}{f:Str}{v:V}{A:Around}{E:AA}
def FC{b:Bool}{Q:AA}(I:Inv X pins σ H s)(e:H a=some (.ins C dx fs))(c:Cls X.K C)(n:NoAttr X.K C f)(l:fs.lookup f=some v)(h:∀u s',Inv X pins σ H s'->RelV v u->Q u s'):wpAny (mZ X.prog X.w) A (getAttr (.ref a) f b) Q E s:=by
 obtain⟨i,O,r,_,_,_⟩:=n9 I.hok e;obtain⟨u,g,d⟩:=RelO.some_of (by rw[<-l];exact r f);exact vD I.kIn O (c.get f) c.hd n g (LJ d) (h u _ (I.tok _) d)
def FD{m:Str}{g:Addr}{d:Sem Bool}{Q:Value×AC->Shared->Prop}(I:Inv X pins σ H s)(e:H a=some (.ins C dx fs))(c:Cls X.K C)(k:dI X.K C m g)(l:fs.lookup m=none)(h:Q (.ref g,[.ref a]) s):wpAny (mZ X.prog X.w) A (getMethod (.ref a) m d) Q E s:=by
 obtain⟨b,O,r,_,_,_⟩:=n9 I.hok e;exact LH I.kIn O (c.get m) k.at_ k.fn (RelO.none_of (by rw[<-l];exact r m)) h
theorem FE{y:V}{u:Value}{Q:Unit->Shared->Prop}(I:Inv X pins σ H s)(e:H a=some (.ins C dx fs))(c:Cls X.K C)(n:NoAttr X.K C f)(x:fs.length<1000)(p:RelV y u)(h:∀s',Inv X pins σ (upd H a (.ins C dx (bG f y fs))) s'->Q () s'):wpAny (mZ X.prog X.w) A (setAttr (.ref a) f u) Q E s:=by
 obtain⟨m,O,r,j,_,i⟩:=n9 I.hok e
 have t:(fs.map (·.1)).length<=sizeLine:=by rw[qf,ji];lia
 refine vE I.kIn O c.sa c.po n.taker c.hd j t λB d k=>h _ (I.write (by rw[e];exact .intro) (.inr i) (λb q v z=>(k.2 b v).trans z) (let ⟨o,_,_,l,_⟩:=d.ns;⟨o,l⟩) (⟨by rwa [Yh O.ne],?_,O.ne,d.obj,_,d.ns,λg=>?_,λg w=>?_⟩))
 .have:=FB f y fs;lia
 .rw[FA]
  by_cases q:g=f
  .rwa [if_pos q,if_pos q]
  .rw[if_neg q,if_neg q];exact r g
 .by_cases q:g=f
  .rw[q];exact(vF f y fs).1
  .refine(vF f y fs).2 g (j g λz=>w ?_)
   show(if g=f then _ else m g)=none
   rwa [if_neg q]
theorem Inv.made(I:Inv X pins σ H s):Inv X pins σ (upd (upd H (~~~s) (.own (~~~s+1))) (~~~s+1) (.ins C (~~~s) []))
 {s with heap:=(s.heap.push W.emptyDict).push (W.instObj C (~~~s))}:=by
 have c:_=some W.emptyDict:=qp s.heap rfl
 have f:=by
  have:=qp (s.heap.push W.emptyDict) (o:=W.instObj C (~~~s)) rfl
  rwa [wy]at this
 refine(I.laid (o:=.own _) (t':=s.toks) (λb u q=>qe _ q) (qv _) ⟨_,c⟩).laid (λb u q=>qe _ q) (Nat.le_of_eq (wy _ _)) ?_;have d:(~~~s)≠_:=qm (Qa _);refine⟨by rw[Yh d,Yi],Qh _,d,f,λ_=>none,(Heap.Ns1.of_empty (⟨W.emptyDict,#[],_,c,rfl,λe h=>absurd h nofun,λ_=>rfl⟩)).at λo q=>qe _ q,λ_=>.intro,λy g=>absurd rfl g⟩
def vG{prog:P7}{w:World}{env:Env}{e:Expr}{f:Str}{c:Pos}{s:Shared}{Q:AA}(a:attributeBase e f env (eval e env)=eval e env)(h:wpAny (mZ prog w) A (eval e env) (λo b=>wpAny (mZ prog w) A (getAttr o f true) Q E b) E s):wpAny (mZ prog w) A (eval (.Attribute e f c) env) Q E s:=
 Attribute_any_ h (by rw[arm_eval_Attribute,a])
end
def vH(K:W7)(g:TE)(f:Str):TE:=λh H Q=>g h H λx d=>∃a C e c v,x=.ref a/\d a=some (.ins C e c)/\Cls K C/\NoAttr K C f/\c.lookup f=some v/\Q v d
def vI(K:W7)(g i:TE)(f:Str):TS:=λD j H=>i j H λy h=>g j h λx d=>∃a C e c,x=.ref a/\d a=some (.ins C e c)/\Cls K C/\NoAttr K C f/\c.length<1000/\
 D.nx j (upd d a (.ins C e (bG f y c)))
def kM(X:Cx)(op:Operator)(a:V->V->Hp->VK->Prop):Prop:=
 ∀(pins:AB) (s:Shared) (σ:St) (H:Hp) (x y:V) (u v:Value) (Q:VK),Inv X pins σ H s->RelV x u->RelV y v->a x y H Q->Zh X (inplaceOp op u v) (EP X pins σ Q) X.xe s
def vJ(K:W7)(j m:TE)(i:V->V->Hp->VK->Prop)(f:Str):TS:=λD σ H=>j σ H λx e=>∃a C l g v,x=.ref a/\e a=some (.ins C l g)/\Cls K C/\NoAttr K C f/\g.lookup f=some v/\
 m σ e λy k=>i v y k λz h=>∃c b,h a=some (.ins C c b)/\b.length<1000/\D.nx σ (upd h a (.ins C c (bG f z b)))
section
variable {o e value:Expr}{f:Str}{pos' tpos:Pos}{ta tv:TE}{σ:St}{H:Hp}{s:Shared}{A:Around}{E Q:AA}{c:Value}{b:Bool}
def FG(g:PE X e ta)(o:attributeBase e f X.env (eval e X.env)=eval e X.env):PE X (.Attribute e f pos) (vH X.K ta f):=by
 intro b s A H Q I h;refine vG o (aF (g _ s A H _ I h) λu y d=>?_);obtain⟨x,k,t,r,a,C,w,z,v,m,j,c,n,l,q⟩:=d;subst m;obtain rfl:=r
 exact FC t j c n l λB D p i=>⟨v,k,p,i,q⟩
def FH(k:PE X o ta)(t:PE X value tv)(hs:swapsWith value (some (.Attribute o f pos')) pos.line X.env=pure false):PS X (.Assign [.Attribute o f pos'] value pos) (vI X.K ta tv f):=by
 intro e s b H D I h;refine plainObj_wpAny_Assign_Attribute (aF (t _ s b H _ I h) λu B d=>?_) hs;obtain⟨y,i,v,g,q⟩:=d;refine aF (k _ B b i _ v q) λL K d=>?_;obtain⟨x,G,p,j,a,C,M,F,m,r,c,n,l,z⟩:=d;subst m;obtain rfl:=j
 exact FE p r c n l g λJ w=>⟨b,_,w,z⟩
def LK{op:Operator}{j:V->V->Hp->VK->Prop}(N:PE X o ta)(F:PE X value tv)(i:kM X op j):PS X (.AugAssign (.Attribute o f tpos) op value pos) (vJ X.K ta tv j f):=by
 intro pins s σ H D I h;refine wpAny_AugAssign_AttributeAny (aF (N pins s σ H _ I h) λov s1 d=>?_);obtain⟨x,m,J,W,a,C,dx,fs,v,L,w,c,n,l,q⟩:=d;subst L;obtain rfl:=W;refine FC J w c n l λu O t P=>aF (F pins O σ m _ t q) λK Y d=>?_;obtain⟨y,U,G,k,S⟩:=d;refine aF (i pins Y σ U v y u K _ G P k S) λw4 s4 d=>?_;obtain⟨z,H3,r,Z,R,M,g,p,B⟩:=d
 exact FE r g c n p Z λs5 T=>⟨σ,_,T,B⟩
def vK:V->V->Hp->VK->Prop:=λx y H Q=>∃i j,x=.int i/\y=.int j/\Q (.int (i+j)) H
def vL:kM X .Add vK:=by
 rintro pins s σ H x y u v Q I g d ⟨i,j,rfl,rfl,q⟩
 obtain⟨t,rfl⟩:=(g)
 obtain⟨t',rfl⟩:=(d)
 exact PyProof.Rows.iadd_int ⟨.int (i+j),H,I.tok _,⟨_,rfl⟩,q⟩
inductive cB (K:W7) (H:Hp):V->Value->Prop where
 | non:cB K H .non (.type "NoneType")
 | bl (x:Bool):cB K H (.bl x) (.type "bool")
 | int (i:Int):cB K H (.int i) (.type "int")
 | str (x:Str):cB K H (.str x) (.type "str")
 | flt (x:UInt64):cB K H (.flt x) (.type "float")
 | lst {a:Addr}{xs:AQ} (e:H a=some (.lst xs)):cB K H (.ref a) (.type "list")
 | frz {a:Addr}{o:Obj}{xs:AQ} (e:H a=some (.frz o (.lst xs))):cB K H (.ref a) (.type "list")
 | tup {a:Addr}{xs:AQ} (e:H a=some (.tup xs)):cB K H (.ref a) (.type "tuple")
 | dK {a:Addr}{kvs:List (eA×V)} (e:H a=some (.dK kvs)):cB K H (.ref a) (.type "dict")
 | dT {a:Addr}{kvs:List (List eA×V)} (e:H a=some (.dT kvs)):cB K H (.ref a) (.type "dict")
 | ins {a C dx:Addr}{fs:List (Str×V)} (e:H a=some (.ins C dx fs)) (cl:Cls K C) (ha:W.findIn K (.ref C) "__class__"=some (some (.builtin "object.__class__")))
  (hn:W.specialIn K (.builtin "object.__class__") "__get__"=some (some (.builtin "getset_descriptor.__get__"))) (htk:W.takesIn K (.builtin "object.__class__")=some true)
  (hm:W.mroIn K C (.type "object")=some true):cB K H (.ref a) (.ref C)
def LM(I:Inv X pins σ H s)(j:RelV x u)(F:cB X.K H x t)(e:W.kitOne X.K t c=some b)(h:∀tk,Q (.bool b) {s with toks:=tk}):
 wpAny (mZ X.prog X.w) A (call (.builtin "isinstance") [u,c]) Q E s:=by
 cases F with
 | non=>cases (j);exact W.kia_one W.kitx_none I.kIn .intro e (λz=>nomatch z) h
 | bl y=>cases (j);exact W.kia_one W.kitx_bool I.kIn .intro e (λz=>nomatch z) h
 | int i=>obtain⟨t,q⟩:=j;cases q;exact W.kia_one W.kitx_int I.kIn .intro e (λz=>nomatch z) h
 | str y=>obtain⟨t,q⟩:=j;cases q;exact W.kia_one W.kitx_str I.kIn .intro e (λz=>nomatch z) h
 | flt y=>obtain⟨t,q⟩:=j;cases q;exact W.kia_one W.kitx_float I.kIn .intro e (λz=>nomatch z) h
 | @lst a f g=>
   cases (show u=.ref a from j);obtain⟨_,_,n,_,k⟩:=I.hok a _ g;exact W.kia_one W.kitx_list I.kIn ⟨_,k,rfl⟩ e (λz=>nomatch z) h
 | @frz a P f g=>
   cases (j);obtain⟨_,_,_,n,_,k⟩:=I.hok a _ g;exact W.kia_one W.kitx_list I.kIn ⟨_,k,rfl⟩ e (λz=>nomatch z) h
 | @tup a f g=>
   cases (show u=.ref a from j);obtain⟨_,_,_,p⟩:=I.hok a _ g;obtain⟨o,k,l,_⟩:=p;exact W.kia_one W.kitx_tuple I.kIn ⟨o,k,l⟩ e (λz=>nomatch z) h
 | @dK a r g=>
   cases (show u=.ref a from j);obtain⟨_,_,S,_,p⟩:=I.hok a _ g;obtain⟨o,G,B,k,l,_⟩:=p;exact W.kia_one W.kitx_dict I.kIn ⟨o,k,l.1⟩ e (λz=>nomatch z) h
 | @dT a r g=>
   cases (show u=.ref a from j);obtain⟨_,_,f,_,o,G,B,k,l,_⟩:=I.hok a _ g;exact W.kia_one W.kitx_dict I.kIn ⟨o,k,l.1⟩ e (λz=>nomatch z) h
 | @ins a C L N g v D K m w=>
   cases (j);obtain⟨R,O,_⟩:=n9 I.hok g;obtain⟨M,J,_⟩:=O.look;exact W.kia_one (W.kitx_own (v.get _) v.hd D K m w) I.kIn J e (λz=>nomatch z) h
end
structure Room(k:Nat)(A:Around):Prop where
 hd:A.handled=none
 dp:A.depth+3*k+5<recursionLimit
 un:A.units+16*k+200<cLine
theorem Room.mono(r:Room k A)(h:j<=k):Room j A:=⟨r.hd,by have:=r.dp;lia,by have:=r.un;lia⟩
theorem Room.deeper(r:Room (k+1) A)(env:Env):Room k (A.deeper env):=
 ⟨r.hd,by have:=r.dp;show _+1+3*k+5<_;lia,by have:=r.un;show _+3+16*k+200<_;lia⟩
def LN{A:Around}{C:Addr}{us:AC}{a:List (Str×Value)}:(A.under (.builtin "type.__call__" ⟨.ref C::us,a⟩)).depth=A.depth+1:=by
 first|rfl|simp[guardIds]
def LO{A:Around}{C:Addr}{us:AC}{a:List (Str×Value)}:(A.under (.builtin "type.__call__" ⟨.ref C::us,a⟩)).units=A.units+1:=by
 first|rfl|simp[.frames]
theorem Room.make{k:Nat}{A:Around}(r:Room (k+1) A)(C:Addr)(us:AC)(a:List (Str×Value)):Room k (A.under (.builtin "type.__call__" ⟨.ref C::us,a⟩)):=
 ⟨r.hd,by have:=r.dp;rw[LN];ext<;>lia,by have:=r.un;rw[LO];lia⟩
theorem Room.depth(r:Room k A):A.depth<recursionLimit:=by have:=r.dp;lia
theorem Room.units(r:Room k A):A.units+64<cLine:=by have:=r.un;lia
def kN:TA:=λ_ H Q=>Q [] H
def vM(a:TE)(d:TA):TA:=λe H Q=>a e H λx b=>d e b λf c=>Q (x::f) c
section
variable {e:Expr}{te:TE}{t:TA}
def fj:PA X [] kN:=λ_ _ _ _ H Q I h=>Calls.spliced_nil ⟨[],H,I,.nil,h⟩
def fm(k:PE X e te)(d:PA X es t)(hs:starEach (e::es) X.env=(false,eval e X.env)::starEach es X.env:=by rfl):PA X (e::es) (vM te t):=by
 intro b r s v H Q I h;rw[hs];show wpAny _ _ (spliced ((_,eval e _)::backTo b _)) _ _ s;refine Calls.spliced_cons (aF (k _ s v H _ I h) λu c a=>?_);obtain⟨x,o,m,j,f⟩:=a;refine aF (d b _ c v o _ m f) λy p a=>?_;obtain⟨w,l,i,g,n⟩:=a;exact⟨x::w,l,i,.cons j g,n⟩
def vN(t:TA):TE:=λc H Q=>t c H λb a=>b.length<=sizeLine/\∀p,a p=none->Q (.ref p) (upd a p (.tup b))
def vO(t:TA):TE:=λc H Q=>t c H λb a=>b.length<=sizeLine/\∀p,a p=none->Q (.ref p) (upd a p (.lst b))
def vP{d}(h:PA X es t):PE X (.Tuple es d pos) (vN t):=by
 intro i s k H Q I g;exact wpAny_Tuple_spliced (aF (h pos _ s k H _ I g) λl c ⟨j,f,a,r,z,q⟩=>⟨by rwa [<-r.length],⟨.ref _,upd f _ (.tup j),a.laid (λb u e=>qe _ e) (qv _) (⟨z,l,r,⟨_,qp _ rfl,rfl,_,rfl⟩⟩),rfl,q _ (a.hok.fresh (qv _))⟩⟩)
def FI(h:PA X es t):PE X (.List es pos) (vO t):=by
 intro g s j H Q I d;exact wpAny_List_spliced (aF (h pos _ s j H _ I d) λk a ⟨i,f,c,r,z,q⟩=>⟨by rwa [<-r.length],⟨.ref _,upd f _ (.lst i),c.laid (λb u e=>qe _ e) (qv _) (⟨z,k,0,r,qp _ rfl⟩),rfl,q _ (c.hok.fresh (qv _))⟩⟩)
end
abbrev Sp:=AQ->Hp->VK->XK->Prop
abbrev fW:=List Env->Hp->Shared->XK->AA
structure Env0(P:P7)(w:World)(K:W7)(mg:AE)(base:Heap)(A:Around)(outer:List Env)(s:Shared)(H:Hp):Prop where
 frames:A.frames=some outer
 mod:Mod K mg base
 bs:∀b o,base.get? b=some o->s.heap.get? b=some o/\H b=none
 bsz:base.objs.size<= ~~~s
 funs:s.heap.FunFrames base outer
 frf:∀b∈eQ outer,H b=none
 hok:HOk P w H s.heap
 bare:AllBare s.gens
def CE(a:List Env)(P:P7)(w:World)(H:Hp)(s:Shared)(Q:VK)(u:Value)(s':Shared):Prop:=
 ∃v b,s'.os=s.os/\AllBare s'.gens/\Un (eQ a) [] H b s.heap s'.heap/\HOk P w b s'.heap/\RelV v u/\Q v b
def CR(CX:fW)(a:List Env)(P:P7)(w:World)(H:Hp)(s:Shared)(Q:VK)(E:XK)(r:Result)(s':Shared):Prop:=
 match r with
 | .ok (.ret u)=>CE a P w H s Q u s'
 | .ok _=>False
 | .error e=>CX a H s E e s'
structure FnOk(P:P7)(w:World)(K:W7)(mg:AE)(base:Heap)(CX:fW)(k:Nat)(f:Addr)(fd:FuncData)(ps:AK)(sp:Sp):Prop where
 len:∀vs H Q E,sp vs H Q E->vs.length=ps.length
 run:∀(A:Around) (outer:List Env) (s:Shared) (H:Hp) (args:Args) (us:AC) (vs:AQ) (Q:VK) (E:XK),Room k A->Env0 P w K mg base A outer s H->BindsTo s fd args (ps.zip us)->Vals vs us->sp vs H Q E->
  codeAny (mZ P w) A (.call (.ref f) args) (CR CX outer P w H s Q E) s
def FnOk.mono{P:P7}{w:World}{K:W7}{g:AE}{a:Heap}{CX:fW}{j k:Nat}{f:Addr}{e:FuncData}{l:AK}{sp:Sp}(F:FnOk P w K g a CX j f e l sp)(h:j<=k):
 FnOk P w K g a CX k f e l sp:=⟨F.len,λA b s H c n m Q E i=>F.run A b s H c n m Q E (i.mono h)⟩
def Env0.make{P:P7}{w:World}{K:W7}{d:AE}{b:Heap}{A:Around}{a:List Env}{s:Shared}{H:Hp}(e:Env0 P w K d b A a s H)(C:Addr)(us:AC)(f:List (Str×Value)):
 Env0 P w K d b (A.under (.builtin "type.__call__" ⟨.ref C::us,f⟩)) a s H:=⟨by first|exact e.frames|(simpa [pushEnvs]using e.frames),e.mod,e.bs,e.bsz,e.funs,e.frf,e.hok,e.bare⟩
section
variable {σ:St}{H:Hp}{s s':Shared}
def Inv.env0(I:Inv X pins σ H s):Env0 X.prog X.w X.K X.mg X.base X.A X.stack s H:=
 ⟨I.ok.frames,I.ok.mod,I.bs,Qg I.ok.bsz I.sz,I.stack,I.stkFree,I.hok,I.bare⟩
def Inv.after(I:Inv X pins σ H s)(h:CE X.stack X.prog X.w H s Q u s'):EP X pins σ Q u s':=by
 obtain⟨v,j,os,a,e,c,r,q⟩:=h;obtain⟨i,g,d,t,f⟩:=s';obtain rfl:=os;exact⟨v,j,I.call e c a (λb z=>absurd z nofun),r,q⟩
end
def kO(sp:Sp)(b:AQ)(E:XK)(t:TA):TE:=λc H Q=>t c H λd a=>sp (d++b) a Q E
def vQ(C:Addr)(m:Str)(sp:Sp)(g:AQ)(E:XK)(d:TE)(t:TA):TE:=λh H Q=>d h H λx c=>∃a e b,x=.ref a/\c a=some (.ins C e b)/\b.lookup m=none/\
 t h c λi f=>sp (x::(i++g)) f Q E
def vR(C:Addr)(sp:Sp)(d:AQ)(E:XK)(t:TA):TE:=λe H Q=>t e H λf b=>∀x a,b x=none->b a=none->a≠x->
 sp (.ref x::(f++d)) (upd (upd b a (.own x)) x (.ins C a [])) (λv c=>v=.non/\Q (.ref x) c) E
def Binds(K:W7)(b:FuncData)(d:AK)(e:AC):Prop:=
 ∀(s:Shared) (c:List _),K.In s.heap->(c++e).length=d.length->BindsTo s b ⟨c,[]⟩ (d.zip (c++e))
def Binds.all{K:W7}(h:∀us:AC,us.length=d.length->bindArgs c ⟨us,[]⟩=pure (d.zip us)):Binds K c d []:=λs us _ b=>by
 rw[ja]at b ⊢;exact .of_eq (h us b)
def jG(CX:fW)(X:Cx)(E:XK):Prop:=∀(a:List _) (c:St) (H:Hp) (s:Shared) (e:Value) (b:Shared),Inv X a c H s->CX X.stack H s E e b->X.xe e b
section
variable {CX:fW}{k:Nat}{f C:Addr}{fd:FuncData}{ps:AK}{sp:Sp}{dvs:AQ}{ds:AC}{E:XK}{x m:Str}{p:Pos}{e o:Expr}{ta:TE}{t:TA}
def n_{σ:St}(F:FnOk X.prog X.w X.K X.mg X.base CX k f fd ps sp)(d:Room k X.A)(m:Binds X.K fd ps ds)(c:Vals dvs ds)(g:jG CX X E)(I:Inv X pins σ H s)(r:Vals vs us)(h:sp (vs++dvs) H Q E):Zh X (call (.ref f) us) (EP X pins σ Q) X.xe s:=by
 have b:=r.append c
 have i:(us++ds).length=ps.length:=by rw[<-b.length];exact F.len _ _ _ _ h
 refine wpAny_call (codeAny_mono (F.run X.A _ s H _ _ _ Q E d I.env0 (m s us I.kIn i) b h) λr j a=>?_)
 cases r with
 | error e=>exact g _ σ H s e j I a
 | ok l=>
   cases l with
   | ret u=>exact I.after a
   | next=>exact .elim a
   | brk=>exact .elim a
   | cont=>exact .elim a
abbrev Zc(X:Cx)(e:Expr)(s:List Expr):Prop:=starEach (e::s) X.env=(false,eval e X.env)::starEach s X.env
theorem vS(F:FnOk X.prog X.w X.K X.mg X.base CX k f fd ps sp)(y:Room k X.A)(l:Gl X x)(w:X.mg x=some (.ref f))(v:W.keepIn X.K (.ref f)=true)(B:Binds X.K fd ps ds)(n:Vals dvs ds)(i:jG CX X E)(u:PA X (e::es) t)(b:cj x:=by decide)(j:Zc X e es:=by rfl)(c:(backTo pos (starEach es X.env)).any (·.1)=false:=by rfl):
 PE X (.Call (.Name x p) (e::es) [] pos) (kO sp dvs E t):=by
 intro m s o H Q I h;refine wpAny_Call_Name_kw (n3 I l w (W.callWith_K I.ok.mod.kin v (aF (u pos _ s o H _ I h) λD A d=>?_) j c) b);obtain⟨C,z,g,r,q⟩:=d;exact⟨g.kIn,n_ F y B n i g r q⟩
def LP{t:Sem Bool}(w:PE X o ta)(c:Cls X.K C)(i:dI X.K C m f)(F:FnOk X.prog X.w X.K X.mg X.base CX k f fd ps sp)(A:Room k X.A)(L:Binds X.K fd ps ds)(y:Vals dvs ds)(n:jG CX X E)(B:eval (.Call (.Attribute o m apos) [] [] pos) X.env=(do
  let j <-eval o X.env
  standAt apos.atName
  let (f,first) <-holding [j] (getMethod j m t)
  callWith pos f first (backTo pos (starEach [] X.env)) (backToKw pos (keywordEach [] X.env))):=by rfl):
 PE X (.Call (.Attribute o m apos) [] [] pos) (vQ C m sp dvs E ta kN):=by
 intro e s p H Q I h;refine W.methodCall_KW (aF (w _ s p H _ I h) λu J g=>?_) B;obtain⟨x,G,d,v,a,K,D,r,z,l,q⟩:=g;subst r;obtain rfl:=v;exact FD d z c i l (W.callWith_K0 d.kIn i.kp (n_ (vs:=[.ref a]) F A L y n d (.cons rfl .nil) q))
structure Mk(K:W7)(C f:Addr):Prop where
 makes:W.makesIn K C=true
 init:W.findIn K (.ref C) "__init__"=some (some (.ref f))
 fn:W.isFn K (.ref f)=true
 kp:W.keepIn K (.ref C)=true
def LQ{pins:AB}{σ:St}{H:Hp}{s:Shared}{Q:VK}{us:AC}{vs:AQ}(M:Mk X.K C f)(F:FnOk X.prog X.w X.K X.mg X.base CX k f fd ps sp)(n:Room (k+1) X.A)(m:Binds X.K fd ps ds)(q:Vals dvs ds)(l:jG CX X E)(I:Inv X pins σ H s)(r:Vals vs us)(h:∀x b,H x=none->H b=none->b≠x->sp (.ref x::(vs++dvs)) (upd (upd H b (.own x)) x (.ins C b [])) (λv y=>v=.non/\Q (.ref x) y) E):
 Zh X (call (.ref C) us) (EP X pins σ Q) X.xe s:=by
 have g:=h (~~~s+1) _ (I.hok.fresh (Nat.le_succ _)) (I.hok.fresh (qv _)) (qm (Qa _));have c:=Inv.made (C:=C) I;have d:Vals (.ref (~~~s+1)::_) _:=.cons rfl (r.append q)
 have z:=by
  have e:=d.length;rw[F.len _ _ _ _ g]at e;exact e.symm
 refine wpAny_call (LI I.kIn M.makes M.init (beq_iff_eq.mp M.fn) (codeAny_mono (F.run _ _ _ _ _ _ _ _ E (n.make C us [])
  (c.env0.make C us []) (m _ _ c.kIn z) d g) λr t a=>?_))
 cases r with
 | error e=>exact l _ σ _ _ e t c a
 | ok o=>
   cases o with
   | ret u=>
     obtain⟨v,A,w,j,p,i⟩:=c.after a;subst p;exact⟨j,⟨.ref _,A,w,rfl,i⟩⟩
   | next=>exact .elim a
   | brk=>exact .elim a
   | cont=>exact .elim a
abbrev Zd(X:Cx)(p:Pos)(s:List Expr):Prop:=(backTo p (starEach s X.env)).any (·.1)=false
theorem vT(M:Mk X.K C f)(F:FnOk X.prog X.w X.K X.mg X.base CX k f fd ps sp)(u:Room (k+1) X.A)(l:Gl X x)(w:X.mg x=some (.ref C))(A:Binds X.K fd ps ds)(n:Vals dvs ds)(i:jG CX X E)(v:PA X (e::es) t)(b:cj x:=by decide)(j:Zc X e es:=by rfl)(c:Zd X pos es:=by rfl):
 PE X (.Call (.Name x p) (e::es) [] pos) (vR C sp dvs E t):=by
 intro m s o H Q I h;refine wpAny_Call_Name_kw (n3 I l w (W.callWith_K I.ok.mod.kin M.kp (aF (v pos _ s o H _ I h) λD z d=>?_) j c) b);obtain⟨B,y,g,r,q⟩:=d;exact⟨g.kIn,LQ M F u A n i g r q⟩
end
section
variable {CX:fW}{k:Nat}{f C:Addr}{fd:FuncData}{ps ks:AK}{sp:Sp}{E:XK}{x m:Str}{p kpos:Pos}{e o:Expr}{kws:List Keyword}{te ta:TE}{t tk:TA}{nm:Option Str}
structure vU(K:W7)(fd:FuncData)(ps ks:AK)(g:AC->AC->AC)(gV:AQ->AQ->AQ):Prop where
 to:∀(s:Shared) (us ws:AC),K.In s.heap->(g us ws).length=ps.length->BindsTo s fd ⟨us,ks.zip ws⟩ (ps.zip (g us ws))
 rel:∀{vs:AQ}{us:AC}{zs:AQ}{ws:AC},Vals vs us->Vals zs ws->Vals (gV vs zs) (g us ws)
variable {g:AC->AC->AC}{gV:AQ->AQ->AQ}
end
structure b9(N P:AK)(sc:Scope):Prop where
 kind:sc.kind=.function
 co:sc.isCoroutine=false
 gen:sc.isGenerator=false
 nd:N.Nodup
 pre:N.take P.length=P
 par:∀x∈P,sc.names.lookup x=some .local\/sc.names.lookup x=some .cell
 nofree:∀y∈sc.names,y.2≠.free
theorem FJ{kindOf:Str->Option NameKind}:∀{a:List (Str×Value)}{m:AE},(∀v,(x,v)∉a)->bindL kindOf a m x=m x
 | [],_,_=>rfl
 | (n,v)::r,m,h=>by
   unfold bindL;rw[FJ λw b=>h w (qg _ b)]
   split
   .grind
   .rfl
theorem FK{kindOf:Str->Option NameKind}:∀{a:List (Str×Value)}{m:AE},(∀v,(x,v)∉a)->bindC kindOf a m x=m x
 | [],_,_=>rfl
 | (n,v)::r,m,h=>by
   unfold bindC;rw[FK λw b=>h w (qg _ b)]
   split
   .rfl
   symm
theorem FL{kindOf:Str->Option NameKind}:∀{P:AK}{vs:AC}{i:Nat}{m:AE},P.Nodup->P[i]?=some x->vs[i]?=some v->kindOf x=some .local->
 bindL kindOf (P.zip vs) m x=some v
 | [],_,_,_,_,h,_,_=>by simp at h
 | _::_,[],_,_,_,_,h,_=>by simp at h
 | p::P,w::vs,0,m,b,a,c,d=>by
   simp at a c;subst a c;show bindL _ (_::P.zip vs) m p=_;unfold bindL;rw[FJ λv e=>(List.nodup_cons.mp b).1 (List.of_mem_zip e).1,if_pos d];simp
 | p::P,w::vs,i+1,m,b,a,c,d=>by
   unfold bindL;exact FL (i:=i) (List.nodup_cons.mp b).2 (by ext) (by ext) d
theorem FM{kindOf:Str->Option NameKind}:∀{P:AK}{vs:AC}{i:Nat}{m:AE},P.Nodup->P[i]?=some x->vs[i]?=some v->kindOf x≠some .local->
 bindC kindOf (P.zip vs) m x=some v
 | [],_,_,_,_,h,_,_=>by simp at h
 | _::_,[],_,_,_,_,h,_=>by simp at h
 | p::P,w::vs,0,m,b,a,c,d=>by
   simp at a c;subst a c;show bindC _ (_::P.zip vs) m p=_;unfold bindC;rw[FK λv e=>(List.nodup_cons.mp b).1 (List.of_mem_zip e).1,if_neg d];simp
 | p::P,w::vs,i+1,m,b,a,c,d=>by
   unfold bindC;exact FM (i:=i) (List.nodup_cons.mp b).2 ⋯ ⋯ d
def start(N:AK)(vs:AQ):St:=vs.map some++List.replicate (N.length-vs.length) none
def bR(CX:fW)(P:P7)(w:World)(K:W7)(mg:AE)(base:Heap)(N:AK)(b:Str)(a:Scope)(f:Addr)(d:Value)(A:Around)(outer:List Env)(s:Shared)(H:Hp)(E:XK):Cx where
 prog:=P
 w:=w
 K:=K
 mg:=mg
 base:=base
 A:=A.deeper (envOfC b a (~~~s) f d)
 N:=N
 s₀:=s
 H₀:=H
 env:=envOfC b a (~~~s) f d
 outer:=outer
 stack:=envOfC b a (~~~s) f d::outer
 ex:=[]
 calm:=true
 fn:=λ_=>true
 pn:=[]
 xe:=λe i=>wpAny (mZ P w) (A.deeper (envOfC b a (~~~s) f d)) (leaving (envOfC b a (~~~s) f d) e) (λ_ c=>CX outer H s E e c) (λh c=>CX outer H s E h c) i
def FN{b:Scope}(h:b.names.lookup x=some .cell):∃c,(cellsFrom n b.names []).lookup x=some c:=Option.isSome_iff_exists.mp (PySem.W.cellsFrom_some _ n [] (.inl h))
theorem LR{K:W7}(S:b9 N Y a)(M:A.handled=none)(l:Env0 P w K J m A j s H)(V:vs.length=Y.length)(r:Vals vs us)(x:InCallC s (~~~s) (bindL (envOfC g a (~~~s) f F).kindOf (Y.zip us) λ_=>none) (cellsFrom (~~~s+1) a.names []) (bindC (envOfC g a (~~~s) f F).kindOf (Y.zip us) λ_=>none) R):
 Inv (bR CX P w K J m N g a f F A j s H E) [] (start N vs) H R:=by
 have O:Y.length<=N.length:=by have:=congrArg List.length S.pre;symm
 obtain⟨C,Z,rfl,G⟩:=x.done;have n:∀b,b∉(bR CX P w K J m N g a f F A j s H E).ex:=λb z=>absurd (show b∈([]) from z) nofun
 refine⟨⟨l.mod,S.kind,rfl,rfl,qv _,λy z c C D=>?_,λy o=>?_,λy c _ h=>?_,λ_=>M,Around.frames_deeper l.frames,.inr ⟨rfl,rfl⟩,λb z=>absurd z (n b),l.bs,l.bsz,λb _ _=>n b,λb z=>absurd z (n b),l.funs,l.frf⟩,
  rfl,l.bare,Un.kept G,⟨_,x.toInCall.ns,λi y v C D T=>?_⟩,λy c h=>⟨_,x.cell y c h⟩,l.hok.fresh (qv _),λy c h=>?_,λp t=>absurd (show p∈([]) from t) nofun,l.hok.kept G,?_⟩
 .exact name_of_addr x.apart (PySem.mem_of_lookup C) (PySem.mem_of_lookup D)
 .rcases o with o|o
  .exact FN o
  .exact absurd rfl (S.nofree _ (PySem.mem_of_lookup o))
 .exact Nat.le_of_lt (x.above y c (PySem.mem_of_lookup h))
 .have U:i<vs.length:=by
   unfold start at D;symm
  have Q:vs[i]?=some v:=by
   unfold start at D;symm
  obtain⟨u,I,L⟩:=r.get Q
  have t:Y[i]?=some y:=by
   rw[<-S.pre,List.getElem?_take_of_lt (by ext)];exact C
  have B:Y.Nodup:=by rw[<-S.pre];exact S.nd.sublist (List.take_sublist _ _)
  refine⟨u,L,?_⟩;rcases S.par y (List.mem_of_getElem? t)with k|k
  .exact .inl ⟨k,FL B t I k⟩
  .obtain⟨c,e⟩:=FN k
   refine .inr ⟨.inl k,c,e,?_⟩;have q:=x.cell y c e;rw[FM B t I (by show a.names.lookup y≠_;symm)]at q;exact q
 .exact l.hok.fresh (Nat.le_of_lt (x.above y c (PySem.mem_of_lookup h)))
 .unfold start
  show _=N.length
  ext
theorem kP{K:W7}{T kV y R h I Y:Value}(X:K.lookup f=some ⟨Y,od,.func (W.fnOf name g i j c T kV y R Z h I),osl⟩)(G:W.codeIn K h g=true)(S:b9 N ps c)(B:∀vs H Q E,sp vs H Q E->vs.length=ps.length)(m:∀(A:Around) (a:List Env) (s:Shared) (H:Hp) (vs:AQ) (Q:VK) (E:XK),Room k (A.deeper (envOfC g c (~~~s) f h))->sp vs H Q E->
   ∃t,PSs (bR CX P w K L l N g c f h A a s H E) j t/\t {nx:=λ_ H'=>Q .non H',rt:=Q} (start N vs) H):
  FnOk P w K L l CX (k+1) f (W.fnOf name g i j c T kV y R Z h I) ps sp:=by
  refine⟨B,λA a s H M us vs Q E D C hb r z=>?_⟩;have O:=C.mod.kin.keeps λb o e=>(C.bs b o e).1
  refine codeAny_call_function D.depth (O _ _ X) rfl S.co S.gen rfl (W.codeRec_of O G) (hb _ _ _ _ (wpAny_newFunctionEnv_cells S.kind (λ⟨n,v⟩ U=>by
   rcases S.par n (List.of_mem_zip U).1 with q|q
   .exact .inl q
   .exact .inr ⟨q,PySem.W.cellsFrom_some _ _ _ (.inl q)⟩) λenv d s1 x=>?_))
  subst d;refine⟨(C.mod.nolimit.keeps λb o e=>(C.bs b o e).1).keeps x.toInCall.keep,codeAny_func ?_⟩;obtain⟨t,ht,hq⟩:=m A a s H vs Q E (D.deeper _) z;refine w6 (ht [] s1 _ H _ (LR S D.hd C (B _ _ _ _ z) r x) hq) (λfl s' hs=>?_) λe s' hs=>hs
  have p:∀{σ':St}{H':Hp}{v:V}{u:_},Inv (bR CX P w K L l N g c f h A a s H E) [] σ' H' s'->_->Q v H'->CE a P w H s Q u s':=
   λ{σ' H' v u} J F q=>⟨v,H',J.os,J.bare,J.base,J.hok,F,q⟩
  cases fl with
  | ret u=>
    obtain⟨v,σ',H',J,F,q⟩:=hs;exact p J F q
  | next=>
    obtain⟨σ',H',J,q⟩:=hs;exact p (v:=.non) J rfl q
  | brk=>
    obtain⟨_,_,_,q⟩:=hs;symm
  | cont=>
    obtain⟨_,_,_,q⟩:=hs;symm
section
variable {x:Str}{p:Pos}{e:Expr}{t:TA}{id T:String}{r:AQ->Hp->VK->Prop}
def oa(r:AQ->Hp->VK->Prop)(t:TA):TE:=λb H Q=>t b H λc a=>r c a Q
theorem jH(i:dn X (.builtin id) r)(j:Gl X x)(v:X.mg x=none)(m:bootBuiltins x=some (.builtin id))(n:PA X (e::es) t)(l:x≠"__name__":=by decide)(b:cj x:=by decide)(g:Zc X e es:=by rfl)(d:Zd X pos es:=by rfl):PE X (.Call (.Name x p) (e::es) [] pos) (oa r t):=by
 intro y s w H Q I h;refine wpAny_Call_Name_kw (gJ I j v m (PyProof.Rows.callWith_builtin1 (aF (n pos _ s w H _ I h) λA k c=>?_) g d) l b);obtain⟨z,f,q,o,u⟩:=c;exact i _ k w f z A Q q o u
theorem jI(i:dn X (.type T) r)(j:Gl X x)(v:X.mg x=none)(m:bootBuiltins x=some (.type T))(n:PA X (e::es) t)(l:x≠"__name__":=by decide)(b:cj x:=by decide)(g:Zc X e es:=by rfl)(d:Zd X pos es:=by rfl):PE X (.Call (.Name x p) (e::es) [] pos) (oa r t):=by
 intro y s w H Q I h;refine wpAny_Call_Name_kw (gJ I j v m (PyProof.Rows.callWith_type1 (aF (n pos _ s w H _ I h) λA k c=>?_) g d) l b);obtain⟨z,f,q,o,u⟩:=c;exact i _ k w f z A Q q o u
end
def kQ(i:Expr):Prop:=∀a b,subscripted i false a b=operate [a,b] (getItem a b)
def vV{T id:String}(m:typeLookup (.type T) "__getitem__"=pure (some (.builtin id)))(hs:kQ a)(h:wpAny (mZ prog w) A (eval c env) (λo e=>wpAny (mZ prog w) A (eval a env) (λi b=>b.TypeIs o T/\wpAny (mZ prog w) A (getItem o i) Q E b) E e) E s):
 wpAny (mZ prog w) A (eval (.Subscript c a l) env) Q E s:=by
 refine Subscript_ (w6 h (λo e k=>w6 k (λi b d=>?_) λ_ _ x=>x) λ_ _ x=>x);obtain⟨n,d⟩:=d;refine wa (wa (wpAny_specialOf n m ?_))
 have g:wpAny (mZ prog w) A (subscripted a false o i) (λr f=>wpAny (mZ prog w) A (letTemporaryGo c o r>>=λ_=>pure r) Q E f) E b:=by
  rw[hs o i];exact wpAny_operating (w6 d (λr f j=>wa (wpAny_letTemporaryGo (wc j))) λ_ _ x=>x)
 first
  | exact wc (wa g)
  | exact wa _
  | exact wa g
def FO:List (TE×TE)->St->Hp->(List (V×V)->Hp->Prop)->Prop
 | [],_,H,Q=>Q [] H
 | (tk,a)::r,σ,H,Q=>tk σ H λx c=>a σ c λy b=>FO r σ b λps d=>Q ((x,y)::ps) d
abbrev VV:List (V×V)->List (Value×Value)->Prop:=Paired λp q=>RelV p.1 q.1/\RelV p.2 q.2
def LS(X:Cx)(c:Pos)(b:List (Option Expr))(a:AL)(d:List (TE×TE)):Prop:=
 ∀(e:List _) (s:Shared) (f:St) (H:Hp) (Q:List _->Hp->Prop),Inv X e f H s->FO d f H Q->
  Zh X (evalPairs (pairTrees b a X.env c)) (λi j=>∃h g,Inv X e f g j/\VV h i/\Q h g) X.xe s
structure M1(X:Cx)(o:Expr)(m:Str)(apos:Pos)(e:Expr)(cpos:Pos):Prop where
 base:attributeBase o m X.env (eval o X.env)=eval o X.env
 few:((backTo cpos (starEach [e] X.env)).all (λx=>!x.1)&&(backToKw cpos (keywordEach [] X.env)).all (λx=>x.1.isSome)
  &&decide (([e]:AL).length+([]:List Keyword).length+(if ([]:List Keyword).isEmpty then 0 else 1)<30))=true
 line:(apos.endLine==cpos.line)=true
 trees:backTo cpos (starEach [e] X.env)=[(false,eval e X.env)]
structure M2(X:Cx)(o:Expr)(m:Str)(apos:Pos)(e f:Expr)(cpos:Pos):Prop where
 base:attributeBase o m X.env (eval o X.env)=eval o X.env
 few:((backTo cpos (starEach [e,f] X.env)).all (λx=>!x.1)&&(backToKw cpos (keywordEach [] X.env)).all (λx=>x.1.isSome)
  &&decide (([e,f]:AL).length+([]:List Keyword).length+(if ([]:List Keyword).isEmpty then 0 else 1)<30))=true
 line:(apos.endLine==cpos.line)=true
 trees:backTo cpos (starEach [e,f] X.env)=[(false,eval e X.env),(false,eval f X.env)]
end L2
namespace HT
open PySem PyProof.Rows
section
variable {prog:P7}{w:World}{A:Around}{E:AA}{s:Shared}
def sIx(n d:Nat):Option Int->Nat
 | none=>d
 | some v=>if v<0 then (v+n).toNat else min v.toNat n
def sIx_none(n d:Nat):sIx n d none=d:=rfl
theorem sIx_nat(n d k:Nat):sIx n d (some (k:Int))=min k n:=by
 show(if k<0 then (k+(n:Int)).toNat else _)=_;constructor<;>lia
theorem vW(n d:Nat)(a:d<=n)(o:Option Int):sIx n d o<=n:=by
 cases o with
 | none=>exact a
 | some v=>
   show(if v<0 then _ else _)<=n;symm
theorem FP(v:Int)(n d:Nat):(if v<0 then max (v+(n:Int)) 0 else min v (n:Int))=((sIx n d (some v):Nat):Int):=by
 show(if v<0 then _ else min v _)=(((if v<0 then (v+n).toNat else min v.toNat n)));symm
def LU(lo a:Option Int)(n:Nat):Builtin.Slice.sliceAdjust lo a 1 (n:Int)=(((sIx n 0 lo:Nat):Int),((sIx n n a:Nat):Int)):=by
 refine Prod.ext ?_ ?_
 .cases lo with
  | none=>rfl
  | some v=>exact FP v n 0
 .cases a with
  | none=>rfl
  | some v=>exact FP v n n
theorem LV(i j:Nat):Builtin.Slice.slicePlaces (i:Int) (j:Int) 1=j-i:=by
 unfold Builtin.Slice.slicePlaces
 ext<;>lia
def FQ(p:IsPart v o)(h:Q o s):wpAny (mZ prog w) A (Builtin.Slice.slicePartIndex v) Q E s:=by
 cases p with
 | none=>exact slicePart_none h
 | int i t=>exact slicePart_int h
def sliceApplied_gen{lo c:Option Int}{Q:Int×Int×Nat->Shared->Prop}(hs:s.heap.IsSliceOf g e d .none)(f:IsPart e lo)(j:IsPart d c)(h:Q (((sIx n 0 lo:Nat):Int),1,sIx n n c-sIx n 0 lo) s):wpAny (mZ prog w) A (Builtin.Slice.sliceApplied (.ref g) (pure (n:Int))) Q E s:=by
 obtain⟨os,a,i,b⟩:=id hs;refine wa (wa (wpAny_field a b (x:=e) rfl (wa (wpAny_field a b (x:=d) rfl (wa (wpAny_field a b (x:=.none) rfl (wc (wa (slicePart_none (wa (FQ f (wa (FQ j (wa (wc ?_)))))))))))))));show wpAny _ _ (match Builtin.Slice.sliceAdjust lo c 1 _ with|(lo,c)=>pure (lo,_,Builtin.Slice.slicePlaces lo c 1)) _ _ s;rw[LU lo c n];show wpAny _ _ (pure _) _ _ s;rw[LV];exact wc h
theorem LW(xs:Array Value)(i k:Nat):((List.range k).filterMap fun(m:Nat)=>xs[((i:Int)+(m:Int)*1).toNat]?).toArray=((xs.toList.drop i).take k).toArray:=by
 have e:(fun(m:Nat)=>xs[(i+(m:Int)*1).toNat]?)=λm=>xs[i+m]?:=by
  symm
 have:=pick_run xs i k;have a:(_ ∘ _)=λm=>xs[i+m]?:=rfl
 ext
theorem getItem_tuple_cut{lo d:Option Int}(e:IsTup s.heap t a)(hs:s.heap.IsSliceOf k o n .none)(m:IsPart o lo)(l:IsPart n d)(q:¬(sIx a.size 0 lo=0/\sIx a.size a.size d=a.size))(h:Q (.ref (~~~s)) {s with heap:=s.heap.push {cls:=.type "tuple",data:=.seq ((a.toList.drop (sIx a.size 0 lo)).take (sIx a.size a.size d-sIx a.size 0 lo)).toArray} })(hsz:a.size<=sizeLine):wpAny (mZ prog w) A (getItem (.ref t) (.ref k)) Q E s:=by
 have c:=by
  show((a.toList.drop (sIx a.size 0 lo)).take (sIx a.size a.size d-sIx a.size 0 lo)).toArray.size<=sizeLine
  (simp at*;lia)
 obtain⟨os,f,i,p⟩:=id hs
 have g:s.TypeIs (.ref k) _:=⟨os,f,i⟩
 unfold getItem
 try with_reducible refine wd ?_
 refine wa (wpAny_sequenceKey e.typeIs (by decide) ?_)
 refine wa (wpAny_callSpecial?_slot e.typeIs PyProof.Rows.slot_tuple_getitem
  (we PyProof.Rows.slot_tuple_getitem e.typeIs entry_tuple_getitem ?_ (args_tuple_getitem _ _)))
 show wpAny _ _ (Builtin.Tuple.tupleItemsOf _>>=_) _ _ s;refine wa (tupleItemsOf_ e ?_);refine wa (wpAny_typeOf g ?_);refine wa (sliceApplied_gen hs m l ?_)
 have j:¬((((sIx a.size 0 lo):Int)==0&&(1:Int)==1&&(sIx a.size a.size d-sIx a.size 0 lo)==a.size)=true):=by
  ext
 show wpAny _ _ (if _ then _ else _) _ _ s;rw[if_neg j,LW]
 first
  | exact wa (wf (wc ⟨_,rfl,wc h⟩) c)
  | exact wa _
  | exact wa _
  | exact wa _
end
end HT
namespace L2
variable {h':Heap}{X:Cx}{pins:AB}{pos apos:Pos}{ys:AQ}{tg:Expr}{prog:P7}{K:W7}{dx:Addr}{es:AL}
open PySem PySem.Spec PyProof.Rows
abbrev TO:=St->Hp->(Option Int->Hp->Prop)->Prop
def PO(X:Cx)(e:Option Expr)(t:TO):Prop:=
 ∀(a:List _) (s:Shared) (b:St) (H:Hp) (Q:Option Int->Hp->Prop),Inv X a b H s->t b H Q->
  Zh X (evalPart e X.env) (λu d=>∃o c,Inv X a b c d/\IsPart u o/\Q o c) X.xe s
def FR:TO:=λ_ H Q=>Q none H
def kR(t:TE):TO:=λb H Q=>t b H λx a=>∃i,x=.int i/\Q (some i) a
theorem oe:∀{us:AC},Vals (ns.map V.int) us->IntsAre us ns:=by
 induction ns with
 | nil=>intro us r;cases r;exact .nil
 | cons n ns b=>
   intro us r
   cases r with
   | cons a c=>
     obtain⟨t,e⟩:=a;subst e;exact .cons n t (b c)
section
variable {e:Expr}{te:TE}{lo hi:Option Expr}{tl th:TO}{p2:Pos}
def vX:PO X none FR:=by
 intro a s b H Q I h;exact wc ⟨none,H,I,.none,h⟩
def vY(h:PE X e te):PO X (some e) (kR te):=by
 intro k s l H Q I f;refine aF (h _ s l H _ I f) λu j a=>?_;obtain⟨x,g,c,b,d⟩:=a;obtain⟨i,rfl,q⟩:=d;obtain⟨t,rfl⟩:=b;exact⟨some i,g,c,.int i t,q⟩
def SlR(X:Cx)(r:V->Option Int->Option Int->Hp->VK->Prop):Prop:=
 ∀(d:List _) (s:Shared) (f:St) (H:Hp) (x:V) (v b a:Value) (lo e:Option Int) (c:Addr) (Q:VK),Inv X d f H s->RelV x v->s.heap.IsSliceOf c b a .none->IsPart b lo->IsPart a e->r x lo e H Q->
  ∃T id,typeLookup (.type T) "__getitem__"=pure (some (.builtin id))/\s.TypeIs v T/\Zh X (getItem v (.ref c)) (EP X d f Q) X.xe s
def SlR.or(h:SlR X r)(h':SlR X k):SlR X (λx lo hi H Q=>r x lo hi H Q\/k x lo hi H Q):=by
 intro f s g H x v d b lo hi c Q I i e j a q;rcases q with q|q
 .exact h _ s g H x v d b lo hi c Q I i e j a q
 .exact h' _ s g H x v d b lo hi c Q I i e j a q
def LX(r:V->Option Int->Option Int->Hp->VK->Prop)(te:TE)(tl th:TO):TE:=λd H Q=>te d H λx c=>tl d c λl b=>th d b λu a=>r x l u a Q
def FS(z:SlR X r)(E:PE X e te)(p:PO X lo tl)(F:PO X hi th):PE X (.Subscript e (.Slice lo hi none p2) pos) (LX r te tl th):=by
 intro g s c H Q I h;refine Subscript_ (aF (E _ s c H _ I h) λv D a=>?_);obtain⟨x,y,m,K,A⟩:=a;refine wpAny_Slice (aF (p _ D c y _ m A) λf o a=>?_);obtain⟨l,M,B,n,L⟩:=a;refine aF (F _ o c M _ B L) λi d a=>?_;obtain⟨u,j,N,k,C⟩:=a;refine wc ?_;have t:Inv X _ c j {d with heap:=d.heap.push {cls:=.type "slice",data:=.fields #[f,i,.none]} }:=N.kept λb O q=>qe _ q;obtain⟨T,id,w,G,J⟩:=z _ _ c j x v f i l u d.heap.objs.size Q t K (.new ..) n k C;exact tail_any G w J (by with_unfolding_all rfl)
def d8(xs:AQ)(lo hi:Option Int):AQ:=(xs.drop (HT.sIx xs.length 0 lo)).take (HT.sIx xs.length xs.length hi-HT.sIx xs.length 0 lo)
theorem FT(xs:AQ)(lo hi:Option Int):(d8 xs lo hi).length<=xs.length:=by
 unfold d8
 ext<;>lia
def vZ(K:W7):V->Option Int->Option Int->Hp->VK->Prop:=λx lo d H Q=>∃a b,x=.ref a/\SqT K H a b/\
 ¬(HT.sIx b.length 0 lo=0/\HT.sIx b.length b.length d=b.length)/\∀p,H p=none->Q (.ref p) (upd H p (.tup (d8 b lo d)))
theorem v3:SlR X (vZ X.K):=by
 intro g s w H x v y A lo n z Q I m j k i h;obtain⟨a,l,rfl,p,t,q⟩:=h;cases m;obtain⟨e,r,f,o⟩:=I.tuple p;have c:e.toArray.size=_:=r.length.symm;refine⟨"tuple",_,PyProof.Rows.slot_tuple_getitem.lookup,f.typeIs,HT.getItem_tuple_cut f j k i ⋯ ?_ (by ext)⟩;rw[c];refine⟨.ref _,_,I.laid (λb u q=>qe _ q) (qv _) ?_,rfl,q _ (I.hok.fresh (qv _))⟩;exact⟨Qg (FT l lo n) o,_,(r.drop _).take _,.new _ _⟩
end
def dZ(n:Nat)(i:Int):AN:=if 0<=i then (if i<n then some i.toNat else none)else if -n<=i then some (i+n).toNat else none
def bj{a:Type}(xs:List a)(i:Int):Option a:=(dZ xs.length i).bind λj=>xs[j]?
theorem FU(h:dZ n i=some j):seqIndex? i n=some j/\j<n/\-(n:Int)<=i/\i<n:=by
 unfold dZ at h;by_cases b:0<=i
 .rw[if_pos b]at h
  by_cases a:i<n
  .rw[if_pos a]at h
   have e:=w9 h;exact⟨by rw[seqIndex_of b a,e],by lia,by lia,a⟩
  ext
 .rw[if_neg b]at h
  by_cases a:-n<=i
  .rw[if_pos a]at h
   have e:=w9 h;exact⟨by rw[seqIndex_neg ∅ a,e],by lia,a,by lia⟩
  ext
theorem v5(h:bj xs i=some v):∃j,seqIndex? i xs.length=some j/\xs[j]?=some v/\j<xs.length/\-(xs.length:Int)<=i/\i<xs.length:=by
 unfold bj at h
 cases e:dZ xs.length i with
 | none=>ext
 | some j=>
   obtain⟨a,d,c,b⟩:=FU e
   ext
theorem og{j:Nat}(h:xs[j]?=some v):bj xs (j:Int)=some v:=by
 have e:dZ xs.length j=some j:=by
  unfold dZ;symm
 unfold bj;ext
def v7(b:Expr):Prop:=∀o i,subscripted b false o i=operate [o,i] (getItem o i)
def IxR(X:Cx)(r:R2):Prop:=
 ∀(b a:Expr) (c:List _) (s:Shared) (d:St) (H:Hp) (x y:V) (v u:Value) (Q:VK),Inv X c d H s->RelV x v->RelV y u->r x y H Q->
  subscripted a false v u=operate [v,u] (getItem v u)->Zh X (subscriptTail b a v u) (EP X c d Q) X.xe s
def LY(X:Cx)(id:String)(r:V->AQ->Hp->VK->Prop):Prop:=
 ∀(a:List _) (s:Shared) (b:St) (H:Hp) (x:V) (c:AQ) (v:Value) (d:List _) (Q:VK),Inv X a b H s->RelV x v->Vals c d->r x c H Q->
  Zh X (call (.builtin id) (v::d)) (EP X a b Q) X.xe s
section
variable {a b:Expr}{ta tb:TE}
def IxR.or(h:IxR X r)(j:IxR X g):IxR X (λx y H Q=>r x y H Q\/g x y H Q):=by
 intro c d i s a H x y v u Q I f e q b;rcases q with q|q
 .exact h c d _ s a H x y v u Q I f e q b
 .exact j c d _ s a H x y v u Q I f e q b
def v8(f:IxR X r)(c:PE X a ta)(l:PE X b tb)(hs:v7 b):PE X (.Subscript a b pos) (hV r ta tb):=by
 intro k s m H Q I h;exact Subscript_ (hX c l I h λv u g x y e i d j q=>f a b _ g m e x y v u Q i d j q (hs _ _))
def kT(K:W7):R2:=λx y H Q=>∃p b i v,x=.ref p/\y=.int i/\SqL K H p b/\bj b i=some v/\Q v H
def kU(K:W7):R2:=λx y H Q=>∃p b i v,x=.ref p/\y=.int i/\SqT K H p b/\bj b i=some v/\Q v H
def kW:R2:=λx y H Q=>∃z i c,x=.str z/\y=.int i/\z.length<=sizeLine/\bj z.cps.toList i=some c/\Q (.str ⟨#[c]⟩) H
theorem ix_list:IxR X (kT X.K):=by
 intro e f K s N H x y v u Q I B k h M;obtain⟨p,O,i,z,rfl,rfl,l,m,q⟩:=h;cases B;obtain⟨t,rfl⟩:=k;obtain⟨a,r,b,J⟩:=I.list l;obtain⟨j,g,n,E,o,C⟩:=v5 m;obtain⟨w,F,d⟩:=r.get n;have G:=r.length;have D:=jF
 have c:EP X _ N Q w s:=⟨z,H,I,d,q⟩
 by_cases L:0<=i
 .have A:i.toNat=j:=by
   rw[seqIndex_of L C]at g;symm
  exact item_listR b.isList L ∅ ⋯ c M
 .have A:(i+a.toArray.size).toNat=j:=by
   rw[seqIndex_neg ∅ o]at g
   ext
  exact subscriptTail_builtinR b.isList.typeIs slot_list_getitem.lookup
   (wpAny_getItem_list_neg b.isList ∅ (by ext) ∅ ⋯ ⟨rfl,c⟩) M
theorem ix_tup:IxR X (kU X.K):=by
 intro d c a s L H x y v u Q I k f h J;obtain⟨p,K,i,z,rfl,rfl,l,g,q⟩:=h;cases k;obtain⟨t,rfl⟩:=f;obtain⟨G,r,b,C⟩:=I.tuple l;obtain⟨j,D,m,n,B,F⟩:=v5 g;obtain⟨w,A,e⟩:=r.get m;have E:=r.length;have o:=jF
 exact subscriptTail_builtinR b.typeIs slot_tuple_getitem.lookup
  (getItem_tuple (j:=j) b ∅ ∅ ⋯ ⋯ ⟨rfl,⟨z,H,I,e,q⟩⟩) J
theorem v9:IxR X kW:=by
 intro e d a s C H x y v u Q I g f h b;obtain⟨z,i,c,rfl,rfl,n,k,q⟩:=h;obtain⟨t,rfl⟩:=g;obtain⟨B,rfl⟩:=f;obtain⟨j,r,p,l,o,A⟩:=v5 k
 have w:z.cps.toList.length=z.length:=by simp[Str.length]
 have m:=jF
 exact tail_any (typeIs_str s z t) slot_str_getitem.lookup (getItem_str (by
  ext<;>lia) ⋯ ⟨.str _,H,I.tok _,⟨_,rfl⟩,q⟩) b
def FV(K:W7):R2:=λx y H Q=>kT K x y H Q\/kU K x y H Q\/kW x y H Q
def v_:IxR X (FV X.K):=ix_list.or (ix_tup.or v9)
def LZ(its:AC)(n j:Nat)(u:Value):Obj.mapSeq (·.setIfInBounds j u) {cls:=.type "list",data:=.seq its.toArray n}={cls:=.type "list",data:=.seq (its.set j u).toArray n}:=by
 simp[Obj.mapSeq]
def Inv.lst{pins:AB}{σ:St}{H:Hp}{s:Shared}{p:Addr}{xs:AQ}(I:Inv X pins σ H s)(h:H p=some (.lst xs)):
 ∃(its:AC) (n:Nat),Vals xs its/\s.heap.get? p=some {cls:=.type "list",data:=.seq its.toArray n}/\xs.length<=sizeLine:=by
 obtain⟨z,its,n,r,e⟩:=I.hok p _ h;exact⟨its,n,r,e,z⟩
theorem Inv.lstUpd{pins:AB}{σ:St}{H:Hp}{s:Shared}{p:Addr}{xs ys:AQ}{its its':AC}{n n':Nat}{f:Obj->Obj}(I:Inv X pins σ H s)(h:H p=some (.lst xs))(ho:s.heap.get? p=some {cls:=.type "list",data:=.seq its.toArray n})(hf:f {cls:=.type "list",data:=.seq its.toArray n}={cls:=.type "list",data:=.seq its'.toArray n' })(r:Vals ys its')(hz:ys.length<=sizeLine)(t:Nat):
 Inv X pins σ (upd H p (.lst ys)) {s with heap:=s.heap.update p f,toks:=t}:=by
 have e:(s.heap.update p f).get? p=some {cls:=.type "list",data:=.seq its'.toArray n' }:=by
  rw[wz f ho (by rw[hf]<;>rfl),hf]
 refine I.write (x:=p) (e:=p) (by rw[h];trivial) (.inl rfl) (λb u hb q=>(Heap.get?_update_other _ _ (Ne.symm hb)).trans q) ⟨_,e⟩ ?_;exact⟨hz,its',n',r,e⟩
def wA:V->V->V->Hp->(Hp->Prop)->Prop:=λo i v H Q=>∃p xs k j,o=.ref p/\i=.int k/\H p=some (.lst xs)/\dZ xs.length k=some j/\Q (upd H p (.lst (xs.set j v)))
theorem L3:kI X wA:=by
 intro pins s σ H o i v ov iv u Q I ro ri rv h;obtain⟨p,xs,k,j,rfl,rfl,hp,hj,q⟩:=h;cases ro;obtain⟨t,rfl⟩:=ri;obtain⟨its,n,r,ho,hz⟩:=I.lst hp;obtain⟨h1,h2,h3,h4⟩:=FU hj;have hl:=r.length;have hn:=jF
 have I':Inv X pins σ (upd H p (.lst (xs.set j v))) {s with heap:=s.heap.update p (Obj.mapSeq (·.setIfInBounds j u))}:=
  I.lstUpd hp ho (LZ its n j u) (r.set rv j) (by rw[List.length_set];exact hz) s.toks
 by_cases h0:0<=k
 .have hk:k.toNat=j:=by
   rw[seqIndex_of h0 h4]at h1;exact w9 h1
  exact W.ki_setAt ho h0 ∅ (by rw[qk,<-hl];exact h4) (by rw[hk];exact⟨_,I',q⟩)
 .have hk:(k+(its.toArray.size:Int)).toNat=j:=by
   rw[seqIndex_neg ∅ h3]at h1;rw[qk,<-hl];exact w9 h1
  exact W.ki_setBack ho ∅ (by rw[qk,<-hl];exact h3) ∅ (by rw[hk];exact⟨_,I',q⟩)
theorem L4(lo d:Option Int)(n:Nat):(sliceBounds lo d none n).1=((HT.sIx n 0 lo:Nat):Int)/\(sliceBounds lo d none n).2.1=((HT.sIx n n d:Nat):Int)/\(sliceBounds lo d none n).2.2=1:=by
 refine⟨?_,?_,rfl⟩
 .cases lo with
  | none=>constructor<;>lia
  | some i=>
    simp only[sliceBounds,HT.sIx];symm
 .cases d with
  | none=>constructor<;>lia
  | some i=>
    simp only[sliceBounds,HT.sIx];symm
def L5(its:AC)(lo c:Option Int):slicePick its.toArray lo c none=((its.drop (HT.sIx its.length 0 lo)).take (HT.sIx its.length its.length c-HT.sIx its.length 0 lo)).toArray:=by
 obtain⟨f,g,e⟩:=L4 lo c _;unfold slicePick;rw[f,g,e];simp only[sliceRange_one,pick_run]<;>rfl
def wB(K:W7):V->Option Int->Option Int->Hp->VK->Prop:=λx lo d H Q=>∃a c,x=.ref a/\SqL K H a c/\∀p,H p=none->Q (.ref p) (upd H p (.lst (d8 c lo d)))
theorem FW:SlR X (wB X.K):=by
 intro f s y H x v n o lo e m Q I i w t g h;obtain⟨a,p,rfl,j,q⟩:=h;cases i;obtain⟨u,r,d,k⟩:=I.list j;have c:=r.length;refine⟨"list",_,slot_list_getitem.lookup,d.isList.typeIs,wpAny_getItem_list_slice d.isList w t g .none nofun ?_ (by ext)⟩;rw[L5,<-c];refine⟨.ref _,_,I.laid (λb l q=>qe _ q) (qv _) ?_,rfl,q _ (I.hok.fresh (qv _))⟩;exact⟨Qg (FT p lo e) k,_,0,(r.drop _).take _,qp _ rfl⟩
theorem L6:dn X (.builtin "len") (λxs H Q=>∃p ys,xs=[.ref p]/\(SqL X.K H p ys\/SqT X.K H p ys)/\Q (.int ys.length) H):=by
 intro k s m H xs l Q I r h;obtain⟨p,ys,rfl,c,q⟩:=h;obtain⟨u,rfl,g⟩:=eB r;cases g;have j:=jF;rcases c with c|c
 .obtain⟨f,e,b,i⟩:=I.list c
  have d:=e.length;exact Calls.call_len_list b.isList (by ext<;>lia) ⟨.int _,H,I.tok _,⟨s.toks+1,by symm⟩,q⟩
 .obtain⟨f,e,b,i⟩:=I.tuple c
  have d:=e.length;exact len_tuple b (by ext<;>lia) ⟨.int _,H,I.tok _,⟨s.toks+1,by symm⟩,q⟩
theorem L7:dn X (.type "list") (λxs H Q=>∃p ys,xs=[.ref p]/\(SqL X.K H p ys\/SqT X.K H p ys)/\∀l,H l=none->Q (.ref l) (upd H l (.lst ys))):=by
 intro y s z H xs A Q I r h;obtain⟨p,ys,rfl,f,q⟩:=h;obtain⟨u,rfl,x⟩:=eB r;cases x
 have j:∀_,_->_->∀(b:Heap) _,_->
  _->EP X _ z Q _ {s with heap:=b}:=λa c g b d i e=>
  ⟨.ref _,_,I.laid i (qv _) (show ObjOk _ X.w _ b _ (.lst ys) from⟨g,a,d,c,e⟩),rfl,q _ (I.hok.fresh (qv _))⟩
 rcases f with f|f
 .obtain⟨a,c,w,g⟩:=I.list f
  have k:=c.length;obtain⟨o,m,v,n,t⟩:=w.isList;exact call_list_seq p (.inl rfl) m v t (λb d i e=>j a c g b d i e) ⋯
 .obtain⟨a,c,w,g⟩:=I.tuple f
  have k:=c.length;obtain⟨o,m,v,n,t⟩:=w;exact call_list_seq p (.inr rfl) m v t (λb d i e=>j a c g b d i e) ⋯
theorem L8:dn X (.type "tuple") (λxs H Q=>∃p ys,xs=[.ref p]/\((SqL X.K H p ys/\∀l,H l=none->Q (.ref l) (upd H l (.tup ys)))\/(SqT X.K H p ys/\Q (.ref p) H))):=by
 intro n s w H xs v Q I r h;obtain⟨p,ys,rfl,h⟩:=h;obtain⟨u,rfl,j⟩:=eB r;cases j;rcases h with⟨c,q⟩|⟨c,q⟩
 .obtain⟨a,d,m,f⟩:=I.list c
  have g:=d.length;refine call_tuple_list m.isList (λt k=>?_) ⋯;have i:=I.kept (t':=s.toks) k;exact⟨.ref _,_,i.laid (λb o e=>qe _ e) (qv _) (show ObjOk _ X.w _ _ _ (.tup ys) from⟨f,a,d,.new _ _⟩),rfl,q _ (i.hok.fresh (qv _))⟩
 .obtain⟨a,d,m,f⟩:=I.tuple c
  exact call_tuple_same m ⟨.ref p,H,I,rfl,q⟩
def FX(K:W7)(T:String)(x:V)(H:Hp):Prop:=match x with
 | .str _=>T="str"
 | .int _=>T="int"
 | .ref p=>(T="list"/\∃b,SqL K H p b)\/(T="tuple"/\∃o,K.lookup p=some o/\o.cls=.type "tuple"/\o.dict=none)\/
  (T="dict"/\((∃c,H p=some (.dK c))\/∃c,H p=some (.dT c)))\/(T="set"/\∃S n,H p=some (.set S n))
 | _=>False
theorem wC{σ:St}(I:Inv X pins σ H s)(r:RelV x v)(g:FX X.K T x H):
 s.TypeIs v T/\∀a,v=.ref a->∃k,s.heap.get? a=some k/\k.dict=none:=by
 cases x with
 | str z=>
   obtain⟨t,rfl⟩:=r;cases (g);exact⟨typeIs_str s z t,λ_ e=>nomatch e⟩
 | int i=>
   obtain⟨t,rfl⟩:=r;cases (g);exact⟨typeIs_int s i t,λ_ e=>nomatch e⟩
 | ref p=>
   cases r;rcases g with⟨rfl,w,l⟩|⟨rfl,o,d,m,j⟩|⟨rfl,d⟩|⟨rfl,S,n,d⟩
   .obtain⟨u,_,q,_⟩:=I.list l
    refine⟨q.isList.typeIs,λa e=>?_⟩;obtain⟨o,n,e,c,j,_⟩:=q
    ext
   .refine⟨⟨o,I.kIn p o d,m⟩,λa e=>?_⟩
    cases e;exact⟨o,I.kIn _ o d,j⟩
   .have z:∃o,s.heap.get? p=some o/\o.ExactDict:=by
     rcases d with⟨h,d⟩|⟨h,d⟩
     .obtain⟨_,_,_,_,o,_,_,e,f,_⟩:=I.hok p _ d
      symm
     .obtain⟨_,_,_,_,o,_,_,e,f,_⟩:=I.hok p _ d
      symm
    obtain⟨o,e,f⟩:=z;refine⟨⟨o,e,f.1⟩,λa b=>?_⟩;cases b;exact⟨o,e,f.2.1⟩
   .obtain⟨o,_,_,_,e,f,_⟩:=I.hok p _ d
    refine⟨⟨o,e,f.1⟩,λa b=>?_⟩;cases b;exact⟨o,e,f.2.1⟩
 | _=>exact False.elim g
def L9(K:W7)(T:String)(r:V->AQ->Hp->VK->Prop)(e:TE)(t:TA):TE:=λb H Q=>e b H λx d=>FX K T x d/\t b d λc f=>r x c f Q
variable {o e:Expr}{to:TE}{t:TA}{name:Str}{cpos:Pos}{T id:String}{r:V->AQ->Hp->VK->Prop}
theorem ia(u:PlainAttrs T)(i:Slot T name id)(l:typeOf (.builtin id)=pure (.type "method_descriptor"))(w:LY X id r)(A:PE X o to)(F:PA X (e::es) t)(d:attributeBase o name X.env (eval o X.env)=eval o X.env:=by rfl)(j:((backTo cpos (starEach (e::es) X.env)).all (λx=>!x.1)&&(backToKw cpos (keywordEach [] X.env)).all (λx=>x.1.isSome)
  &&decide ((e::es).length+([]:List Keyword).length+(if ([]:List Keyword).isEmpty then 0 else 1)<30))=true:=by rfl)(c:(apos.endLine==cpos.line)=true:=by rfl)(hs:starEach (e::es) X.env=(false,eval e X.env)::starEach es X.env:=by rfl)(k:(backTo cpos (starEach es X.env)).any (·.1)=false:=by rfl):
 PE X (.Call (.Attribute o name apos) (e::es) [] cpos) (L9 X.K T r to t):=by
 intro f s b H Q I h;refine wpAny_Call_method_late d j c rfl (aF (A _ s b H _ I h) λv E g=>?_);obtain⟨x,C,n,m,p,D⟩:=g;obtain⟨q,J⟩:=wC n m p;refine⟨T,id,u,i,l,q,J,?_⟩;have L:=F cpos _ E b C _ n D;rw[hs]at L ⊢;refine Calls.callWith_builtin ⋯ (Calls.evalArgs_plain (aF L λM y g=>?_));obtain⟨N,G,B,z,K⟩:=g;exact w _ y b G x N v M Q B m z K
end
def FY(X:Cx)(id:String)(r:V->AQ->Hp->VK->Prop):Prop:=
 ∀(a:List _) (s:Shared) (b:St) (H:Hp) (x:V) (c:AQ) (v:Value) (d:List _) (Q:VK),Inv X a b H s->RelV x v->Vals c d->r x c H Q->
  Zh X (call (.builtin id) (v::d)) (EP X a b Q) X.xe s
theorem Vals.one:∀{x:V}{us:AC},Vals [x] us->∃u,us=[u]/\RelV x u
 :=by
  intro x us h
  cases h with
  | cons r t=>
    cases t;symm
section
variable {σ:St}{H:Hp}{s:Shared}{l b:Addr}{xs zs:AQ}
def Inv.lset{its a:AC}(I:Inv X pins σ H s)(i:H l=some (.lst xs))(e:s.heap.get? l=some {cls:=.type "list",data:=.seq its.toArray n})(g:f its.toArray=a.toArray)(c:Vals ys a)(d:ys.length<=sizeLine):
 Inv X pins σ (upd H l (.lst ys)) {s with heap:=s.heap.update l (Obj.mapSeq f),toks:=t' }:=by
 have q:=PySem.IsL.update e f;rw[g]at q;exact I.write (by rw[i];exact trivial) (.inl rfl) (λj u k h=>(Heap.get?_update_other _ _ (.symm k)).trans h) ⟨_,q⟩ (⟨d,a,_,c,q⟩)
def Inv.lnew(I:Inv X pins σ H s)(a:Vals ys its)(c:ys.length<=sizeLine):
 Inv X pins σ (upd H (~~~s) (.lst ys)) {s with heap:=s.heap.push {cls:=.type "list",data:=.seq its.toArray},toks:=t' }:=
 I.laid (λ_ _ q=>qe _ q) (qv _) ⟨c,its,0,a,qp _ rfl⟩
def Inv.fresh(I:Inv X pins σ H s):H (~~~s)=none:=I.hok.fresh (qv _)
def Inv.lstM(I:Inv X pins σ H s)(a:H l=some (.lst xs)):xs.length<=sizeLine/\∃(its:AC) (n:Nat),Vals xs its/\xs.length=its.length/\s.heap.get? l=some {cls:=.type "list",data:=.seq its.toArray n}:=by
 obtain⟨z,its,n,r,e⟩:=I.hok l _ a;exact⟨z,its,n,r,r.length,e⟩
theorem L_(h:n<=sizeLine):Builtin.List.listTooLong n=false:=by
 unfold Builtin.List.listTooLong
 ext
def wD:V->AQ->Hp->VK->Prop:=λx b H Q=>∃l a y,x=.ref l/\b=[y]/\H l=some (.lst a)/\a.length<sizeLine/\Q .non (upd H l (.lst (a++[y])))
theorem wG:FY X "list.append" wD:=by
 intro b s p H x t v o Q I g f h;obtain⟨l,m,y,rfl,rfl,c,i,q⟩:=h;cases g;obtain⟨u,rfl,d⟩:=f.one;obtain⟨z,k,n,r,j,e⟩:=I.lstM c;refine call_meets F.slot_list_append ⟨_,e,rfl⟩ F.entry_list_append (F.args_list_append_2 _ _) (PySem.list_append l _ n u (by ext)) ⟨e,⟨.non,_,I.lset c e nofun (r.append (.cons d .nil)) ?_,rfl,q⟩⟩
 (simp;lia)
end
end L2
namespace Att
open PySem PySem.W PySem.Calls PyProof.Rows
theorem Ma:∀(ns:AG) (vs:AC),WellAll P h vs (ns.map WData.int)->IntsAre vs ns:=by
 intro ns
 induction ns with
 | nil=>
   intro vs w;cases w;exact .nil
 | cons n ns c=>
   intro vs w
   cases w with
   | cons a b=>
     cases a;exact .cons _ _ (c _ b)
theorem Mb{l:OpenLaw}(t:l.most=some n)(b:l.row.toRowW.claim.pre args=true)(g:WellAll P h e args):
 ∃a vs ns,e=[Value.ref a]/\args=[WData.list (ns.map WData.int)]/\h.get? a=some {cls:=.type "list",data:=.seq vs.toArray}/\IntsAre vs ns/\ns.length<=n:=by
 have s:l.pre.holds [] _=true:=(pre_splitW b).2;obtain⟨d,r,rfl,p,o⟩:=hasAllW_cons ((pre_splitW b).1);obtain rfl:=hasAllW_nil o;obtain⟨v,rfl,m⟩:=hasW_list p;obtain⟨ns,rfl⟩:=items_int m
 have f:ns.length<=n:=by
  have i:(WTm.not (.lt (.lit (.int n)) (.len (.arg 0)))).holds [] {args:=[.list (ns.map .int)]}=true:=by
   have i:=(holds_andW s).1
   ext
  have u:=condW_of i (w_not (w_lt w_lit (w_len_list (w_arg rfl))))
  ext
 cases g with
 | cons q k=>
   cases k
   cases q with
   | list j c=>exact⟨_,_,ns,rfl,rfl,j,Ma ns _ c,f⟩
def Mc(l:OpenLaw)(a:List WData):l.row.toRowW.claim.post a (.bool true) a=true:=
 postW_of
  (by first|rfl|decide|simp[.arms])
  (w_eq_bool (w_res rfl) w_lit) rfl
def attach_call{l:OpenLaw}(M:l.most=some n)(v:d.params.defaults=[])(call:∀(w:World) (c b:Shared) (p S:AE) (h:Addr) (o:Obj) (y m e:Value) (a:Addr) (vs:AC) (ns:AG),
  Ground q loose [] XP w c p S b.heap->YP w b.heap->
  b.heap.get? h=some o->o.data=.func (docDef d.name d.params d.body d.scope y m e)->b.heap.CodeRec m d.name->p d.name=some (.ref h)->
  b.heap.get? a=some {cls:=.type "list",data:=.seq vs.toArray}->IntsAre vs ns->ns.length<=n->b.gens=#[]->
  codeAny (mZ l.prog w) callerA (.call (.ref h) ⟨[.ref a],[]⟩) (λr s'=>r=.ok (.ret (.bool true))/\OldK b.heap s'.heap/\s'.os=b.os/\AllBare s'.gens) b):
 WalkO q loose XP YP l.row.toRowW d [] (λf vs=>PySem.call f vs):=by
 intro w c b p S G Y h o y m e R Q E N u B t L C A P k z F s J;obtain rfl:=Dflts.none B v;obtain rfl:=Dflts.noKw B;obtain⟨a,vs,ns,rfl,rfl,j,g,i⟩:=Mb M k s;refine enter_call (codeAny_mono (call w c b p S h o y m e a vs ns G Y E (fd_plain N) u t j g i L) λr s' K=>?_);obtain⟨rfl,H,I,D⟩:=K;exact⟨.inl ⟨.bool _,.bool _,[],rfl,λ_=>rfl,.bool _,Mc l _,λ_=>⟨.nil,λ_ O=>nomatch O⟩⟩,H,I,D⟩
end Att
namespace L2
variable {h':Heap}{X:Cx}{pins:AB}{pos apos:Pos}{ys:AQ}{tg:Expr}{prog:P7}{K:W7}{dx:Addr}{es:AL}
open PySem PySem.Spec PyProof.Rows
theorem oh:∀{vs:AC}{ns:AG},IntsAre vs ns->Vals (ns.map V.int) vs
 | _,_,.nil=>.nil
 | _,_,.cons n t h=>.cons ⟨t,rfl⟩ (oh h)
def ic(H:Hp):Prop:=∀b,H b=none\/∃o a,H b=some (.frz o (.lst a))
theorem Md{K:W7}(T:K.In c.heap)(t:c.heap.Ns mainGlobals G)(hb:c.heap.Ns builtinsNs mb)(O:∀x:Str,x≠"__name__"->mb x=bootBuiltins x)(p:c.heap.NoLimit)(hg:c.gens=#[])(M:c.heap.get? a=some {cls:=.type "list",data:=.seq vs.toArray})(ua:IntsAre vs ns)(hl:ns.length<=sizeLine)(hr:Room k callerA)(F:∀g:Heap,K.In g->g.Ns mainGlobals G->FnOk P w K G g CX k U fd [x] sp)(l:∀(s:Shared) (u:Value),BindsTo s fd ⟨[u],[]⟩ [(x,u)])(I:∀H:Hp,ic H->SqL K H a (ns.map V.int)->sp [.ref a] H (λv _=>v=.bl true) λ_ _ _=>False)(L:∀H e s',CX [] H c (λ_ _ _=>False) e s'->False):
 codeAny (mZ P w) callerA (.call (.ref U) ⟨[.ref a],[]⟩) (λr s'=>r=.ok (.ret (.bool true))/\OldK c.heap s'.heap/\s'.os=c.os/\AllBare s'.gens) c:=by
 have rv:=oh ua;have R:=ua.length
 have j:∀H,ic H->SqL K H a (ns.map V.int)->HOk P w H c.heap->(∀b,H b≠none->b=a)->(H a≠none->K.lookup a=none)->
  codeAny (mZ P w) callerA (.call (.ref U) ⟨[.ref a],[]⟩) (λr s'=>r=.ok (.ret (.bool true))/\OldK c.heap s'.heap/\s'.os=c.os/\AllBare s'.gens) c:=by
  intro H S Y C hA hK;have f:∀{b:Addr}{o:Obj},c.heap.get? b=some o->H b=none->_:=λe n=>Ln e n
  have N:∀{b:Addr}{o:Obj}{E:Array DictEntry}{D:Nat},c.heap.get? b=some o->o.data=.dict E D->H b=none:=λ{b o E D} e d=>by
   symm
  have i:∀{b:Addr}{m:AE},c.heap.Ns b m->(d6 c.heap H).Ns b m:=λ{b m} ⟨o,E,D,e,d,r⟩=>⟨o,E,D,f e (N e d),d,r⟩
  have B:=λb o e=>f (T b o e) (by
   symm)
  have hM:Mod K G (d6 c.heap H):=⟨B,i t,⟨mb,i hb,O⟩,let ⟨mc,h1,h2⟩:=p;⟨mc,i h1,h2⟩⟩
  have Z:Env0 P w K G (d6 c.heap H) callerA [] c H:=⟨rfl,hM,λb o e=>tP e,Nat.le_of_eq (Lm _ _),trivial,λb hb=>absurd (show b∈([]) from hb) nofun,C,.of_eq hg⟩
  refine codeAny_mono ((F _ B (i t)).run callerA [] c H ⟨[.ref a],[]⟩ [.ref a] [.ref a] _ _ hr Z (l c (.ref a)) (.cons rfl .nil) (I H S Y)) λr s' h=>?_
  cases r with
  | error e=>exact(L H e s' h).elim
  | ok fl=>
    cases fl with
    | next=>exact False.elim h
    | brk=>exact False.elim h
    | cont=>exact False.elim h
    | ret u=>
      obtain⟨v,H',os,A,Q,y,r',q⟩:=h;have q':=q;subst q';obtain rfl:=r';refine⟨rfl,OldK.of_keep λb o e=>?_,os,A⟩
      cases q:H b with
      | none=>exact Q.keep b o e q (by intro z;exact absurd (show b∈([]) from z) nofun) nofun
      | some u=>
        rcases S b with z|⟨ob,xs,z⟩
        .grind
        .have z2:=Q.frzs b ob _ z
         obtain⟨e1,_⟩:=C b _ z;obtain⟨e2,_⟩:=y b _ z2;symm
 cases J:K.lookup a with
 | some o=>
   have e:=T a o J;rw[M]at e;cases e;refine j (λ_=>none) (λ_=>.inl rfl) (.inr ⟨_,vs.toArray,_,J,rfl,rfl,rfl,by ext,by symm⟩) (λb u z=>by symm) (λb z=>absurd rfl z) λz=>absurd rfl z
 | none=>
   refine j (λb=>if b=a then some _ else none) (λb=>?_) (.inl (.inr ⟨{cls:=.type "list",data:=.seq vs.toArray},if_pos rfl⟩)) (λb u z=>?_) (λb z=>?_) λ_=>J
   .grind
   .by_cases hb:b=a
    .have z':=(if_pos hb).symm.trans z
     cases z';subst hb;exact⟨M,by ext,vs,_,rv,M⟩
    ext
   ext
def walk_of{l:W.OpenLaw}{K:Params->W7}{CX:World->fW}{sp:World->Sp}(S:l.most=some n)(A:n<=sizeLine)(t:d.params.defaults=[])(P:Room k callerA)(O:∀(w:World) (h:Heap),YP w h->(K w.params).In h)(F:∀(w:World) (j:AE) (r:Addr) (h:Heap),(K w.params).In h->h.Ns mainGlobals j->j d.name=some (.ref r)->
  ∃z:FuncData,(∀(s:Shared) (u:Value),BindsTo s z ⟨[u],[]⟩ [(x,u)])/\
   ∀c:Heap,(K w.params).In c->c.Ns mainGlobals j->FnOk l.prog w (K w.params) j c (CX w) k r z [x] (sp w))(C:∀(w:World) (H:Hp) (a:Addr) (ns:AG),ns.length<=n->ic H->SqL (K w.params) H a (ns.map V.int)->sp w [.ref a] H (λv _=>v=.bl true) λ_ _ _=>False)(B:∀(w:World) (H:Hp) (s:Shared) (e:Value) (s':Shared),CX w [] H s (λ_ _ _=>False) e s'->False):
 W.WalkO q loose XP YP l.row.toRowW d [] (λf vs=>PySem.call f vs):=by
 refine Att.attach_call S t λw D m j mb r o U T J a vs ns G Y X L R y p i g I=>?_;have E:=O w _ Y;obtain⟨z,Z,M⟩:=F w j r _ E G.T.g y;exact Md E G.T.g G.T.b G.T.builtins G.T.nolimit I p i (Qg g A) P M Z (λH Q N=>C w H a ns g Q N) λH e s'=>B w H m e s'
def inClass(s:Stmt)(j:Nat):Stmt:=match s with
 | .ClassDef _ _ _ a _ _ _ _ _ _ _=>a.getD j (.Pass ⟨0,0,0,0⟩)
 | _=>.Pass ⟨0,0,0,0⟩
def aEa(s:Stmt):Arguments:=match s with
 | .FunctionDef _ a _ _ _ _ _ _ _ _=>a
 | _=>{posonlyargs:=[],args:=[],vararg:=none,kwonlyargs:=[],kw_defaults:=[],kwarg:=none,defaults:=[]}
def aDa(s:Stmt):List Stmt:=match s with
 | .FunctionDef _ _ b _ _ _ _ _ _ _=>b
 | _=>[]
def aBa(s:Stmt):Scope:=match s with
 | .FunctionDef _ _ _ _ _ _ a _ _ _=>a
 | _=>{kind:=.function,names:=[],isGenerator:=false,isCoroutine:=false}
abbrev bK:fW:=λ_ _ _ _ _ _=>False
abbrev E0:XK:=λ_ _ _=>False
def ig:jG bK X E0:=λ_ _ _ _ _ _ _ h=>h.elim
structure Fun(K:W7)(x qual:Str)(st:Stmt)(f:Addr)(fd:FuncData):Prop where
 ex:∃(oc:Value) (od:Option Addr) (kV doc pm:Value) (an:Option Addr) (cdv ct:Value) (osl:Array (Option Value)),
  fd=W.fnOf x qual (aEa st) (aDa st) (aBa st) .none kV doc pm an cdv ct/\K.lookup f=some ⟨oc,od,.func fd,osl⟩/\W.codeIn K cdv qual=true
 kp:W.keepIn K (.ref f)=true
section
variable {P:P7}{w:World}{mg:AE}{base:Heap}
def Fun.ok{st:Stmt}(F:Fun K x c st f n)(S:b9 N z (aBa st))(g:∀vs H Q E,sp vs H Q E->vs.length=z.length)(d:∀(b:Value) (A:Around) (a:List Env) (s:Shared) (H:Hp) (vs:AQ) (Q:VK) (E:XK),Room k (A.deeper (envOfC c (aBa st) (~~~s) f b))->sp vs H Q E->
  ∃t,PSs (bR bK P w K mg base N c (aBa st) f b A a s H E).nox (aDa st) t/\t {nx:=λ_ H'=>Q .non H',rt:=Q} (start N vs) H):FnOk P w K mg base bK (k+1) f n z sp:=by
 obtain⟨p,u,kV,j,v,r,b,y,m,rfl,l,i⟩:=F.ex;refine kP l i S g λA a s H vs Q E o e=>?_;obtain⟨t,h,q⟩:=d b A a s H vs Q E o e;exact⟨t,h.nox,q⟩
def Fun.binds{st:Stmt}(F:Fun K x c st f i)(h:∀(kV a e:Value) (g:Option Addr) (b d:Value) (us:AC),us.length=o.length->bindArgs (W.fnOf x c (aEa st) (aDa st) (aBa st) .none kV a e g b d) ⟨us,[]⟩=pure (o.zip us)):Binds K i o []:=by
 obtain⟨n,m,kV,a,e,g,b,d,k,rfl,l,j⟩:=F.ex;exact .all (h kV a e g b d)
def kX{st:Stmt}{kV d h b g:Value}(l:K.lookup f=some ⟨j,m,.func (W.fnOf x a (aEa st) (aDa st) (aBa st) .none kV d h i b g),e⟩)(c:W.codeIn K b a=true)(k:W.keepIn K (.ref f)=true):Fun K x a st f (W.fnOf x a (aEa st) (aDa st) (aBa st) .none kV d h i b g):=⟨⟨j,m,kV,d,h,i,b,g,e,rfl,l,c⟩,k⟩
end
def kY{A B:Prop}(h:B):if false=true then A else B:=h
def kZ{A B:Prop}(h:A):if true=true then A else B:=h
def Same(H H':Hp):Prop:=∀b o,H b=some o->H' b=some o
def Same.refl(H:Hp):Same H H:=λ_ _ h=>h
def Same.trans(a:Same H e)(b:Same e d):Same H d:=λc o h=>b c o (a c o h)
def Same.free(e:Same H H')(h:H' l=Option.none):H l=Option.none:=by
 cases q:H l with
 | none=>rfl
 | some o=>
   rw[e l o q]at h;cases h
def Same.seq{K:W7}(e:Same H H')(h:SqL K H a xs):SqL K H' a xs:=by
 rcases h with(h|⟨o,h⟩)|h
 .exact .inl (.inl (e _ _ h))
 .exact .inl (.inr ⟨o,e _ _ h⟩)
 .exact .inr h
def bo(env:Env):List (Str×NameKind)->List (Str×Addr)->List (Str×Addr)
 | [],cs=>cs
 | (n,k)::r,cs=>if (k==NameKind.free)=true then (match env.cells.lookup n with|some c=>bo env r ((n,c)::cs)|none=>bo env r cs)else bo env r cs
theorem FZ(h:∀x∈a.names,x.2=NameKind.free->∃c,env.cells.lookup x.1=some c):closureFor a env=pure (bo env a.names []):=by
 have i:∀(l:_) (b:_),(∀x∈l,x.2=.free->∃c,env.cells.lookup x.1=some c)->
  (forIn l b fun(x:Str×_) r=>if (x.2==.free)=true then (do let c <-cellOf env x.1;pure (.yield ((x.1,c)::r)))else pure (.yield r))=(pure (bo env l b)):=by
  intro l
  induction l with
  | nil=>intro b _;rfl
  | cons x l g=>
    intro b d;obtain⟨n,k⟩:=x;by_cases f:k=.free
    .subst f
     obtain⟨c,e⟩:=d _ qh rfl
     have j:cellOf env n=pure c:=by unfold cellOf;rw[e]
     show _=pure (if _ then _ else _)
     ext
    .show _=pure (if _ then _ else _)
     ext
 unfold closureFor;symm
theorem oi:∀(l:List (Str×NameKind)) (d:List (Str×Addr)),(∀x c,(x,c)∈d->env.cells.lookup x=some c)->∀x c,(x,c)∈bo env l d->env.cells.lookup x=some c
 | [],d,h,x,c,e=>h x c e
 | (n,k)::r,d,h,x,c,e=>by
   unfold bo at e
   split at e
   .split at e
    .refine oi r _ (λy b a=>?_) x c e
     symm
    .exact oi r d h x c e
   .exact oi r d h x c e
theorem oj:∀(l:List (Str×NameKind)) (a:List (Str×Addr)) (p:Str×Addr),p∈a->p∈bo env l a
 | [],_,_,h=>h
 | (n,k)::r,a,p,h=>by
   unfold bo
   split
   .split
    .exact oj r _ p (qg _ h)
    .exact oj r _ p h
   .exact oj r _ p h
theorem k0:∀(l:List (Str×NameKind)) (b:List (Str×Addr)) (x:Str) (c:Addr),(x,NameKind.free)∈l->env.cells.lookup x=some c->(x,c)∈bo env l b
 | (n,k)::r,b,x,c,h,a=>by
   rcases qu h with q|q
   .cases q
    unfold bo;rw[a];exact oj r _ _ qh
   .unfold bo
    split
    .split
     .exact k0 r _ x c q a
     .exact k0 r _ x c q a
    .exact k0 r _ x c q a
theorem F0{a:List (Str×Addr)}(h:(x,c)∈a):∃d,a.lookup x=some d:=by
 induction a with
 | nil=>cases h
 | cons p r f=>
   obtain⟨n,b⟩:=p;rw[List.lookup_cons]
   cases e:(x==n)with
   | true=>symm
   | false=>
     ext
structure fN(XN:AK)(xsc:Scope)(N:AK)(src:List AN)(sc:Scope):Prop where
 kind:sc.kind=.function
 xkind:xsc.kind=.function
 cellU:∀y∈sc.names,y.2=NameKind.cell->sc.names.lookup y.1=some NameKind.cell
 names:∀y∈sc.names,y.2=NameKind.local->sc.names.lookup y.1=some NameKind.local
 len:src.length=N.length
 nd:N.Nodup
 cap:∀(i j:Nat) (x:Str),N[i]?=some x->src[i]?=some (some j)->XN[j]?=some x/\sc.names.lookup x=some NameKind.free
 fr:∀y∈sc.names,y.2=NameKind.free->xsc.names.lookup y.1=some NameKind.cell\/xsc.names.lookup y.1=some NameKind.free
def fq(b:AK)(a:Scope):AK->List AN->Bool
 | [],[]=>true
 | x::N,none::src=>fq b a N src
 | x::N,some j::src=>decide (b[j]?=some x)&&decide (a.names.lookup x=some NameKind.free)&&fq b a N src
 | _,_=>false
theorem wH:∀{N:AK}{c:List AN},fq b a N c=true->c.length=N.length
 | [],[],_=>rfl
 | _::N,none::c,h=>by
   have:=wH (N:=N) h;simp[this]
 | _::N,some j::c,h=>by
   replace h:(_&&_)=true:=h;simp [Qe]at h;have:=wH h.2;simp[this]
 | [],_::_,h=>Bool.noConfusion h
 | _::_,[],h=>Bool.noConfusion h
theorem wI:∀{N:AK}{e:List AN},fq b a N e=true->∀(i j:Nat) (x:Str),N[i]?=some x->e[i]?=some (some j)->b[j]?=some x/\a.names.lookup x=some NameKind.free
 | [],[],_,i,j,x,h,_=>by simp at h
 | _::N,none::e,h,i,j,x,d,c=>by
   cases i with
   | zero=>simp at c
   | succ i=>exact wI (N:=N) h i j x (by ext) (by ext)
 | y::N,some k::e,h,i,j,x,d,c=>by
   replace h:(_&&_)=true:=h;simp [Qe]at h
   cases i with
   | zero=>
     ext
   | succ i=>exact wI h.2 i j x (by ext) (by ext)
 | [],_::_,h,_,_,_,_,_=>Bool.noConfusion h
 | _::_,[],h,_,_,_,_,_=>Bool.noConfusion h
def ij(c:AK)(a:Scope)(N:AK)(d:List AN)(b:Scope):Bool:=
 decide (b.kind=.function)&&decide (a.kind=.function)&&b.names.all (λy=>decide (y.2=.cell->b.names.lookup y.1=some .cell))&&b.names.all (λy=>decide (y.2=.local->b.names.lookup y.1=some .local))&&
  decide N.Nodup&&fq c b N d&&b.names.all (λy=>decide (y.2=.free->a.names.lookup y.1=some .cell\/a.names.lookup y.1=some .free))
def Me(h:ij e a N l g=true):fN e a N l g:=by
 unfold ij at h;simp only[Qe,wj,List.all_eq_true]at h;obtain⟨⟨⟨⟨⟨⟨i,d⟩,k⟩,c⟩,j⟩,b⟩,f⟩:=h;exact⟨i,d,k,c,wH b,j,wI b,f⟩
abbrev Yw(X:Cx)(a:Scope)(N:AK)(b:List (Str×Addr))(C:Addr)(c:List Addr)(s:Shared)(H:Hp):Cx where
 prog:=X.prog
 w:=X.w
 K:=X.K
 mg:=X.mg
 base:=X.base
 A:=X.A
 N:=N
 s₀:=s
 H₀:=H
 env:=compEnvC a b C X.env
 outer:=X.stack
 stack:=X.stack
 ex:=c
 fn:=λx=>a.names.lookup x==some .cell
 calm:=X.calm
 pn:=[]
 xe:=λ_ _=>False
def dq(a:List AN)(σ:St):St:=a.map λo=>o.bind λj=>σ[j]?.join
def dJ(X:Cx)(a:AL)(t:TT):Prop:=
 ∀(d:List _) (s:Shared) (e:St) (H:Hp) (Q:Bool->Hp->Prop),Inv X d e H s->t e H Q->
  Zh X (forIn a true λc r=>if r=true then do let b <-isTrue c X.env (eval c X.env);pure (.yield b)else pure (.yield r)) (TP X d e Q) X.xe s
def k4:TT:=λ_ H Q=>Q true H
def wJ:dJ X [] k4:=λ_ _ _ H _ I h=>wpAny_tests_nil ⟨H,I,h⟩
def wK(n:TI)(r:List AN)(g:TG)(q:TT)(l:TE):TE:=λt H Q=>n t H λJ f=>∀p,f p=none->
 ∃W:Nat->Nat->St->Hp->Prop,(∃m,W 0 m (dq r t) (upd f p (.lst [])))/\∀i m c e,W i m c e->
  (J.stop i e/\Q (.ref p) e)\/
  (J.go i e/\∀x h,J.yld i e x h->g x c h λa o=>q a o λb j=>if b=true then l a j λv k=>∃s,k p=some (.lst s)/\s.length<sizeLine/\∃d,d<m/\W (i+1) d a (upd k p (.lst (s++[v])))else ∃d,d<m/\W (i+1) d a j)
section
variable {w:World}{A:Around}{R:Result->Shared->Prop}{s:Shared}{elt iter:Expr}{ifs:AL}{scope:Scope}{wi:TI}{g:TG}{ti:TT}{te:TE}{N:AK}{src:List AN}
theorem Mf(I:Nat->Shared->Prop)(u:∀n s,I n s->wpAny (mZ prog w) A (pyNext y) (λr a=>match r with
  | none=>R (.ok .next) a
  | some v=>wpAny (mZ prog w) A (letOwnedTupleGo b y v) (λ_ a=>wpAny (mZ prog w) A (assign b env v) (λ_ l=>
   wpAny (mZ prog w) A (forIn ifs true λc r=>if r=true then do let ok <-isTrue c env (eval c env);pure (ForInStep.yield ok)else pure (ForInStep.yield r)) (λok f=>
    if ok=true then wpAny (mZ prog w) A (eval elt env) (λx j=>
     wpAny (mZ prog w) A (call (.builtin "list.append") [t,x]) (λ_ k=>∃m,m<n/\I m k) (notedBy (mZ prog w) A env λe s'=>R (.error e) s') j) (notedBy (mZ prog w) A env λe s'=>R (.error e) s') f
    else ∃m,m<n/\I m f) (notedBy (mZ prog w) A env λe s'=>R (.error e) s') l) (notedBy (mZ prog w) A env λe s'=>R (.error e) s') a) (notedBy (mZ prog w) A env λe s'=>R (.error e) s') a) (notedBy (mZ prog w) A env λe s'=>R (.error e) s') s)(n:Nat)(h:I n s):
 codeAny (mZ prog w) A (.compLoop (.ListComp elt [⟨b,iter,ifs,0⟩] scope pos) 0 y t env) R s:=by
 refine codeAny_loop rfl I (λn s z=>?_) n h;show wpAny _ A _ _ _ s;refine wpAny_noted ?_;rw[compTurn_list];refine wa (wpAny_standAt (wa (w6 (u n s z) (λr a d=>?_) λ_ _ g=>g)))
 cases r with
 | none=>exact wc d
 | some v=>
   refine wa (w6 d (λ_ a d=>wa (w6 d (λ_ l o=>wa (w6 o (λok f i=>?_) λ_ _ g=>g)) λ_ _ g=>g)) λ_ _ g=>g)
   cases ok with
   | false=>exact wc ⟨rfl,i⟩
   | true=>
     exact wa (wa (w6 i (λx j q=>wa (w6 q (λ_ k p=>wc (wc ⟨rfl,p⟩)) λ_ _ g=>g)) λ_ _ g=>g))
theorem Mg(h:scope.names.lookup x=some NameKind.free)(a:env.kindOf x=some NameKind.cell\/env.kindOf x=some NameKind.free):
 (relabel scope env).names.lookup x=some NameKind.cell\/(relabel scope env).names.lookup x=some NameKind.free:=by
 unfold relabel;generalize scope.names=l at h
 induction l with
 | nil=>cases h
 | cons p r b=>
   symm
theorem Mh(h:(relabel scope env).names.lookup x=some NameKind.cell\/(relabel scope env).names.lookup x=some NameKind.free):
 (x,NameKind.free)∈scope.names\/(x,NameKind.cell)∈scope.names:=by
 unfold relabel at h
 revert h
 generalize scope.names=l
 induction l with
 | nil=>simp
 | cons p r a=>
   symm
theorem k5:∀(b:List (Str×NameKind)) (n:Nat) (a:List (Str×Addr)),cellsFrom n b a=cellsFrom n b []++a
 | [],_,_=>rfl
 | (x,k)::r,n,a=>by
   unfold cellsFrom
   split
   .rw[k5 r _ _,k5 r _ [(x,n)],jb];rfl
   .exact k5 r n a
theorem wL:∀(a:List (Str×NameKind)) (n:Nat) (x:Str) (c:Addr),(x,c)∈cellsFrom n a []->(x,NameKind.cell)∈a
 | [],_,_,_,h=>nomatch h
 | (y,k)::r,n,x,c,h=>by
   unfold cellsFrom at h
   split at h
   .rw[k5]at h
    rcases qw h with h|h
    .exact qg _ (wL r _ x c h)
    ext
   .exact qg _ (wL r n x c h)
theorem F3{a b:List (Str×Addr)}:(a++b).lookup x=(a.lookup x).or (b.lookup x):=by symm
theorem il{a b:List (Str×Addr)}(h:(a++b).lookup x=some c):a.lookup x=some c\/(a.lookup x=none/\b.lookup x=some c):=by
 rw[F3]at h
 ext
def Mi(h:Q (newEnv scope (~~~s) a (cellsFrom (~~~s+1) scope.names []++i) c none .none (some b) f) {s with heap:=pushCells (s.heap.push {cls:=.type "dict",data:=.dict #[]}) scope.names}):
 wpAny M A (newFunctionEnv scope a i [] c none .none (some b) f) Q E s:=by
 refine wa (wpAny_alloc (wa (wpAny_layCells _ (λg e d=>by simp) _ _ _ _ ?_)));rw[wy ..,k5];exact wa (wc (wc h))
theorem Mj{σ:St}(S:fN X.N X.env.scope N src scope)(I:Inv X pins σ H s)(M:∀b∈fp,cJ X pins H b)(ho:∀b∈fp,∃o,s.heap.get? b=some o)(hn:n.Ns (~~~s) λ_=>none)(O:∀b o,s.heap.get? b=some o->n.get? b=some o)(t:CellsOk n (~~~s+1) f)(R:∀x c,(x,c)∈f->(x,NameKind.cell)∈scope.names)(E:∀x,scope.names.lookup x=some NameKind.cell->∃c,f.lookup x=some c):
 Inv (Yw X scope N (f++bo X.env scope.names []) (~~~s) fp s H) [] (dq src σ) H {s with heap:=n,toks:=tk}:=by
 have h:∀x c,(bo X.env scope.names []).lookup x=some c->X.env.cells.lookup x=some c:=λx c e=>oi scope.names [] (λ_ _ z=>nomatch z) x c (PySem.mem_of_lookup e)
 have clt:∀x c,(bo X.env scope.names []).lookup x=some c->c< ~~~s:=λx c e=>by
  obtain⟨v,q⟩:=I.cell x c (h x c e);exact q.lt
 have V:∀x c,f.lookup x=some c->(~~~s)<c:=λx c e=>(t.empty x c (PySem.mem_of_lookup e)).2
 have L:∀x,scope.names.lookup x=some NameKind.free->f.lookup x=none:=λx J=>by
  cases e:f.lookup x with
  | none=>rfl
  | some c=>
    have:=S.cellU _ (R x c (PySem.mem_of_lookup e)) rfl;symm
 have T:∀b∈fp,b< ~~~s:=λb g=>by
  obtain⟨o,e⟩:=ho b g;exact ql e
 have U:∀b∈fp,b∉eQ X.stack:=λb g z=>by
  rcases qu (I.stkSub b z)with e|e
  .exact(M b g).2.1 e
  .exact(M b g).2.2.1 e
 refine⟨⟨I.ok.mod,S.kind,I.ok.glob,I.ok.blt,qv _,λx y c C k=>?_,λx J=>?_,λx c z e=>?_,I.ok.hd,I.ok.frames,.inl rfl,λb g=>⟨qm (T b g),λx c e=>?_⟩,
  I.bs,Qg I.ok.bsz I.sz,λb o e g=>?_,U,I.stack,I.stkFree⟩,rfl,I.bare,Un.kept O,⟨_,hn,λi x v C k h3=>?_⟩,λx c e=>?_,I.fresh,λx c e=>?_,λp hp=>(nomatch hp),I.hok.kept O,?_⟩
 .rcases il C with C|⟨_,C⟩
  .rcases il k with k|⟨_,k⟩
   .exact name_of_addr t.apart (PySem.mem_of_lookup C) (PySem.mem_of_lookup k)
   symm
  .rcases il k with k|⟨_,k⟩
   .grind
   .exact I.ok.inj x y c (h x c C) (h y c k)
 .show ∃c,(f++bo X.env scope.names []).lookup x=some c
  rw[F3]
  cases e:f.lookup x with
  | some c=>symm
  | none=>
    rcases Mh J with P|P
    .obtain⟨c,t⟩:=I.ok.has x (S.fr _ P rfl)
     exact F0 (k0 scope.names [] x c P t)
    .obtain⟨c,t⟩:=E x (S.cellU _ P rfl)
     symm
 .have z':scope.names.lookup x=some NameKind.cell:=by simpa using z
  obtain⟨d,Y⟩:=E x z';rcases il e with e|⟨e,_⟩
  .grind
  ext
 .rcases il e with e|⟨_,e⟩
  .grind
  .exact(M b g).2.2.2.2.1 x c (h x c e)
 .rcases(M b g).2.2.2.1 with z|z
  .exact I.ok.noex b o e z
  .exact absurd (Qi (ql e) (Qg I.ok.bsz z)) (Nat.lt_irrefl _)
 .have hi:i<src.length:=by
   have:=(qo k).1;unfold dq at this
   ext
  have A:src[i]?=some src[i]:=qr hi;unfold dq at k;rw[Qm,A]at k;have F:(src[i].bind λj=>(σ[j]?).join)=some v:=w9 k;cases q:src[i]with
  | none=>ext
  | some j=>
    rw[q]at F A;have W:(σ[j]?).join=some v:=F;obtain⟨J,D⟩:=S.cap i j x C A;obtain⟨m,_,Z⟩:=I.loc;have G:X.env.kindOf x=some NameKind.cell\/X.env.kindOf x=some NameKind.free:=S.fr (x,NameKind.free) (PySem.mem_of_lookup D) rfl
    have Q:σ[j]?=some (some v):=by
     symm
    obtain⟨u,r,l⟩:=Z j x v J Q (.inr G);refine⟨u,r,.inr ⟨Mg D G,?_⟩⟩;rcases l with⟨z,_⟩|⟨_,c,t,B⟩
    .simp_all
    .obtain⟨d,Y⟩:=F0 (k0 (env:=X.env) scope.names [] x c (PySem.mem_of_lookup D) t)
     have K:=h x d Y;rw[t]at K;cases K;refine⟨c,?_,B.keeps O⟩;show(f++bo X.env scope.names []).lookup x=some c;symm
 .rcases il e with e|⟨_,e⟩
  .exact⟨_,(t.empty x c (PySem.mem_of_lookup e)).1⟩
  .obtain⟨v,q⟩:=I.cell x c (h x c e)
   exact⟨v,q.keeps O⟩
 .rcases il e with e|⟨_,e⟩
  .exact I.hok.fresh (Nat.le_of_lt (V x c e))
  .exact I.freeC x c (h x c e)
 .unfold dq
  rw[qf];exact S.len
def Ml{σ c:St}(I:Inv X pins σ H s)(a:∀b∈d,cJ X pins H b)(J:Inv (Yw X scope N f C d s H) e c H' s'):Inv X pins σ H' s':=
 I.call' J.os J.base J.hok J.bare λb g=>⟨(a b g).2.2.2.1,(a b g).2.1,(a b g).2.2.2.2.1,(a b g).2.2.2.2.2⟩
theorem F4{σ:St}{Q:VK}{R:Value->Addr->Result->Shared->Prop}(S:fN X.N X.env.scope N src scope)(hc:X.calm=true)(hg:∀cl C k s H,PG (Yw X scope N cl C k s H) tg g)(hi:∀cl C k s H,dJ (Yw X scope N cl C k s H) ifs ti)(he:∀cl C k s H,PE (Yw X scope N cl C k s H) elt te)(I:Inv X pins σ H s)(T:d7 X.prog X.w X.K tg J k it tn)(st:tn 0 s.heap)(hf:∀b∈k,cJ X pins H b)(h:∀p,H p=none->∃W:Nat->Nat->St->Hp->Prop,(∃m,W 0 m (dq src σ) (upd H p (.lst [])))/\∀i m σ1 H2,W i m σ1 H2->
  (J.stop i H2/\Q (.ref p) H2)\/
  (J.go i H2/\∀x G,J.yld i H2 x G->g x σ1 G λP H4=>ti P H4 λb H5=>if b=true then te P H5 λv H6=>∃xs,H6 p=some (.lst xs)/\xs.length<sizeLine/\∃B,B<m/\W (i+1) B P (upd H6 p (.lst (xs++[v])))else ∃B,B<m/\W (i+1) B P H5))(hR:∀(D C:Addr) (s':Shared) (H':Hp) (m:AE),Inv X pins σ H' s'->s'.heap.Ns C m->H' C=none->C≠X.env.locals->X.s₀.heap.objs.size<=C->(∀x c,X.env.cells.lookup x=some c->c≠C)->(∀p∈X.pn++pins,p.1≠C)->Q (.ref D) H'->R (.ref D) C (.ok .next) s'):
 Zh X (newList []) (λacc s₃=>Zh X (newFunctionEnv scope X.env.globals (bo X.env scope.names []) [] X.env.qual none .none (some X.env)) (λV s₄=>
  codeAny (mZ X.prog X.w) X.A (.compStart (.ListComp elt [⟨tg,iter,ifs,0⟩] scope pos) 0 (.ref it) acc {V with scope:=relabel scope X.env}) (R acc V.locals) s₄) E s₃) E s:=by
 refine wf (Mi ?_);have hfree:H (~~~s)=none:=I.fresh;obtain⟨W,⟨m0,w0⟩,turn⟩:=h (~~~s) hfree;have I3:Inv X pins σ (upd H (~~~s) (.lst [])) {s with heap:=s.heap.push {cls:=.type "list",dict:=none,data:=.seq ([]:AC).toArray},toks:=s.toks}:=I.lnew (ys:=[]) (its:=[]) .nil (Qh _);generalize hD:(~~~s)=O at *;generalize hH3:upd H O (.lst [])=G at *;have kp0:∀b o,s.heap.get? b=some o->(s.heap.push {cls:=.type "list",dict:=none,data:=.seq ([]:AC).toArray}).get? b=some o:=λb o e=>qe _ e
 have lt0:∀b o,s.heap.get? b=some o->b≠O:=λb o e=>by rw[<-hD];exact qm (ql e)
 generalize hs3:s.heap.push {cls:=.type "list",dict:=none,data:=.seq ([]:AC).toArray}=a at *
 have f3:∀b∈k,cJ X pins G b:=λb w=>by
  obtain⟨o,e,_⟩:=T.obj _ _ st b w;refine⟨?_,(hf b w).2⟩;rw[<-hH3,Yh (lt0 b o e)];exact(hf b w).1
 have ob3:∀b∈k,∃o,a.get? b=some o:=λb w=>by
  obtain⟨o,e,_⟩:=T.obj _ _ st b w;symm
 dsimp only;have L:(pushCells (a.push {cls:=.type "dict",data:=.dict #[]}) scope.names).Ns a.objs.size (λ_=>none):=(Heap.Ns.new a (.type "dict")).keeps (pushCells_keeps _ _);have old:∀b o,a.get? b=some o->(pushCells (a.push {cls:=.type "dict",data:=.dict #[]}) scope.names).get? b=some o:=λb o e=>pushCells_keeps _ _ b o (qe _ e);have cok:=cellsFrom_ok scope.names (a.push {cls:=.type "dict",data:=.dict #[]}) (a.objs.size+1) [] ⟨λ_ _ hm=>(nomatch hm),List.Pairwise.nil⟩ (by ext);rw[wy]at cok;have chas:∀x,scope.names.lookup x=some NameKind.cell->∃c,(cellsFrom (a.objs.size+1) scope.names []).lookup x=some c:=λx hx=>Option.isSome_iff_exists.mp (PySem.W.cellsFrom_some _ _ _ (.inl hx));have cmem:∀x c,(x,c)∈cellsFrom (a.objs.size+1) scope.names []->(x,NameKind.cell)∈scope.names:=λx c h=>wL _ _ x c h;generalize cellsFrom (a.objs.size+1) scope.names []=l,pushCells (a.push {cls:=.type "dict",data:=.dict #[]}) scope.names=U at *
 have I4:=
  Mj (s:={s with heap:=a,toks:=s.toks}) (tk:=s.toks) S I3 f3 ob3 L old cok cmem chas
 have st4:tn 0 U:=T.keep _ _ _ st λb _ o e=>old b o (kp0 b o e);have hCl:a.objs.size≠X.env.locals:=Nat.ne_of_gt I3.lt
 have hCc:∀x c,X.env.cells.lookup x=some c->c≠a.objs.size:=λx c e=>by
  obtain⟨v,q⟩:=I3.cell x c e;exact qm q.lt
 have hCp:∀p∈X.pn++pins,p.1≠a.objs.size:=λp hp=>qm (ql (I3.pin p hp).1)
 have F:∀{H':Hp},(∀b∈k,H' b=none)->∀b∈k,cJ (Yw X scope N (l++bo X.env scope.names []) a.objs.size k {s with heap:=a,toks:=s.toks} G) [] H' b:=λ{H'} hn b w=>by
  obtain⟨e1,e2⟩:=I4.ok.exf b w;exact⟨hn b w,e1,I4.ok.exfs b w,.inl w,e2,λp hp=>nomatch hp⟩
 have Y:codeAny (mZ X.prog X.w) X.A (.compLoop (.ListComp elt [⟨tg,iter,ifs,0⟩] scope pos) 0 (.ref it) (.ref O) (compEnvC scope (l++bo X.env scope.names []) a.objs.size X.env)) (R (.ref O) a.objs.size) {s with heap:=U,toks:=s.toks}:=by
  refine Mf (λn s'=>∃i A H',Inv (Yw X scope N (l++bo X.env scope.names []) a.objs.size k {s with heap:=a,toks:=s.toks} G) [] A H' s'/\tn i s'.heap/\(∀b∈k,H' b=none)/\W i n A H') ?_ m0 ⟨0,_,G,I4,st4,λb w=>(f3 b w).1,w0⟩;rintro n s3 ⟨i,M,K,I3',st3,fr3,w3⟩;rcases turn i n M K w3 with⟨stop,qn⟩|⟨go,step⟩
  .refine aF (T.done (Yw X scope N (l++bo X.env scope.names []) a.objs.size k {s with heap:=a,toks:=s.toks} G) rfl rfl rfl hc i [] s3 M K _ I3' (F fr3) st3 stop) λr s4 j=>?_
   obtain⟨hr,I5⟩:=j;subst hr;obtain⟨m,hm,_⟩:=I5.loc;exact hR O a.objs.size s4 K m (Ml I3 f3 I5) hm I5.free hCl (Qg I3.sz (qv _)) hCc hCp qn
  .refine aF (T.item (Yw X scope N (l++bo X.env scope.names []) a.objs.size k {s with heap:=a,toks:=s.toks} G) rfl rfl rfl hc i [] s3 M K _ I3' (F fr3) st3 go) λr s4 j=>?_
   obtain⟨u,hr,h4⟩:=j;subst hr;refine aF h4 λ_ s5 j=>?_;obtain⟨x,H5,I5,r5,y5,st5,fr5⟩:=j;have I5':=I5.pinned (F fr5) (T.obj _ _ st5);have un:∀{α:Type}{t:Sem α}{Q':α->Shared->Prop}{E':AA}{s':Shared},Zh X t Q' (λ_ _=>False) s'->Zh X t Q' E' s':=λh=>w6 h (λ_ _ q=>q) λ_ _ f=>f.elim;refine un (aF (hg _ _ _ _ _ _ s5 M H5 x u _ I5' r5 (step x H5 y5)) λ_ s6 j=>?_);obtain⟨z,H6,I6,q6⟩:=j;refine un (aF (hi _ _ _ _ _ _ s6 z H6 _ I6 q6) λok s7 j=>?_);obtain⟨H7,I7,q7⟩:=j
   have again:∀{Z:Hp}{s8:Shared}{B:Nat},B<n->Inv (Yw X scope N (l++bo X.env scope.names []) a.objs.size k {s with heap:=a,toks:=s.toks} G) ([]++n5 k s5.heap) z Z s8->W (i+1) B z Z->
    ∃m,m<n/\∃i A H',Inv (Yw X scope N (l++bo X.env scope.names []) a.objs.size k {s with heap:=a,toks:=s.toks} G) [] A H' s8/\tn i s8.heap/\(∀b∈k,H' b=none)/\W i m A H':=λ{Z s8 B} hm I8 w8=>by
    refine⟨B,hm,i+1,z,Z,I8.unpinned,T.keep _ _ _ st5 λb w o e=>(I8.pin (b,o) (Qr _ (Qr _ (n6 w e)))).1,λb w=>?_,w8⟩;obtain⟨o,e,d⟩:=T.obj _ _ st5 b w;exact(I8.pin (b,o) (Qr _ (Qr _ (n6 w e)))).2.1
   cases ok with
   | false=>
     symm
   | true=>
     rw[if_pos rfl]at q7 ⊢;refine un (aF (he _ _ _ _ _ _ s7 z H7 _ I7 q7) λy s8 j=>?_);obtain⟨v,Z,I8,r8,q8⟩:=j;obtain⟨xs,e8,z8,B,hm,w8⟩:=q8;refine un (aF (wG _ s8 z Z (.ref O) [v] (.ref O) [y] (λ_ H9=>H9=upd Z O (.lst (xs++[v]))) I8 rfl (.cons r8 .nil) ⟨O,xs,v,rfl,rfl,e8,z8,rfl⟩) λ_ s9 j=>?_);obtain⟨_,H9,I9,_,q9⟩:=j;symm
 exact codeAny_compStart_list Y (T.self _ _ _ _ _ st4 Y)
def wM(S:fN X.N X.env.scope N src scope)(M:X.calm=true)(l:PI X tg iter wi)(P:∀c C a s H,PG (Yw X scope N c C a s H) tg g)(t:∀c C a s H,dJ (Yw X scope N c C a s H) ifs ti)(O:∀c C a s H,PE (Yw X scope N c C a s H) elt te)(hs:∀x,foldedSetIterable iter X.env x=pure x:=by intro _;rfl):PE X (.ListComp elt [⟨tg,iter,ifs,0⟩] scope pos) (wK wi src g ti te):=by
 intro w s σ H Q I h;refine wpAny_comprehension_free rfl hs (FZ λy K F=>I.ok.has y.1 (S.fr y K F)) S.kind S.names (aF (l _ s σ H _ I h) λv Y r=>aF r λU W j=>?_);obtain⟨V,a,Z,J,H2,e,u,T,i,G,q⟩:=j;subst e
 exact F4 S M P t O u T i G q λD C s' R m B p E k d n f z=>⟨m,p,λh' L=>⟨.ref D,R,B.turned (λb o A e=>(L.2 b A).trans e) E k (.inr d) n f,rfl,z⟩⟩
theorem wN{M c:Pos}(S:fN X.N X.env.scope N src scope)(hc:X.calm=true)(u:PI X tg iter wi)(Z:∀f C d s H,PG (Yw X scope N f C d s H) tg g)(hi:∀f C d s H,dJ (Yw X scope N f C d s H) ifs ti)(Q:∀f C d s H,PE (Yw X scope N f C d s H) elt te)(O:X.N.Nodup)(F:X.N[i]?=some y)(V:eG X.env.scope y)(p:swapsWith (.ListComp elt [⟨tg,iter,ifs,0⟩] scope pos) (some (.Name y M)) c.line X.env=pure true)(G:X.fn y=true\/X.env.scope.names.lookup y=some .local:=by trivial)(hs:∀x,foldedSetIterable iter X.env x=pure x:=by intro _;rfl):PS X (.Assign [.Name y M] (.ListComp elt [⟨tg,iter,ifs,0⟩] scope pos) c) (e_ (wK wi src g ti te) (jE i)):=by
 intro w s A H D I h;rw[exec_Assign_Name_used _ _ _ _ p];refine wa (wpAny_standAt (wa (wa (w6 (wpAny_comprehension_free rfl hs (FZ λy F G=>I.ok.has y.1 (S.fr y F G)) S.kind S.names (aF (u _ s A H _ I h) λv s1 h1=>aF h1 λitv s2 B=>?_)) (λ_ s' n=>wc (wc n)) λ_ _ e=>e))));obtain⟨it,d,tn,J,H2,e,I2,T,r,U,q⟩:=B;subst e;refine F4 (Q:=λx H1=>jE i x A H1 _) S hc Z hi Q I2 T r U q λDd C s' H' m Y hm P z j k E n=>wpAny_assign_Name (Fe Y O F V (v:=.ref Dd) rfl (λs'' t K=>?_) G);obtain⟨a,W,ha⟩:=K
 have L:C≠a:=by
  symm
 exact⟨m,hm.sameBut W L,λh' l=>⟨_,H',t.turned (λb o R e=>(l.2 b R).trans e) P z (.inr j) k E,n⟩⟩
end
end L2
namespace M
variable {prog:P7}{s:Shared}{K:W7}{H0 G0:Hp}{X:Cx}{es rest ifs elts:AL}{fa fk f2 fo:AW}{pos pos' px pos2 p3 pos3 pos4 apos p1 cpos np:Pos}{pins:AB}{fd:AV}{gl:AX}{st:Stmt}{sts:List Stmt}{tg elt iter ie ke e2:Expr}{scope:Scope}{mg:AE}{base:Heap}{x1:Nat}
open PySem PySem.Spec PyProof.Rows L2
def bY(xs:Array Nat):Prop:=xs.toList.Pairwise (·<·)
theorem wO(f:bY xs)(j:Nat):∀(a lo b:Nat),lo<=b->b<=xs.size->b-lo<=a->
 (∀(i:Nat) (h:i<xs.size),i<lo->xs[i]<j)->(∀(i:Nat) (h:i<xs.size),b<=i->j<=xs[i])->
 SetTable.below.go xs j a lo b<=xs.size/\(∀(i:Nat) (h:i<xs.size),i<SetTable.below.go xs j a lo b->xs[i]<j)/\(∀(i:Nat) (h:i<xs.size),SetTable.below.go xs j a lo b<=i->j<=xs[i])
 | 0,lo,b,p,l,t,g,n=>by
   rw[SetTable.below.go];symm
 | a+1,lo,b,p,l,t,g,n=>by
   have m:∀(i k:Nat) (b:i<xs.size) (s:k<xs.size),i<k->xs[i]<xs[k]:=λi k b s h=>by
    have:=List.pairwise_iff_getElem.mp f i k (by ext) (by ext) h
    ext
   rw[SetTable.below.go];by_cases r:lo<b
   .rw[if_pos r]
    have u:(lo+b)/2<xs.size:=by lia
    have q:xs.getD ((lo+b)/2) j=xs[(lo+b)/2]:=by ext
    dsimp only;rw[q];by_cases c:xs[(lo+b)/2]<j
    .rw[if_pos c]
     refine wO f j a _ _ ∅ l (by ext<;>lia) (λi d o=>?_) n;by_cases e:i=(lo+b)/2
     .simp_all
     symm
    .rw[if_neg c]
     refine wO f j a _ _ ∅ ∅ (by ext<;>lia) g (λi d o=>?_);by_cases e:i=(lo+b)/2
     .subst e;ext
     symm
   symm
theorem F5(l:bY xs)(j:Nat):SetTable.below xs j<=xs.size/\(∀a∈xs.toList.take (SetTable.below xs j),a<j)/\(∀a∈xs.toList.drop (SetTable.below xs j),j<=a):=by
 obtain⟨k,f,g⟩:=wO l j xs.size 0 _ (Qh _) (qv _) ∅ (λi _ h=>absurd h (Nat.not_lt_zero _)) (λi h n=>absurd h ∅);have e:SetTable.below xs j=SetTable.below.go xs j _ 0 _:=rfl;refine⟨k,λa b=>?_,λa b=>?_⟩
 .obtain⟨i,d,rfl⟩:=List.mem_iff_getElem.mp b
  rw[List.length_take]at d
  have c:i<xs.size:=by ext<;>lia
  rw[List.getElem_take];exact f i c (by ext)
 .obtain⟨i,d,rfl⟩:=List.mem_iff_getElem.mp b
  rw[List.length_drop]at d
  have m:xs.toList.length=xs.size:=by simp
  rw[List.getElem_drop];exact g _ (by ext<;>lia) (by ext)
def Ys(xs:Array a)(p:Nat)(x:a):(SetTable.insertAt xs p x).toList=xs.toList.take p++x::xs.toList.drop p:=by
 unfold SetTable.insertAt;simp[Array.toList_extract];exact List.take_of_length_le nofun
theorem F6(d:bY xs)(j:Nat)(e:xs[SetTable.below xs j]?≠some j):bY (SetTable.insertAt xs (SetTable.below xs j) j):=by
 obtain⟨n,k,f⟩:=F5 d j;unfold bY at d ⊢;rw[Ys];generalize q:SetTable.below xs j=p at n k f e ⊢;rw[<-Array.getElem?_toList]at e;generalize xs.toList=l at d k f e ⊢;rw[<-List.take_append_drop p l,List.pairwise_append]at d;obtain⟨o,h,s⟩:=d
 have m:∀a∈l.drop p,j<a:=by
  cases i:l.drop p with
  | nil=>symm
  | cons b r=>
    rw[i]at h f
    have t:l[p]?=some b:=by
     have:(l.drop p)[0]?=some b:=by rw[i];rfl
     symm
    have c:=Nat.lt_of_le_of_ne (f b qh) (λz=>e (by rw[t,z]));intro a g;rcases qu g with rfl|g
    .exact c
    .exact Nat.lt_trans c ((List.pairwise_cons.mp h).1 a g)
 rw[List.pairwise_append]
 ext
theorem F7{t:SetTable}(h:∀i,t.slot j≠.live i):t.place[SetTable.below t.place j]?≠some j:=λz=>by
 refine h (SetTable.below t.place j) ?_;unfold SetTable.slot
 ext
theorem wQ:∀(a:Nat) (p:SetTable.Probe) {j:Nat}{d:AN},(∀x,p.dummy=some x->∀i,t.slot x≠.live i)->
 SetTable.probe.go t g h a p=some (.empty j d)->∀i,t.slot (d.getD j)≠.live i
 | 0,p,j,d,_,e=>by cases e
 | a+1,p,j,d,f,e=>by
   rw[SetTable.probe.go]at e
   split at e
   .cases k:p.dummy with
    | none=>symm
    | some x=>symm
   .refine wQ a _ (λx b i=>?_) e
    have c:x=p.j:=by
     unfold SetTable.advance at b;symm
    symm
   .split at e
    .cases e
    .refine wQ a _ (λx b i=>f x ?_ i) e
     unfold SetTable.advance at b;symm
def Tab(a:Bool)(t:SetTable):Prop:=(a=false->t.led=true)/\(t.plain=true->bY t.place)
def Tab.standIn(h:Tab a t)(n:Nat):Tab a (t.standIn n):=⟨h.1,λz=>nomatch z⟩
def Tab.off(h:Tab a t):Tab a {t with plain:=false}:=⟨h.1,λz=>nomatch z⟩
def Tab.fresh:Tab a (.fresh 0 0 (!a)):=⟨λh=>by subst h;rfl,λ_=>.nil⟩
def Tab.layNew(h:Tab g t)(i:Array (Int×Value))(e:Int)(x:Value):Tab g (PySem.layNew t i e x).2.1:=by
 unfold PySem.layNew
 split
 .rename_i b l c
  dsimp only;unfold SetTable.orStandIn
  split
  .refine⟨h.1,λz=>F6 (h.2 z) b (F7 ?_)⟩
   unfold SetTable.freeSlot at c
   split at c
   .rename_i j d k
    cases c;exact wQ _ _ (λx f=>by simp[SetTable.probeStart]at f) k
   .cases c
  .exact⟨h.1,λz=>nomatch z⟩
 .exact h.standIn _
theorem wR{led plain:Bool}(h:SetTable.laid mask finger moves led plain hs=some (t,o)):bY t.place/\t.led=led/\t.plain=plain:=by
 obtain⟨f,_,h⟩:=qa h;cases h;refine⟨?_,rfl,rfl⟩;rw[List.map_filterMap];refine .filterMap _ (λa b c x e y d=>?_) List.pairwise_lt_range
 ext
def Tab.relayAll(h:Tab c t)(f:Array (Int×Value))(n:Nat):Tab c (PySem.relayAll t f n).2.1:=by
 unfold PySem.relayAll
 split
 .rename_i j b e
  obtain⟨g,d,i⟩:=wR e;dsimp only
  split
  .exact⟨λz=>by rw[d];exact h.1 z,λ_=>g⟩
  .exact h.standIn _
 .exact h.standIn _
section
variable {w:World}{A:Around}{E:AA}
def cK(e:Int×Value):Int:=match e.2 with
 | .int n _=>n
 | _=>0
abbrev dt(w:World):Bool:=w.params.followText "set-order"
def SetI(prog:P7)(w:World)(h:Heap)(a:Addr)(ns:AG):Prop:=
 ∃o b c t,h.get? a=some o/\o.ExactSet/\o.data=.set b c t/\ElemsOf (intKind prog w) b.toList/\b.toList.map cK=ns/\ns.Nodup/\b.size<scanBound/\t.fits b.size=true/\Tab (dt w) t
def wU(h:(intKind prog w).is k e.2=true):cK e=k:=by
 obtain⟨t,a⟩:=Value.isInt_shape h;unfold cK;rw[a]
def jJ(h:ElemsOf (intKind prog w) d)(b:e∈d):∃t,e=(hashInt (cK e),.int (cK e) t):=by
 obtain⟨⟨k,a,c⟩,_⟩:=h e b;obtain⟨t,f⟩:=Value.isInt_shape a;refine⟨t,?_⟩;rw[wU a];exact Prod.ext c f
def SetI.at(x:SetI prog w h a ns)(e:∀o,h.get? a=some o->f.get? a=some o):SetI prog w f a ns:=
 let ⟨o,c,d,t,b,r⟩:=x
 ⟨o,c,d,t,e o b,r⟩
theorem SetI.len(x:SetI prog w h a ns):ns.length<scanBound:=by
 obtain⟨o,g,i,t,f,b,j,d,e,c,k,_⟩:=x;symm
def gK{h:Heap}(d:h.get? a=some o)(c:o.data=.set f e t)(b:Array (Int×Value))(t':SetTable):
 (h.update a (Obj.putSet b t')).get? a=some {o with data:=.set b (e+1) t' }:=by
 have:=wz (.putSet b t') d (by rw[putSet_of b t' c];rfl)
 rwa [putSet_of b t' c]at this
theorem F8{g:Bool->Sem Unit}(N:∀(b:Bool) (i:Shared) (F:Unit->Shared->Prop),F () i->wpAny (mZ prog w) A (g b) F E i)(G:s.heap.get? a=some o)(n:o.ExactSet)(H:o.data=.set P O t)(f:ElemsOf (intKind prog w) c.toList)(k:(c.toList.map cK).Perm J)(u:J.Nodup)(p:c.size<scanBound)(D:d.fits c.size=true)(v:Tab (dt w) d)(h:∀Q x,Heap.SameBut a s.heap Q->SetI prog w Q a x->x.Perm J->R (some true) {s with heap:=Q}):
  wpAny (mZ prog w) A (do
   storeSet a c d
   if (!m&&d.tooFull)=true then do
       g (relayAll d c (SetTable.grown c.size)).2.2
       storeSet a (relayAll d c (SetTable.grown c.size)).1 (relayAll d c (SetTable.grown c.size)).2.1
       pure (some true)
    else pure (some true)) R E s:=by
  refine wa (wpAny_storeSet_of G H ?_ (fits_of_scanBound p));have l:=gK G H c d;have j:=wx s.heap a (.putSet c d)
  split
  .have B:=relayAll_perm d c (SetTable.grown c.size)
   have q:=relayAll_fits d c (SetTable.grown c.size);have z:=v.relayAll c (SetTable.grown c.size);generalize M:relayAll d c _=L at B q z ⊢;obtain⟨e,I,C⟩:=L
   have K:e.size=c.size:=by rw[<-qj,B.length_eq,qj]
   have r:e.size<scanBound:=by ext
   have y:=(B.map cK).trans k;exact wa (N _ _ _ (wa (wpAny_storeSet_of l rfl (wc (h _ _ (j.trans (.update _ a _)) ⟨_,e,_,I,gK l rfl e I,n,rfl,f.perm B,rfl,y.nodup_iff.mpr u,r,q,z⟩ y)) (fits_of_scanBound r))))
  .exact wc (h _ _ j ⟨_,c,_,d,l,n,rfl,f,rfl,k.nodup_iff.mpr u,p,D,v⟩ k)
theorem F9(Z:SetI prog w s.heap a ns)(P:ns.length+1<scanBound)(h:∀h' f,Heap.SameBut a s.heap h'->SetI prog w h' a f->f.Perm (if k∈ns then ns else ns++[k])->Q (!decide (k∈ns)) {s with heap:=h' }):
 wpAny (mZ prog w) A (setAddHashed a (.int k u) (hashInt k)) Q E s:=by
 have R:=Z;obtain⟨o,F,ep,t,J,I,K,l,z,hnd,hb,X,ht⟩:=Z;have v:(intKind prog w).is k (.int k u)=true:=intKind_is _ _ _ _;have C:(Value.int k u).scannable=true:=rfl
 have hsz:F.size=ns.length:=by symm
 unfold setAddHashed setAddHashedIn;refine wd (wa (wg J K X ?_));dsimp only;rw[byScan_of C hb l];simp only[↓reduceIte];unfold setAddByScan;refine wa ?_;refine wa (wpAny_rule ?_);refine wa (wpAny_setScan_of (knd:=intKind prog w) (k:=k) v J K X l ?_)
 cases Y:List.findIdx? (λe=>(intKind prog w).is k e.2) F.toList with
 | some j=>
   dsimp only;obtain⟨hj,O,_⟩:=List.findIdx?_eq_some_iff_getElem.mp Y
   have M:k∈ns:=by
    rw[<-z,<-wU O];symm
   refine wc (wc ?_);have:=h s.heap ns (Heap.SameBut.refl a s.heap) R ⋯
   ext
 | none=>
   dsimp only
   have M:k∉ns:=λM=>by
    rw[<-z]at M;obtain⟨e,W,N⟩:=qy M;have h1:=List.findIdx?_eq_none_iff.mp Y e W;obtain⟨t',T⟩:=jJ l W;rw[T,N]at h1;have h2:(intKind prog w).is k (.int k t')=true:=intKind_is _ _ _ _;symm
   have S:∀(b:Bool) {g:Shared}{G:Unit->Shared->Prop},G () g->wpAny (mZ prog w) A (match b with|true=>rule "set.scan.the-table-gave-way" | false=>pure ()) G E g:=
    λb g G r=>by cases b<;>first|exact wc r|exact wpAny_rule r
   have c:=layNew_perm t F (hashInt k) (.int k u);have d:=layNew_fits t F (hashInt k) (.int k u);have i:=ht.layNew F (hashInt k) (.int k u);generalize hL:layNew t F (hashInt k) (.int k u)=L at c d i ⊢;obtain⟨x,t1,D,V⟩:=L;dsimp only at c d i ⊢;rw[Array.toList_push]at c;have m:ElemsOf (intKind prog w) x.toList:=(l.push (knd:=intKind prog w) (k:=k) v C).perm c
   have p:x.size<scanBound:=by rw[<-qj,c.length_eq,qz,qj];simp;lia
   have H:(x.toList.map cK).Perm (ns++[k]):=by
    have:=c.map cK;rw[Qk,z]at this;exact this
   have q:(ns++[k]).Nodup:=by
    symm
   have n:∀h' f,Heap.SameBut a s.heap h'->SetI prog w h' a f->f.Perm (ns++[k])->Q true {s with heap:=h' }:=by
    symm
   refine wa (S _ ?_)
   split
   .refine wa ?_
    rw[hashByValue_scannable 8 C];refine wc ?_;refine F8 ?_ J I K m H q p ?_ ?_ ?_
    .intro b g G r;cases b<;>first|exact wc r|exact wpAny_rule r
    .split
     .exact d
     .exact SetTable.fits_plain_off d
    .split
     .exact i
     .exact i.off
    .intro h' f B y U;dsimp only;exact wc (n h' f B y U)
   .refine wa (wc ?_)
    simp only[↓reduceIte];refine F8 ?_ J I K m H q p d i ?_
    .intro b g G r;cases b<;>first|exact wc r|exact wpAny_rule r
    .intro h' f B y U;dsimp only;exact wc (n h' f B y U)
end
def ba:AG->AG->AG
 | a,[]=>a
 | a,k::r=>ba (if k∈a then a else a++[k]) r
theorem F_:∀(r a b:AG),a.Perm b->(ba a r).Perm (ba b r)
 | [],_,_,h=>h
 | k::r,a,b,h=>by
   refine F_ r _ _ ?_;symm
section
variable {w:World}{A:Around}{R:Result->Shared->Prop}{I:Addr}{fp wr:List Addr}{G:Array GenState->Array GenState->Prop}{n:Nat}{P:Nat->Value->Prop}{St:Nat->Shared->Prop}
theorem Ga(W:WalksS prog w A.in1 I fp wr G n P St)(S:Addr)(hSf:S∉fp)(ms:AG)(hn:ms.length=n)(hval:∀i v,P i v->∃t,v=.int (ms.getD i 0) t)(hb:n+1<scanBound):
 ∀(k i:Nat) (s:Shared) (ns:AG),n-i=k->i<=n->St i s->ns.length<=i->SetI prog w s.heap S ns->
  (∀s' ns',Moved (S::wr) G s s'->SetI prog w s'.heap S ns'->ns'.Perm (ba ns (ms.drop i))->R (.ok (.ret .none)) s')->
  codeAny (mZ prog w) A (.builtin "set.update.loop" ⟨[.ref S,.ref I],[]⟩) R s:=by
 have hSw:S∉wr:=λh=>hSf (W.sub _ h);have hsub:∀b∈wr,b∈S::wr:=λb hb=>qg _ hb;intro k
 induction k with
 | zero=>
   intro i s ns hk hi hst hl hS hR
   have hin:i=n:=by lia
   subst hin;refine w5 F.entry_set_update_loop ?_;rw[je F.plain_set_update_loop _];show wpAny _ A.in1 (pyNext (.ref I)>>=_) _ _ s;refine wa (W.done s _ _ hst λs' hm=>?_);show wpAny _ A.in1 (ret Value.none) _ _ s';refine wc (hR s' ns (hm.mono hsub) (hS.at λo e=>hm.heap S _ hSw e) ?_);rw[List.drop_of_length_le ∅,ba]
 | succ k ih=>
   intro i s ns hk hi hst hl hS hR
   have hlt:i<n:=by lia
   refine w5 F.entry_set_update_loop ?_;rw[je F.plain_set_update_loop _];show wpAny _ A.in1 (pyNext (.ref I)>>=_) _ _ s;refine wa (W.item i s _ _ hlt hst λv s' hP hst' hm=>?_);obtain⟨t,rfl⟩:=hval i v hP;have hS':SetI prog w s'.heap S ns:=hS.at λo e=>hm.heap S _ hSw e;generalize hx:ms.getD i 0=x
   have hdrop:ms.drop i=x::ms.drop (i+1):=by
    rw[List.drop_eq_getElem_cons ∅,<-hx,Qt,qr ∅];rfl
   show wpAny _ A.in1 (holding [Value.int x t] (setAdd S (.int x t))>>=_) _ _ s';refine wa (wd ?_);unfold setAdd;refine wd ?_;refine wa ((intKind prog w).pyHash (k:=x) (intKind_is _ _ _ _) ?_);refine F9 (s:={ s' with toks:=s'.toks+1}) hS' ∅ λh' ns' hsb hS2 hp=>?_
   have hl2:ns'.length<=i+1:=by
    rw[hp.length_eq];symm
   refine wc ⟨jd F.plain_set_update_loop _,ih (i+1) _ ns' ∅ hlt (W.frame _ s' _ _ hst' (Nat.le_succ _) λb hb o e=>?_) hl2 hS2 λs'' ns'' hm'' hS'' hp''=>?_⟩
   .rw[hsb.2 b (λh:b=S=>hSf ⋯)];exact e
   .refine hR s'' ns'' (Moved.trans W.gtrans ((hm.mono hsub).then_heap (Nat.le_succ _) λb o hb e=>?_) hm'') hS'' ?_
    .rw[hsb.2 b (λh:b=S=>hb ⋯)];exact e
    .rw[hdrop,ba]
     exact hp''.trans (F_ _ _ _ hp)
end
section
variable {w:World}{A:Around}{E:AA}
def Mm:isSubtype (.type "tuple") (.type "set")=pure false:=by kernel_rfl
def Mn:isSubtype (.type "tuple") (.type "frozenset")=pure false:=by kernel_rfl
theorem wV(k:TypeCalled T l h)(G:checkTypeCall T ⟨g,[]⟩=pure ())(j:entryFor table h=some H)(o:codeAny (mZ prog w) A.in1 (.call (.builtin l) ⟨.type T::g,[]⟩) (wants Q₁ E) s)(m:∀d b,Q₁ d b->b.TypeIs d T/\(∀(K:Around) (L:AA) (z:Unit->Shared->Prop),z () b->wpAny (mZ prog w) K (checkBuiltinCall h ⟨d::g,[]⟩) z L b)/\
  wpAny (mZ prog w) A.in1.in1 (H ⟨d::g,[]⟩)
   (λv s'=>match v with|.done f=>wants (λr a=>r=.none/\Q d a) E (.ok f) s'|.again C=>C.quiet=true/\codeAny (mZ prog w) A.in1 C (wants (λr a=>r=.none/\Q d a) E) s')
   (λe s'=>wants (λr a=>r=.none/\Q d a) E (.error e) s') b):
 wpAny (mZ prog w) A (call (.type T) g) Q E s:=by
 obtain⟨c,P,B⟩:=k.mro;have t:=k.made;have D:=k.sub;refine wpAny_call (codeAny_of_tree ?_);refine wc ⟨Code.quiet_builtin _ (by decide +kernel),w5 F.entry_type_call ?_⟩;have R:=k.notType;have O:=k.canCreate
 repeat (any_goals (first|assumption|wp_step))
 refine codeAny_mono o λr b u=>?_
 cases r with
 | error e=>exact u
 | ok q=>
   cases q with
   | ret d=>
     obtain⟨N,y,x⟩:=m _ _ u;have I:=k.init.lookup;have J:=k.init.bind d
     repeat (any_goals (first|assumption|wp_step))
     refine codeAny_mono (codeAny_call_builtin k.init.plain j (y _ _ _ x)) λp a i=>?_
     cases p with
     | error e=>exact i
     | ok n=>
       cases n with
       | ret r=>
         obtain⟨rfl,M⟩:=i
         repeat (any_goals (first|assumption|wp_step))
       | _=>ext
   | _=>exact u.elim
abbrev bW(w:World):Obj:={cls:=.type "set",dict:=none,data:=.set #[] 0 (.fresh 0 0 (!dt w))}
def wW(a:Value)(h:Q₁ (.ref (~~~s)) {s with heap:=s.heap.push (bW w)}):
 codeAny (mZ prog w) A (.call (.builtin "set.__new__") ⟨[.type "set",a],[]⟩) (wants Q₁ E) s:=by
 refine codeAny_of_tree (wa (wpAny_of_eq (F.newCall_set_1 a) (wc ⟨jd F.plain_set_new _,w5 F.entry_set_new ?_⟩)));have b:=sub_set_self
 wp_walk
 refine wpAny_askSetting (wc ?_);refine wa (wpAny_alloc (wc ?_));exact wc h
theorem Mo{l:Addr}{a:Array Value}{u:AG}{Q:AA}(Y:A.handled=none)(X:s.heap.IsList l a)(O:IntsAre a.toList u)(hb:a.size+1<scanBound)(h:∀(h':Heap) (tk:Nat) ns,SetI prog w h' (~~~s) ns->ns.Perm (ba [] u)->
  (∀b o,b< ~~~s->s.heap.get? b=some o->h'.get? b=some o)->Q (.ref (~~~s)) {s with heap:=h',toks:=tk}):
 wpAny (mZ prog w) A (call (.type "set") [.ref l]) Q E s:=by
 refine wV (Q₁:=λg d=>g=.ref (~~~s)/\d={s with heap:=s.heap.push (bW w)}) F.called_set (F.typeCall_set_1 _) F.entry_set_init (wW _ ⟨rfl,rfl⟩) ?_;rintro g d ⟨rfl,rfl⟩;have M:(s.heap.push (bW w)).get? (~~~s)=some (bW w):=qp _ rfl
 have R:Shared.TypeIs {s with heap:=s.heap.push (bW w)} (.ref (~~~s)) "set":=⟨_,M,rfl⟩
 refine⟨R,λA' E' Q' Z=>check_set_init_1 R Z,?_⟩;obtain⟨U,m,k,T,r⟩:=X;obtain⟨P,f,C,c⟩:=U;simp only at k r;subst k;subst r;have q:(s.heap.push (bW w)).get? l=some {cls:=.type "list",dict:=f,data:=.seq a T,slots:=c}:=qe _ m;have N:=F.sub_list_set;have S:=F.sub_list_frozenset
 have hne:(Value.type "list"==Value.type "dict")=false:=by decide
 have y:(s.heap.push (bW w)).IsList l a:=⟨_,q,rfl,T,rfl⟩
 unfold Builtin.«set.__init__» noKeywords Builtin.Frozenset.updateFrom;generalize G:pyIter=PI
 wp_walk
 subst G;refine wpAny_pyIter_list y ?_;refine wa (wpAny_runValue ?_);have W:l< ~~~s:=ql m
 have D:A.in1.in1.in1.handled=none:=by simp[Y]
 have p:l≠(s.heap.push (bW w)).objs.size:=by
  rw[wy];symm
 have J:(~~~s)∉[(s.heap.push (bW w)).objs.size,l]:=by
  rw[wy];symm
 have x:u.length=a.size:=by have:=IntsAre.length O;symm
 have n:∀(i:Nat) (v:Value),a[i]?=some v->∃t,v=.int (u.getD i 0) t:=λi v hv=>
  IntsAre.int_at O i v ⋯
 refine Ga ((Walks.list D _ l p a).toS) (~~~s) J u x n hb (a.size-0) 0 _ [] ∅ (Qh _)
  ⟨⟨_,qp _ rfl,rfl,rfl⟩,y.push _⟩ (qv _) ?hS0 ?hR
 case hS0=>
  have j:((s.heap.push (bW w)).push {cls:=.type "list_iterator",data:=.fields #[.ref l,.int 0 0]}).get? (~~~s)=some (bW w):=qe _ M;exact⟨bW w,#[],0,_,j,⟨rfl,rfl,rfl⟩,rfl,λe he=>by simp at he,rfl,.nil,by decide,rfl,.fresh⟩
 case hR=>
  intro s' L z B H;obtain⟨h',g',d',K,I⟩:=s';have eg:g'=s.gens:=z.gens;have ed:d'=s.drawn:=z.drawn;have V:I=s.os:=z.os;subst eg;subst ed;subst V;show wpAny _ _ _ _ _ _;refine wc ?_;show wpAny _ _ (ret Value.none) _ _ _;refine wc ⟨rfl,h h' K L B H λb o hb e=>?_⟩;have hb1:b≠(~~~s):=qm hb
  have hb2:b≠(s.heap.push (bW w)).objs.size:=by
   rw[wy];symm
  exact z.heap b o ⋯ (qe _ (qe _ e))
theorem Mp{l:Addr}{a:Array Value}{p:AG}{Q:AA}(Y:A.handled=none)(X:s.heap.IsTuple l a)(O:IntsAre a.toList p)(hb:a.size+1<scanBound)(h:∀(h':Heap) (tk:Nat) ns,SetI prog w h' (~~~s) ns->ns.Perm (ba [] p)->
  (∀b o,b< ~~~s->s.heap.get? b=some o->h'.get? b=some o)->Q (.ref (~~~s)) {s with heap:=h',toks:=tk}):
 wpAny (mZ prog w) A (call (.type "set") [.ref l]) Q E s:=by
 refine wV (Q₁:=λj f=>j=.ref (~~~s)/\f={s with heap:=s.heap.push (bW w)}) F.called_set (F.typeCall_set_1 _) F.entry_set_init (wW _ ⟨rfl,rfl⟩) ?_;rintro j f ⟨rfl,rfl⟩;have N:(s.heap.push (bW w)).get? (~~~s)=some (bW w):=qp _ rfl
 have R:Shared.TypeIs {s with heap:=s.heap.push (bW w)} (.ref (~~~s)) "set":=⟨_,N,rfl⟩
 refine⟨R,λA' E' Q' Z=>check_set_init_1 R Z,?_⟩;obtain⟨U,m,k,G,x⟩:=X;obtain⟨P,g,K,c⟩:=U;simp only at k x;subst k;subst x;have d:(s.heap.push (bW w)).get? l=some {cls:=.type "tuple",dict:=g,data:=.seq a G,slots:=c}:=qe _ m;have S:=Mm;have T:=Mn
 have hne:(Value.type "tuple"==Value.type "dict")=false:=by decide
 have J:(s.heap.push (bW w)).IsTuple l a:=⟨_,d,rfl,G,rfl⟩
 unfold Builtin.«set.__init__» noKeywords Builtin.Frozenset.updateFrom;generalize C:pyIter=PI
 wp_walk
 subst C;refine wpAny_pyIter_tuple J ?_;refine wa (wpAny_runValue ?_);have W:l< ~~~s:=ql m
 have D:A.in1.in1.in1.handled=none:=by simp[Y]
 have r:l≠(s.heap.push (bW w)).objs.size:=by
  rw[wy];symm
 have L:(~~~s)∉[(s.heap.push (bW w)).objs.size,l]:=by
  rw[wy];symm
 have u:p.length=a.size:=by have:=IntsAre.length O;symm
 have n:∀(i:Nat) (v:Value),a[i]?=some v->∃t,v=.int (p.getD i 0) t:=λi v hv=>
  IntsAre.int_at O i v ⋯
 refine Ga ((Walks.tuple D _ l r a).toS) (~~~s) L p u n hb (a.size-0) 0 _ [] ∅ (Qh _)
  ⟨⟨_,qp _ rfl,rfl,rfl⟩,(⟨_,qe _ d,rfl,G,rfl⟩)⟩ (qv _) ?hS0 ?hR
 case hS0=>
  have q:((s.heap.push (bW w)).push {cls:=.type "tuple_iterator",data:=.fields #[.ref l,.int 0 0]}).get? (~~~s)=some (bW w):=qe _ N;exact⟨bW w,#[],0,_,q,⟨rfl,rfl,rfl⟩,rfl,λe he=>by simp at he,rfl,.nil,by decide,rfl,.fresh⟩
 case hR=>
  intro s' M y z H;obtain⟨h',g',d',I,B⟩:=s';have eg:g'=s.gens:=y.gens;have ed:d'=s.drawn:=y.drawn;have V:B=s.os:=y.os;subst eg;subst ed;subst V;show wpAny _ _ _ _ _ _;refine wc ?_;show wpAny _ _ (ret Value.none) _ _ _;refine wc ⟨rfl,h h' I M z H λb o hb e=>?_⟩;have hb1:b≠(~~~s):=qm hb
  have hb2:b≠(s.heap.push (bW w)).objs.size:=by
   rw[wy];symm
  exact y.heap b o ⋯ (qe _ (qe _ e))
end
theorem wX{a:Type}{l:List a}(h:i<l.length):(l[i]::l.eraseIdx i).Perm l:=by
 rw[List.eraseIdx_eq_take_drop_succ]
 have e:l=l.take i++l[i]::l.drop (i+1):=by
  ext
 conv=>rhs;rw[e]
 exact List.perm_middle.symm
theorem Gb(c:Nat->Nat):∀(b k:Nat) (a:List e) (f:Array e),a.length=b->(pickOrder.go c b k a f).toList.Perm (f.toList++a)
 | 0,k,a,f,h=>by
   rw[pickOrder.go]
   ext
 | b+1,k,a,f,h=>by
   rw[pickOrder.go];have d:c k%a.length<_:=Nat.mod_lt _ (by ext);rw[qr d];refine(Gb c b _ _ _ ⋯).trans ?_;rw[Array.toList_push,jb];exact(wX d).append_left _
def wY(a:Nat->Nat)(xs:Array b):(pickOrder a xs).toList.Perm xs.toList:=by
 have:=Gb a xs.size 0 xs.toList #[] nofun;simpa [pickOrder]using this
section
variable {w:World}{A:Around}{E:AA}
theorem Mr(a:0<n)(h:∀i e,i<n->Q i {s with drawn:=e}):wpAny (mZ prog w) A (choose d n) Q E s:=by
 intro c p b;exact⟨by lia,h _ _ (Nat.mod_lt _ a)⟩
theorem om:∀(n:Nat) (xs:List c) (s:Shared) (Q:List c->Shared->Prop),xs.length=n->(∀ys f,ys.Perm xs->Q ys {s with drawn:=f})->wpAny (mZ prog w) A (drawOrder n xs) Q E s
 | 0,xs,s,Q,h,a=>by
   rw[List.length_eq_zero_iff.mp h]at a ⊢;exact wc (a [] _ .nil)
 | n+1,[],s,Q,h,a=>by simp at h
 | n+1,x::xs,s,Q,h,a=>by
   refine wa (Mr nofun λi f b=>?_);rw[qr b];exact wa (om n _ _ _ ⋯ λys d e=>wc (a _ d ((e.cons _).trans (wX b))))
end
def k6:Manifest.owners.lookup (String.ofList ['r','o','t','a','r','e','t','i','_','t','e','s'].reverse)=some Manifest.sig_set_iterator:=by kernel_rfl
theorem slot_si_next:Slot "set_iterator" "__next__" "set_iterator.__next__":=
 .of (owner:="set_iterator") (n:="__next__") (by kernel_rfl) (by decide +kernel) (by decide +kernel) (by decide +kernel)
  (by first|exact .inl (by decide +kernel)|exact .inr (by decide +kernel)) (by kernel_rfl)
def oq:entryFor table "set_iterator.__next__"=some Builtin.«set_iterator.__next__»:=entryFor_of_tree (by kernel_rfl)
def ot(a:Value):argsOk "set_iterator.__next__" ⟨[a],[]⟩:=by
 kernel_rfl
theorem Gc:Slot "set_iterator" "__iter__" "set_iterator.__iter__":=
 .of (owner:="set_iterator") (n:="__iter__") (by kernel_rfl) (by decide +kernel) (by decide +kernel) (by decide +kernel)
  (by first|exact .inl (by decide +kernel)|exact .inr (by decide +kernel)) (by kernel_rfl)
def Ms(a:Value):argsOk "set_iterator.__iter__" ⟨[a],[]⟩:=by
 kernel_rfl
theorem Mt:entryFor table "set_iterator.__iter__"=some Builtin.«dict_keyiterator.__iter__»:=
 entryFor_alias (id':="dict_keyiterator.__iter__") (by kernel_rfl) (by first|rfl|decide +kernel|(unfold String.splitOn)) (by decide +kernel) (by kernel_rfl)
theorem Gd:entryFor table "set.__iter__"=some Builtin.«frozenset.__iter__»:=
 entryFor_alias (id':="frozenset.__iter__") (by kernel_rfl) (by first|rfl|decide +kernel|(unfold String.splitOn)) (by decide +kernel) (by kernel_rfl)
def SIt(h:Heap)(I:Addr)(first:Value)(i:Nat)(a:Addr)(n b:Nat):Prop:=∃o,h.get? I=some o/\o.cls=.type "set_iterator"/\o.data=.fields #[first,.int i 0,.ref a,.int n 0,.int b 0]
def SAt(h:Heap)(a:Addr)(b:Array (Int×Value))(c:Nat)(t:SetTable):Prop:=∃o,h.get? a=some o/\o.ExactSet/\o.data=.set b c t/\t.fits b.size=true
def SIt.at(x:SIt h I f i a n c)(e:∀o,h.get? I=some o->d.get? I=some o):SIt d I f i a n c:=let ⟨o,b,r⟩:=x;⟨o,e o b,r⟩
def SAt.at(x:SAt h a c d t)(e:∀o,h.get? a=some o->f.get? a=some o):SAt f a c d t:=let ⟨o,b,r⟩:=x;⟨o,e o b,r⟩
def SIt.typeIs{s:Shared}(x:SIt s.heap I f i a n d):s.TypeIs (.ref I) "set_iterator":=let ⟨o,b,c,_⟩:=x;⟨o,b,c⟩
section
variable {w:World}{A:Around}{E:AA}
def ox(b:SIt s.heap I f i a n c)(h:Q (.ref I) s):wpAny (mZ prog w) A (pyIter (.ref I)) Q E s:=wpAny_pyIter_slot b.typeIs Gc (we Gc b.typeIs Mt (wc ⟨_,rfl,"set_iterator",_,b.typeIs,slot_si_next.lookup,h⟩) (Ms _))
theorem Ge{m i f nx:Nat}(c:SIt s.heap I (.int m 0) i a n.size f)(q:SAt s.heap a n f t)(y:∀(u:Around) (l:Option (Value×Nat)->Shared->Prop) (z:AA),l (some (x,nx)) s->wpAny (mZ prog w) u (setNext a m i f) l z s)(r:∀C,SIt C I (.int nx 0) (i+1) a n.size f->Heap.SameBut I s.heap C->Q (some x) {s with heap:=C}):wpAny (mZ prog w) A (pyNext (.ref I)) Q E s:=by
 obtain⟨o,k,v,e⟩:=id c;obtain⟨B,g,p,h,j⟩:=q;refine wa (jh (wpAny_callSpecial?_slot c.typeIs slot_si_next (we slot_si_next c.typeIs oq ?_ (ot _))));show wpAny _ _ (fieldsOf _>>=_) _ _ s;refine wa (wpAny_fieldsOf k e (wa (wpAny_setEntries_of g h j ?_)));rw[if_neg nofun];refine wa (y _ _ _ (wa (wpAny_setField k e nofun ?_)));have d:=wz (.mapFields (·.setIfInBounds 0 (rawInt nx))) k (Obj.isFreed_of_fields (jg e _));have b:=jg e (·.setIfInBounds 0 (rawInt nx))
 exact wa (wpAny_setField d b nofun (wc ⟨x,rfl,wc (r _ (⟨_,wz _ d (Obj.isFreed_of_fields (jg b _)),(Obj.cls_mapFields ..).trans ((Obj.cls_mapFields ..).trans v),by
  rw[jg b];simp[rawInt]⟩) ((wx ..).trans (.update ..)))⟩))
theorem Gg{j i d:Nat}(l:A.handled=none)(b:SIt s.heap I (.int j 0) i a r.size d)(v:SAt s.heap a r d t)(n:∀(q:Around) (g:Option (Value×Nat)->Shared->Prop) (u:AA),g none s->wpAny (mZ prog w) q (setNext a j i d) g u s)(p:∀z,Heap.ExtBut I s.heap z->Q none {s with heap:=z}):wpAny (mZ prog w) A (pyNext (.ref I)) Q E s:=by
 obtain⟨o,m,x,k⟩:=id b;obtain⟨y,c,h,e,f⟩:=v;refine wa (jh (wpAny_callSpecial?_slot b.typeIs slot_si_next (we slot_si_next b.typeIs oq ?_ (ot _))));show wpAny _ _ (fieldsOf _>>=_) _ _ s;refine wa (wpAny_fieldsOf m k (wa (wpAny_setEntries_of c e f ?_)));rw[if_neg nofun];refine wa (n _ _ _ (wa (wpAny_setField m k nofun (wa (wa (m:=firstArgMember _ _) (wpAny_of_eq (a:=.none) (by first|rfl|(rfl)) (wf (wa (wpAny_handled ?_)) (by size_fits))))))))
 first|rw[l]|rw[l]
 refine wa (wc (wpAny_throw ?_));exact wa (wpAny_isInstance ⟨_,qp _ rfl,rfl⟩ isSubtype_stop (wc (p _ (((wx ..).extBut.push _).push _))))
theorem Gh{i j l:Nat}(b:SIt s.heap I (.ref T) i a k.size l)(v:SAt s.heap a k l t)(y:s.heap.IsTuple T F)(x:F[i]?=some (.int j tk))(u:k[j]?=some e)(r:∀D,SIt D I (.ref T) (i+1) a k.size l->Heap.SameBut I s.heap D->Q (some e.2) {s with heap:=D}):wpAny (mZ prog w) A (pyNext (.ref I)) Q E s:=by
 obtain⟨o,n,q,g⟩:=id b;obtain⟨B,c,p,f,d⟩:=v;obtain⟨z,h,_,C,m⟩:=y;refine wa (jh (wpAny_callSpecial?_slot b.typeIs slot_si_next (we slot_si_next b.typeIs oq ?_ (ot _))));show wpAny _ _ (fieldsOf _>>=_) _ _ s;refine wa (wpAny_fieldsOf n g (wa (wpAny_setEntries_of c f d ?_)));rw[if_neg nofun];refine wa (wpAny_seqItems h m ?_);simp [x];refine wa (wa (wg c f d ?_));dsimp only;rw[if_neg nofun,u]
 exact wc (wa (wpAny_setField n g nofun (wc ⟨e.2,rfl,wc (r _ (⟨_,wz _ n (Obj.isFreed_of_fields (jg g _)),(Obj.cls_mapFields ..).trans q,by
  rw[jg g];simp[rawInt]⟩) (.update ..))⟩)))
theorem Gi(n:A.handled=none)(b:SIt s.heap I (.ref T) i a q.size u)(v:SAt s.heap a q u t)(p:s.heap.IsTuple T F)(x:F[i]?=none)(r:∀D,Heap.ExtBut I s.heap D->Q none {s with heap:=D}):wpAny (mZ prog w) A (pyNext (.ref I)) Q E s:=by
 obtain⟨o,l,C,c⟩:=id b;obtain⟨B,g,m,k,h⟩:=v;obtain⟨y,d,_,z,j⟩:=p;refine wa (jh (wpAny_callSpecial?_slot b.typeIs slot_si_next (we slot_si_next b.typeIs oq ?_ (ot _))));show wpAny _ _ (fieldsOf _>>=_) _ _ s;refine wa (wpAny_fieldsOf l c ?_);refine wa (wpAny_setEntries_of g k h ?_);rw[if_neg nofun];refine wa (wpAny_seqItems d j ?_);simp [x];refine wa (wpAny_setField l c nofun ?_);have f:=wz (.mapFields (·.setIfInBounds 0 (rawInt 0))) l (Obj.isFreed_of_fields (jg c _));have e:=jg c (·.setIfInBounds 0 (rawInt 0));refine wa (wpAny_setField f e nofun ?_);refine wa ?_;simp [newExc];refine wa (m:=firstArgMember _ _) (wpAny_of_eq (a:=.none) (by first|rfl|(rfl)) ?_);refine wf ?_ (by size_fits);refine wa (wpAny_handled ?_)
 first|rw[n]|rw[n]
 refine wa (wc (wpAny_throw ?_));refine wa (wpAny_isInstance ⟨_,qp _ rfl,rfl⟩ isSubtype_stop ?_);exact wc (r _ ((((wx ..).trans (.update ..)).extBut.push _).push _))
end
section
variable {w:World}{A:Around}{E:AA}
def gL(h:Q (dt w) s):wpAny (mZ prog w) A setsByText Q E s:=wa (wpAny_askSetting (wc h))
def oy(n:dt w=true)(j:SAt s.heap a k g t)(h:Q (((pickOrder (w.params.setOrder a g) k)[i]?).map λe=>(e.2,l)) s):wpAny (mZ prog w) A (setNext a l i g) Q E s:=by
 obtain⟨m,c,f,d,b⟩:=j;refine wa (wg c d b (wa (gL ?_)));rw[if_pos n,if_neg nofun];refine wa (wa (wg c d b (wa (gL ?_))));rw[if_pos n];exact wa (wpAny_askSetting (wc (wc h)))
theorem oz(r:dt w=false)(q:(!t.plain&&decide (b.size > 1))=false)(n:t.led=true)(o:SAt s.heap a b m t)(k:SetTable.below t.place l=i)(h:Q (match b[i]?,t.place[i]? with|some (_,x),some j=>some (x,j+1)|_,_=>none) s):wpAny (mZ prog w) A (setNext a l g m) Q E s:=by
 obtain⟨p,d,f,c,e⟩:=o;refine wa (wg d c e (wa (gL ?_)));rw[if_neg ⋯];show wpAny _ _ (if (_&&_)=true then _ else _) _ _ _;rw[if_neg ⋯];show wpAny _ _ ((if _ then _ else _)>>=_) _ _ _;rw[if_neg (by rw[n];simp),k];exact wc h
def fu(a:Array Nat):Nat->Nat
 | 0=>0
 | i+1=>a.getD i 0+1
theorem oA(g:bY q)(m:i<=q.size):SetTable.below q (fu q i)=i:=by
 obtain⟨n,l,f⟩:=F5 g _;generalize o:SetTable.below q (fu q i)=p at n l f
 have b:∀(i k:Nat) _ (a:k<q.size),i<k->q[i]<q[k]:=λi k m a h=>by
  have:=List.pairwise_iff_getElem.mp g i k ⋯ ⋯ h;symm
 have r:∀k _,k<p->q[k]<fu q i:=λk a d=>l _ (by
  rw[List.mem_iff_getElem]
  ext<;>lia)
 have s:∀k _,p<=k->fu q i<=q[k]:=λk a d=>f _ (by
  rw[List.mem_iff_getElem]
  exact⟨k-p,by simp;symm,by
   ext⟩)
 rcases Nat.lt_trichotomy p i with h|h|h
 .have a:p<q.size:=by lia
  have:=s p a (qv _)
  cases i with
  | zero=>lia
  | succ j=>
    have c:j<q.size:=by lia
    simp only[fu,Array.getD,c,dite_true]at this;by_cases e:p=j
    .subst e;exact absurd this nofun
    .have:=b p j a c ∅
     simp at *;lia
 .exact h
 .have a:i<q.size:=by symm
  have:=r i a h
  cases i with
  | zero=>simp[fu]at this
  | succ j=>
    have c:j<q.size:=by lia
    have t:=b j (j+1) c a ∅;simp only[fu,Array.getD,dite_true]at this;simp at *;lia
def ip(a:AG)(i:Nat)(v:Value):Prop:=∃k t,a[i]?=some k/\v=.int k t
theorem wZ{b:Array (Int×Value)}(a:ElemsOf (intKind prog w) b.toList)(c:e∈b.toList):∃t,e.2=.int (cK e) t:=by
 obtain⟨t,d⟩:=jJ a c;symm
theorem Mu(hS:SetI prog w s.heap a ns)(hQ:∀(h':Heap) (d':Drawn) (I:Addr) (fp:List Addr) (vals:AG) (St:Nat->Heap->Prop),(∀b o,s.heap.get? b=some o->h'.get? b=some o)->(~~~s)<=I->I∈fp->
  (∀b∈fp,b<h'.objs.size/\(b=a\/(~~~s)<=b))->vals.Perm ns->(∀A':Around,A'.handled=none->Walks prog w A' I fp [I] ns.length (ip vals) St)->St 0 h'->
  (∀(i:Nat) (s':Shared),St i s'.heap->s'.TypeIs (.ref I) "set_iterator")->Q (.ref I) {s with heap:=h',drawn:=d' }):
 wpAny (mZ prog w) A (pyIter (.ref a)) Q E s:=by
 obtain⟨o,es,ep,t,ho,hex,hd,hel,hns,hnd,hb,hf,ht⟩:=hS
 have hT:s.TypeIs (.ref a) "set":=⟨o,ho,hex.1⟩
 have hlen:ns.length=es.size:=by symm
 have hlt:a< ~~~s:=ql ho
 have hsa:SAt s.heap a es ep t:=⟨o,ho,hex,hd,hf⟩
 have hps:t.place.size=es.size:=by
  simp only[SetTable.fits,Qe,beq_iff_eq]at hf;exact hf.1
 refine wpAny_pyIter_slot hT F.slot_set_iter (we F.slot_set_iter hT Gd ?_ (F.args_set_iter_1 _));unfold Builtin.«frozenset.__iter__»;show wpAny _ _ (Builtin.Frozenset.sizeOf a>>=_) _ _ s;unfold Builtin.Frozenset.sizeOf;refine wa (wa (wpAny_setEntries_of ho hd hf (wc ?_)));refine wa ?_;unfold setDrawn;refine wa (wg ho hd hf ?_);dsimp only;refine wa (gL (wc ?_))
 have plain:∀(vals:AG) (st:Nat->Nat) (xv:Nat->Value),vals.Perm ns->st 0=0->(∀i,i<es.size->ip vals i (xv i))->
  (∀(s':Shared) (A':Around) (i:Nat) (E':AA),SAt s'.heap a es ep t->i<es.size->∀Q':Option (Value×Nat)->Shared->Prop,Q' (some (xv i,st (i+1))) s'->wpAny (mZ prog w) A' (setNext a (st i) i ep) Q' E' s')->
  (∀(s':Shared) (A':Around) (E':AA),SAt s'.heap a es ep t->∀Q':Option (Value×Nat)->Shared->Prop,Q' none s'->wpAny (mZ prog w) A' (setNext a (st es.size) es.size ep) Q' E' s')->
  wpAny (mZ prog w) A.in1 (do
   let x <-newFields "set_iterator" [rawInt 0,rawInt 0,.ref a,rawInt es.size,rawInt (<-setEpoch a)]
   ret x) (λfin s'=>∃v,fin=.done (.ret v)/\∃T' r,s'.TypeIs v T'/\typeLookup (.type T') "__next__"=pure (some r)/\Q v s') E s:=by
  intro vals st xv hp h0 hx hi hn;refine wa (wpAny_setEpoch_of ho hd hf ?_);refine wa (wf ?_);refine wc ⟨_,rfl,"set_iterator",_,⟨_,qp _ rfl,rfl⟩,slot_si_next.lookup,?_⟩
  have key:=hQ (s.heap.push {cls:=.type "set_iterator",data:=.fields #[rawInt 0,rawInt 0,.ref a,rawInt es.size,rawInt ep]}) s.drawn (~~~s) [~~~s,a] vals
   (λi h=>SIt h (~~~s) (.int (st i) 0) i a es.size ep/\SAt h a es ep t) (λb o e=>qe _ e) (qv _) nofun (λb hb=>by
    rw[wy]
    symm) hp (λA' hA'=>{
    sub:=λb hb=>by symm
    frame:=λi h h' st' hk=>⟨st'.1.at λo e=>hk _ nofun o e,st'.2.at λo e=>hk a nofun o e⟩
    item:=λi s' Q' E' hlt' st' hQ'=>by
     refine Ge st'.1 st'.2 (x:=xv i) (nx:=st (i+1)) (λA2 Q2 E2 hq=>hi s' A2 i E2 st'.2 ∅ Q2 hq) λh' hit' hs'=>?_;exact hQ' _ h' s'.toks (hx i ∅) ⟨hit',st'.2.at λo e=>hs'.extBut a o (λz=>by symm) e⟩ λb o hb e=>hs'.extBut b o (λz=>hb (by simp[z])) e
    done:=λs' Q' E' st' hQ'=>by
     rw[hlen]at st';exact Gg hA' st'.1 st'.2 (λA2 Q2 E2 hq=>hn s' A2 E2 st'.2 Q2 hq) λh' he'=>hQ' h' s'.toks λb o hb e=>he' b o (λz=>hb (by simp[z])) e
    self:=λi s' Q' E' st' hQ'=>ox st'.1 hQ' }) ⟨⟨_,qp _ rfl,rfl,by rw[h0];rfl⟩,hsa.at λo e=>qe _ e⟩ (λi s' st'=>st'.1.typeIs)
  exact key
 have hdr:∀b:Bool,(!t.plain&&decide (es.size > 1))=b->wpAny (mZ prog w) A.in1 (if (!dt w&&b)=true then do
  let first <-newTuple ((<-drawOrder es.size (List.range es.size)).map fun(i:Nat)=>rawInt i)
  let x <-newFields "set_iterator" [first,rawInt 0,.ref a,rawInt es.size,rawInt (<-setEpoch a)]
  ret x
  else do
   let x <-newFields "set_iterator" [rawInt 0,rawInt 0,.ref a,rawInt es.size,rawInt (<-setEpoch a)]
   ret x) (λfin s'=>∃v,fin=.done (.ret v)/\∃T' r,s'.TypeIs v T'/\typeLookup (.type T') "__next__"=pure (some r)/\Q v s') E s:=by
  intro b hbd
  cases hbt:dt w with
  | true=>
    rw[if_neg nofun];generalize hor:pickOrder (w.params.setOrder a ep) es=ord
    have hpm:ord.toList.Perm es.toList:=by rw[<-hor];exact wY _ _
    have hos:ord.size=es.size:=by
     have:=hpm.length_eq;symm
    refine plain (ord.toList.map cK) (λ_=>0) (λi=>(ord.getD i (0,.none)).2) ⋯ rfl (λi hi=>?_) (λs' A' i E' ha hi Q' hq=>?_) (λs' A' E' ha Q' hq=>?_)
    .have hi':i<ord.size:=by lia
     obtain⟨u,hu⟩:=wZ hel (hpm.mem_iff.mp (show ord[i]∈ord.toList by simp));refine⟨cK ord[i],u,by simp[hi'],?_⟩
     ext
    .have hi':i<ord.size:=by lia
     refine oy hbt ha ?_
     ext
    .refine oy hbt ha ?_
     symm
  | false=>
    have hled:=ht.1 hbt
    cases b with
    | false=>
      rw[if_neg nofun]
      have hrise:bY t.place:=by
       cases hpl:t.plain with
       | true=>exact ht.2 hpl
       | false=>
         rw[hpl]at hbd
         have h1:t.place.toList.length<=1:=by
          symm
         unfold bY
         match t.place.toList,h1 with
         | [],_=>exact .nil
         | [x],_=>simp
      refine plain ns (fu t.place) (λi=>(es.getD i (0,.none)).2) .rfl rfl (λi hi=>?_) (λs' A' i E' ha hi Q' hq=>?_) (λs' A' E' ha Q' hq=>?_)
      .obtain⟨u,hu⟩:=wZ hel (show es[i]∈es.toList by simp)
       refine⟨cK es[i],u,by symm,?_⟩
       ext
      .refine oz hbt hbd hled ha (oA hrise ∅) ?_
       have hi2:i<t.place.size:=by lia
       rw[Array.getElem?_eq_getElem hi,Array.getElem?_eq_getElem hi2];simp only[Array.getD,hi,hi2,dite_true,fu]at hq;exact hq
      .refine oz hbt hbd hled ha (oA hrise ∅) ?_
       symm
    | true=>
      rw[if_pos nofun];refine wa (om es.size (List.range es.size) s _ nofun λys d' hp=>?_);simp only[newTuple]
      have hyl:ys.length=es.size:=by rw[hp.length_eq];simp
      refine wa (wf ?_ (by show(ys.map fun(i:Nat)=>rawInt i).toArray.size<=sizeLine;rw[qk,qf,hyl];exact fits_of_scanBound hb));have ho1:((s.heap.push {cls:=.type "tuple",data:=.seq (ys.map fun(i:Nat)=>rawInt i).toArray})).get? a=some o:=qe _ ho;refine wa (wpAny_setEpoch_of (s:={s with heap:=s.heap.push {cls:=.type "tuple",data:=.seq (ys.map fun(i:Nat)=>rawInt i).toArray},drawn:=d' }) ho1 hd hf ?_);refine wa (wf ?_);refine wc ⟨_,rfl,"set_iterator",_,⟨_,qp _ rfl,rfl⟩,slot_si_next.lookup,?_⟩
      have hmem:∀j∈ys,j<es.size:=λj hj=>by symm
      have hvp:(ys.map λj=>cK (es.getD j (0,.none))).Perm ns:=by
       rw[<-hns];refine(hp.map _).trans ?_
       have:(List.range es.size).map (λj=>cK (es.getD j (0,.none)))=es.toList.map cK:=by
        refine List.ext_getElem nofun λi h1 h2=>?_
        have hi:i<es.size:=by symm
        simp[Array.getD,hi]
       rw[this]
      generalize hH:s.heap.push {cls:=.type "tuple",data:=.seq (ys.map fun(i:Nat)=>rawInt i).toArray}=H at ho1 ⊢
      have hHs:H.objs.size= ~~~s+1:=by rw[<-hH,wy]
      have hT0:H.IsTuple (~~~s) (ys.map fun(i:Nat)=>rawInt i).toArray:=⟨_,by rw[<-hH];exact qp _ rfl,rfl,_,rfl⟩
      have keepH:∀b o,s.heap.get? b=some o->H.get? b=some o:=λb o e=>by rw[<-hH];exact qe _ e
      have haI:a≠H.objs.size:=λz=>by symm
      have hTI:(~~~s)≠H.objs.size:=by symm
      exact hQ (H.push {cls:=.type "set_iterator",data:=.fields #[.ref (~~~s),rawInt 0,.ref a,rawInt es.size,rawInt ep]}) d' H.objs.size [H.objs.size,a,~~~s] (ys.map λj=>cK (es.getD j (0,.none)))
       (λi h=>SIt h H.objs.size (.ref (~~~s)) i a es.size ep/\SAt h a es ep t/\h.IsTuple (~~~s) (ys.map fun(i:Nat)=>rawInt i).toArray) (λb o e=>qe _ (keepH b o e)) ∅ nofun (λb hb=>by
        rw[wy]
        symm) hvp (λA' hA'=>{
        sub:=λb hb=>by symm
        frame:=λi h h' st' hk=>⟨st'.1.at λo e=>hk _ nofun o e,st'.2.1.at λo e=>hk a nofun o e,st'.2.2.at λo e=>hk _ nofun o e⟩
        item:=λi s' Q' E' hlt' st' hQ'=>by
         have hi:i<ys.length:=by lia
         have hj:=hmem ys[i] (Qs hi);refine Gh st'.1 st'.2.1 st'.2.2 (j:=ys[i]) (tk:=0) (e:=es[ys[i]]) (by simp[hi,rawInt]) (Array.getElem?_eq_getElem hj) λh' hit' hs'=>?_;refine hQ' _ h' s'.toks ?_ ⟨hit',st'.2.1.at λo e=>hs'.extBut a o haI e,st'.2.2.at λo e=>hs'.extBut _ o hTI e⟩ λb o hb e=>hs'.extBut b o (λz=>hb (by simp[z])) e;obtain⟨u,hu⟩:=wZ hel (show es[ys[i]]∈es.toList by simp);exact⟨cK es[ys[i]],u,by simp[hi,Array.getD,hj],hu⟩
        done:=λs' Q' E' st' hQ'=>by
         rw[hlen]at st';exact Gi hA' st'.1 st'.2.1 st'.2.2 (by simp[hyl]) λh' he'=>hQ' h' s'.toks λb o hb e=>he' b o (λz=>hb (by simp[z])) e
        self:=λi s' Q' E' st' hQ'=>ox st'.1 hQ' }) ⟨⟨_,qp _ rfl,rfl,rfl⟩,⟨o,qe _ ho1,hex,hd,hf⟩,hT0.push _⟩ (λi s' st'=>st'.1.typeIs)
 exact hdr _ rfl
end
inductive D where
 | non|bl (b:Bool)|int (i:Int)|str (x:Str)|tup (l:List D)|lst (l:List D)
 | scr (ns:AG)
 | dct (t:Bool) (ks vs:List D)
 | obj (c:Str) (ks:AK) (vs:List D)
 | adr (a:Addr)
abbrev AR:=List D
mutual
def aE:D->PyData
 | .non=>.none
 | .bl b=>.bool b
 | .int i=>.int i
 | .str x=>.str x
 | .tup l=>.tuple (cW l)
 | .lst l=>.list (cW l)
 | .scr ns=>.list (ns.map PyData.int)
 | .dct _ _ _=>.none
 | .obj _ _ _=>.none
 | .adr _=>.none
def cW:AR->List PyData
 | []=>[]
 | d::l=>aE d::cW l
end
def bx(d e:D):Bool:=PyData.eqv (aE d) (aE e)
def d9(l m:AR):Bool:=PyData.eqvAll (cW l) (cW m)
def w4:V->Option Int
 | .int i=>some i
 | .bl b=>some (if b then 1 else 0)
 | _=>none
def iq:AQ->Option AG
 | []=>some []
 | x::r=>(w4 x).bind λi=>(iq r).map (i::·)
def ir(ks:AG):Int:=reduceHash (Builtin.Tuple.tupleHashOf (ks.map hashInt))
def w_(a:Addr)(b:List (List Int×Addr))(vxs:AQ)(d:Nat)(h:Heap):Prop:=
 (a==sysModules)=false/\∃e o c,Vals vxs e/\h.get? a=some o/\o.ExactDict/\o.data=.dict c d/\c.toList=(b.zip e).map λp=>⟨ir p.1.1,.ref p.1.2,p.2⟩
def Gj(a:Addr)(b:List (List Int×Addr))(vxs:AQ)(c:Nat):HO:=.ext (w_ a b vxs c)
def Dc(t:Bool)(G H:Hp)(a:Addr)(d vxs:AQ):Prop:=
 (t=false/\∃c:List _,H a=some (.dK c)/\(c.map (·.1)).Nodup/\d=c.map (λp=>kV p.1)/\vxs=c.map (·.2))\/
 (t=true/\∃(b:List _) (e:Nat),H a=some (Gj a b vxs e)/\b.length=vxs.length/\(b.map (·.1)).Nodup/\d=b.map (λp=>.ref p.2)/\∀p∈b,∃f,G p.2=some (.tup f)/\iq f=some p.1)
mutual
def Rp(K:W7)(G:Hp):D->V->Prop
 | .non,v=>v=V.non
 | .bl b,v=>v=V.bl b
 | .int i,v=>v=V.int i
 | .str x,v=>v=V.str x/\PyData.strOk x=true
 | .tup l,v=>∃a xs,v=V.ref a/\G a=some (HO.tup xs)/\RpL K G l xs
 | .lst l,v=>∃a xs,v=V.ref a/\Rd G a (HO.lst xs)/\RpL K G l xs
 | .scr ns,v=>∃a,v=V.ref a/\SqL K G a (ns.map V.int)
 | .dct t ks vs,v=>∃a f vxs,v=V.ref a/\Dc t G G a f vxs/\RpL K G ks f/\RpL K G vs vxs
 | .obj c ks vs,v=>∃a C g xs,v=V.ref a/\W.nsIn K mainGlobals c=some (some (.ref C))/\G a=some (HO.ins C g (ks.zip xs))/\xs.length=ks.length/\RpL K G vs xs
 | .adr a,v=>v=V.ref a
def RpL(K:W7)(G:Hp):AR->AQ->Prop
 | [],xs=>xs=[]
 | d::l,xs=>∃x r,xs=x::r/\Rp K G d x/\RpL K G l r
end
def dv(h:Same G b)(r:Rd G a u):Rd b a u:=by
 rcases r with r|⟨o,r⟩
 .exact .inl (h _ _ r)
 .exact .inr ⟨o,h _ _ r⟩
def Dc.mono(g:Same G u)(h:∀o,H a=some o->H' a=some o)(d:Dc t G H a c vxs):Dc t u H' a c vxs:=by
 rcases d with⟨e,j,i,b⟩|⟨e,f,r,i,b,n,l,s⟩
 .exact .inl ⟨e,j,h _ i,b⟩
 .refine .inr ⟨e,f,r,h _ i,b,n,l,λp k=>?_⟩
  obtain⟨v,m,q⟩:=s p k;exact⟨v,g _ _ m,q⟩
theorem Dc.someT(d:Dc t G H a e vxs):∃o,H a=some o/\∀xs,o≠.tup xs:=by
 rcases d with⟨_,c,b,_⟩|⟨_,f,g,b,_⟩
 .simp_all
 .exact⟨_,b,λxs z=>by cases z⟩
theorem Dc.some(d:Dc t G H a e vxs):∃o,H a=some o/\∀xs,o≠.lst xs:=by
 rcases d with⟨_,c,b,_⟩|⟨_,f,g,b,_⟩
 .simp_all
 .exact⟨_,b,λxs z=>by cases z⟩
mutual
theorem Rp.mono{G G':Hp}(h:Same G G'):∀{d:D}{v:V},Rp K G d v->Rp K G' d v
 | .non,_,r=>r
 | .bl _,_,r=>r
 | .int _,_,r=>r
 | .str _,_,r=>r
 | .tup l,_,r=>by
   obtain⟨a,xs,e,g,q⟩:=r;exact⟨a,xs,e,h _ _ g,RpL.mono h q⟩
 | .lst l,_,r=>by
   obtain⟨a,xs,e,g,q⟩:=r;exact⟨a,xs,e,dv h g,RpL.mono h q⟩
 | .scr ns,_,r=>by
   obtain⟨a,e,g⟩:=r;exact⟨a,e,h.seq g⟩
 | .dct t ks vs,_,r=>by
   obtain⟨a,b,vxs,e,g,j,f⟩:=r;exact⟨a,b,vxs,e,g.mono h λo=>h _ o,RpL.mono h j,RpL.mono h f⟩
 | .obj c ks vs,_,r=>by
   obtain⟨a,C,i,xs,e,n,g,l,q⟩:=r;exact⟨a,C,i,xs,e,n,h _ _ g,l,RpL.mono h q⟩
 | .adr _,_,r=>r
theorem RpL.mono{G G':Hp}(h:Same G G'):∀{l:AR}{xs:AQ},RpL K G l xs->RpL K G' l xs
 | [],_,r=>r
 | d::l,_,r=>by
   obtain⟨x,xs,e,g,q⟩:=r;exact⟨x,xs,e,Rp.mono h g,RpL.mono h q⟩
end
section
variable {G:Hp}
theorem RpL.length:∀{l:AR}{xs:AQ},RpL K G l xs->xs.length=l.length
 | [],_,r=>by subst r;rfl
 | d::l,_,r=>by
   obtain⟨x,xs,rfl,_,q⟩:=r;simp[RpL.length q]
theorem RpL.get:∀{l:AR}{xs:AQ}{i:Nat}{d:D},RpL K G l xs->l[i]?=some d->∃x,xs[i]?=some x/\Rp K G d x
 | [],_,_,_,_,e=>by simp at e
 | d::l,_,0,_,r,e=>by
   rw[RpL]at r;symm
 | d::l,_,i+1,_,r,e=>by
   obtain⟨x,xs,rfl,g,q⟩:=r;obtain⟨y,a,b⟩:=RpL.get q (by simpa using e)
   ext
def RpL.nil:RpL K G [] []:=by rw[RpL]
theorem RpL.cons(h:Rp K G d x)(q:RpL K G l xs):RpL K G (d::l) (x::xs):=by rw[RpL];symm
theorem RpL.append:∀{l m:AR}{xs ys:AQ},RpL K G l xs->RpL K G m ys->RpL K G (l++m) (xs++ys)
 | [],_,_,_,r,q=>by rw[RpL]at r;ext
 | d::l,m,_,ys,r,q=>by
   obtain⟨x,xs,rfl,g,r⟩:=r;exact .cons g (.append r q)
def RpL.one(h:Rp K G d x):RpL K G [d] [x]:=.cons h .nil
theorem RpL.set:∀{l:AR}{xs:AQ} (i:Nat) {d:D}{x:V},RpL K G l xs->Rp K G d x->RpL K G (l.set i d) (xs.set i x)
 | [],_,_,_,_,r,_=>by rw[RpL]at r;subst r;exact .nil
 | e::l,_,0,_,_,r,h=>by
   rw[RpL]at r;obtain⟨x,xs,rfl,g,r⟩:=r;exact .cons h r
 | e::l,_,i+1,_,_,r,h=>by
   rw[RpL]at r;obtain⟨x,xs,rfl,g,r⟩:=r;exact .cons g (RpL.set i r h)
theorem RpL.take:∀{l:AR}{xs:AQ} (n:Nat),RpL K G l xs->RpL K G (l.take n) (xs.take n)
 | _,_,0,_=>.nil
 | [],_,_+1,r=>by subst r;exact .nil
 | d::l,_,n+1,r=>by
   obtain⟨x,xs,rfl,g,r⟩:=r;exact .cons g (.take n r)
theorem RpL.drop:∀{l:AR}{xs:AQ} (n:Nat),RpL K G l xs->RpL K G (l.drop n) (xs.drop n)
 | _,_,0,r=>r
 | [],_,_+1,r=>by subst r;exact .nil
 | d::l,_,n+1,r=>by
   obtain⟨x,xs,rfl,g,r⟩:=r;exact .drop n r
theorem RpL.ints:∀(ns:AG),RpL K G (ns.map D.int) (ns.map V.int)
 | []=>.nil
 | n::ns=>.cons (by rw[Rp]) (.ints ns)
end
structure Gr(H G H' G':Hp):Prop where
 h:Same H H'
 g:Same G G'
 s:Same G' H'
 n:∀a,G a=none->G' a≠none->H a=none
def Gr.refl(s:Same G H):Gr H G H G:=⟨.refl _,.refl _,s,λ_ h a=>absurd h a⟩
def Gr.trans(a:Gr H G f c)(b:Gr f c d G2):Gr H G d G2:=
 ⟨a.h.trans b.h,a.g.trans b.g,b.s,λx h i=>by
  by_cases e:c x=none
  .exact a.h.free (b.n x e i)
  .exact a.n x h e⟩
theorem Gr.new(s:Same G H)(a:H p=none)(o:HO):Gr H G (upd H p o) (upd G p o):=by
 refine⟨λb u e=>?_,λb u e=>?_,λb u e=>?_,λb h c=>?_⟩
 .rwa [Yh (Yl e a)]
 .rwa [Yh (Yl e (s.free a))]
 .by_cases q:b=p
  .subst q;rwa [Yi]at e ⊢
  .rw[Yh q]at e ⊢;exact s _ _ e
 .by_cases q:b=p
  .grind
  .rw[Yh q]at c;symm
def Gr.hid(s:Same G H)(a:H p=none)(o:HO):Gr H G (upd H p o) G:=by
 refine⟨λb u e=>?_,.refl _,λb u e=>?_,λb h c=>absurd h c⟩
 .rwa [Yh (Yl e a)]
 .rw[Yh (Yl e (s.free a))];exact s _ _ e
theorem Gr.show(g:Gr H G H' d)(c:H p=none)(a:d p=none)(e:H' p=some o):Gr H G H' (upd d p o):=by
 refine⟨g.h,λb u q=>?_,λb u q=>?_,λb h f=>?_⟩
 .have:=g.g b u q
  rwa [Yh (Yl this a)]
 .by_cases z:b=p
  .subst z;rw[Yi]at q;symm
  .rw[Yh z]at q;exact g.s b u q
 .by_cases z:b=p
  .grind
  .rw[Yh z]at f;exact g.n b h f
def Ct(K:W7)(G H:Hp):D->V->Prop
 | .non,v=>v=.non
 | .bl b,v=>v=.bl b
 | .int i,v=>v=.int i
 | .str x,v=>v=.str x/\PyData.strOk x=true
 | .tup l,v=>∃a f,v=.ref a/\(H a=some (.tup f)/\G a=some (.tup f))/\RpL K G l f
 | .lst l,v=>∃a f,v=.ref a/\Rd H a (.lst f)/\RpL K G l f
 | .scr k,v=>∃a,v=.ref a/\SqL K H a (k.map .int)
 | .dct t h j,v=>∃a d g,v=.ref a/\Dc t G H a d g/\RpL K G h d/\RpL K G j g
 | .obj c h j,v=>∃a C e f,v=.ref a/\W.nsIn K mainGlobals c=some (some (.ref C))/\G a=some (.ins C e (h.zip f))/\f.length=h.length/\RpL K G j f
 | .adr a,v=>v=.ref a
def Ct.of(s:Same G H)(r:Rp K G d v):Ct K G H d v:=by
 cases d<;>rw[Rp]at r<;>rw[Ct]
 .exact r
 .exact r
 .exact r
 .exact r
 .obtain⟨a,i,e,g,q⟩:=r
  exact⟨a,i,e,⟨s _ _ g,g⟩,q⟩
 .obtain⟨a,i,e,g,q⟩:=r
  exact⟨a,i,e,dv s g,q⟩
 .obtain⟨a,e,g⟩:=r
  exact⟨a,e,s.seq g⟩
 .obtain⟨a,b,h,e,g,f,c⟩:=r
  exact⟨a,b,h,e,g.mono (.refl _) λo=>s _ o,f,c⟩
 .exact r
 .exact r
def Ct.rp(s:Same G H)(r:Ct K G H d v):Rp K H d v:=by
 cases d<;>rw[Ct]at r<;>rw[Rp]
 .exact r
 .exact r
 .exact r
 .exact r
 .obtain⟨a,i,e,g,q⟩:=r
  exact⟨a,i,e,g.1,q.mono s⟩
 .obtain⟨a,i,e,g,q⟩:=r
  exact⟨a,i,e,g,q.mono s⟩
 .exact r
 .obtain⟨a,b,j,e,g,h,c⟩:=r
  exact⟨a,b,j,e,g.mono s λ_ z=>z,h.mono s,c.mono s⟩
 .obtain⟨a,C,f,i,e,n,g,l,q⟩:=r
  exact⟨a,C,f,i,e,n,s _ _ g,l,q.mono s⟩
 .exact r
def Ct.grow(g:Gr H G H' m)(r:Ct K G H d v):Ct K m H' d v:=by
 cases d<;>rw[Ct]at r<;>rw[Ct]
 .exact r
 .exact r
 .exact r
 .exact r
 .obtain⟨a,j,e,h,q⟩:=r
  exact⟨a,j,e,⟨g.h _ _ h.1,g.g _ _ h.2⟩,q.mono g.g⟩
 .obtain⟨a,j,e,h,q⟩:=r
  exact⟨a,j,e,dv g.h h,q.mono g.g⟩
 .obtain⟨a,e,h⟩:=r
  exact⟨a,e,g.h.seq h⟩
 .obtain⟨a,b,k,e,h,i,c⟩:=r
  exact⟨a,b,k,e,h.mono g.g λo=>g.h _ o,i.mono g.g,c.mono g.g⟩
 .obtain⟨a,C,f,j,e,n,h,l,q⟩:=r
  exact⟨a,C,f,j,e,n,g.g _ _ h,l,q.mono g.g⟩
 .exact r
def jK(K:W7)(G H:Hp):AR->AQ->Prop
 | [],xs=>xs=[]
 | d::l,xs=>∃x r,xs=x::r/\Ct K G H d x/\jK K G H l r
inductive B where
 | sh (d:D)|ow (l:AR)|od (t:Bool) (ks vs:AR)
abbrev AS:=Option B
abbrev Ro:=List AS
abbrev AX:=Ro->Option AR
abbrev AW:=Ro->Option D
abbrev AV:=Ro->Option Bool
abbrev AU:=D->Ro->Option Ro
structure SR(K:W7)(H0 G0:Hp)(σ:L2.St)(H G:Hp)(ρ:Ro):Prop where
 gr:Gr H0 G0 H G
 len:σ.length=ρ.length
 sh:∀(i:Nat) d,ρ[i]?=some (some (B.sh d))->∃v,σ[i]?=some (some v)/\Rp K G d v
 ow:∀(i:Nat) l,ρ[i]?=some (some (B.ow l))->∃a xs,σ[i]?=some (some (V.ref a))/\G a=none/\H0 a=none/\H a=some (.lst xs)/\RpL K G l xs
 ap:∀(i j:Nat) l l' a b,ρ[i]?=some (some (B.ow l))->ρ[j]?=some (some (B.ow l'))->i≠j->σ[i]?=some (some (V.ref a))->σ[j]?=some (some (V.ref b))->a≠b
 od:∀(i:Nat) t ks vs,ρ[i]?=some (some (B.od t ks vs))->∃a kxs vxs,σ[i]?=some (some (V.ref a))/\G a=none/\H0 a=none/\Dc t G H a kxs vxs/\RpL K G ks kxs/\RpL K G vs vxs
 apd:∀(i j:Nat) t ks vs t' ks' vs' a b,ρ[i]?=some (some (B.od t ks vs))->ρ[j]?=some (some (B.od t' ks' vs'))->i≠j->σ[i]?=some (some (V.ref a))->σ[j]?=some (some (V.ref b))->a≠b
section
variable {H G H' G':Hp}{σ:L2.St}{ρ:Ro}
def SR.mkSh(g:Gr H0 G0 H G)(e:σ.length=ρ.length)(n:∀(i:Nat) d,ρ[i]?=some (some (B.sh d))->∃v,σ[i]?=some (some v)/\Rp K G d v)(f:∀(i:Nat) l,ρ[i]?≠some (some (B.ow l)))(c:∀(i:Nat) t ks vs,ρ[i]?≠some (some (B.od t ks vs))):SR K H0 G0 σ H G ρ:=
 ⟨g,e,n,λi l h=>absurd h (f i l),λi j l o a b h=>absurd h (f i l),λi t ks vs h=>absurd h (c i t ks vs),λi j t ks vs p k m a b h=>absurd h (c i t ks vs)⟩
theorem Gk(g:Gr H G H' G')(h:H a=some o)(n:G a=none):G' a=none:=by
 cases q:G' a with
 | none=>rfl
 | some o=>
   have:=g.n a n ⋯;symm
def SR.grow(s:SR K H0 G0 σ H G ρ)(g:Gr H G H' G'):SR K H0 G0 σ H' G' ρ:=by
 refine⟨s.gr.trans g,s.len,λi d e=>?_,λi l e=>?_,s.ap,λi t r q e=>?_,s.apd⟩
 .obtain⟨v,f,b⟩:=s.sh i d e
  exact⟨v,f,b.mono g.g⟩
 .obtain⟨a,u,f,b,k,c,j⟩:=s.ow i l e
  exact⟨a,u,f,Gk g c b,k,g.h _ _ c,j.mono g.g⟩
 .obtain⟨a,h,p,f,b,k,c,j,m⟩:=s.od i t r q e
  obtain⟨o,n,_⟩:=c.some;exact⟨a,h,p,f,Gk g n b,k,c.mono g.g λo=>g.h _ o,j.mono g.g,m.mono g.g⟩
def SR.seen(s:SR K H0 G0 σ H G ρ):Same G H:=s.gr.s
theorem Yg{a:Type}{l:List a}{x y:a}(h:(l.set i x)[j]?=some y):(j=i/\y=x/\i<l.length)\/(j≠i/\l[j]?=some y):=by symm
theorem SR.set_sh(s:SR K H0 G0 σ H G ρ)(i:Nat)(r:Rp K G d v):SR K H0 G0 (σ.set i (some v)) H G (ρ.set i (↑d)):=by
 refine⟨s.gr,by simp[s.len],λj e h=>?_,λj l h=>?_,λj k l A a b c f p n m=>?_,λj t D E h=>?_,λj k t D E I o q a b c f p n m=>?_⟩
 .rcases Yg h with⟨rfl,C,x⟩|⟨g,h⟩
  .cases C
   exact⟨v,by rw[List.getElem?_set_self (by rw[s.len];exact x)],r⟩
  .obtain⟨w,y,z⟩:=s.sh j e h
   symm
 .rcases Yg h with⟨rfl,C,x⟩|⟨g,h⟩
  .cases C
  .obtain⟨a,J,y,z⟩:=s.ow j l h
   symm
 .rcases Yg c with⟨rfl,C,_⟩|⟨g,c⟩
  .cases C
  .rcases Yg f with⟨rfl,C,_⟩|⟨u,f⟩
   .cases C
   .rw[Qp (.symm g)]at n
    rw[Qp (.symm u)]at m;exact s.ap j k l A a b c f p n m
 .rcases Yg h with⟨rfl,C,x⟩|⟨g,h⟩
  .cases C
  .obtain⟨a,B,F,y,z⟩:=s.od j t D E h
   symm
 .rcases Yg c with⟨rfl,C,_⟩|⟨g,c⟩
  .cases C
  .rcases Yg f with⟨rfl,C,_⟩|⟨u,f⟩
   .cases C
   .rw[Qp (.symm g)]at n
    rw[Qp (.symm u)]at m;exact s.apd j k t D E I o q a b c f p n m
theorem SR.set_ow(s:SR K H0 G0 σ H G ρ)(i:Nat)(g:Gr H G H' G')(E:H p=none)(I:G' p=none)(e:H' p=some (.lst xs))(r:RpL K G' l xs):SR K H0 G0 (σ.set i (some (.ref p))) H' G' (ρ.set i (some (.ow l))):=by
 have M:=s.grow g
 have L:∀(j:Nat) l a,_->σ[j]?=some (some (V.ref a))->a≠p:=λj l a d c z=>by
  obtain⟨b,T,y,_,_,J,_⟩:=s.ow j l d
  ext
 refine⟨M.gr,by simp[s.len],λj e h=>?_,λj l h=>?_,λj k l F a b d c q m n=>?_,λj t N O h=>?_,λj k t N O R x v a b d c q m n=>?_⟩
 .rcases Yg h with⟨rfl,B,o⟩|⟨f,h⟩
  .cases B
  .obtain⟨w,y,C⟩:=M.sh j e h
   symm
 .rcases Yg h with⟨rfl,B,o⟩|⟨f,h⟩
  .cases B
   exact⟨p,xs,by rw[List.getElem?_set_self (by rw[s.len];exact o)],I,s.gr.h.free E,e,r⟩
  .obtain⟨a,xs,y,C⟩:=M.ow j l h
   symm
 .rcases Yg d with⟨rfl,B,o⟩|⟨f,u⟩
  .grind
  .rcases Yg c with⟨rfl,S,o⟩|⟨A,c⟩
   .grind
   .rw[Qp (Ne.symm f)]at m
    rw[Qp (Ne.symm A)]at n;exact s.ap j k l F a b u c q m n
 .rcases Yg h with⟨rfl,B,o⟩|⟨f,h⟩
  .cases B
  .obtain⟨a,D,Q,y,C⟩:=M.od j t N O h
   symm
 .rcases Yg d with⟨rfl,B,_⟩|⟨f,d⟩
  .cases B
  .rcases Yg c with⟨rfl,B,_⟩|⟨A,c⟩
   .cases B
   .rw[Qp (Ne.symm f)]at m
    rw[Qp (Ne.symm A)]at n;exact s.apd j k t N O R x v a b d c q m n
theorem SR.mut(s:SR K H0 G0 σ H G ρ)(O:ρ[i]?=some (some (B.ow l)))(E:σ[i]?=some (some (V.ref a)))(r:RpL K G P ys):SR K H0 G0 σ (upd H a (.lst ys)) G (ρ.set i (some (.ow P))):=by
 obtain⟨T,xs,N,M,L,Y,Z⟩:=s.ow i l O;rw[E]at N;cases N;refine⟨⟨λb o e=>?_,s.gr.g,λb o e=>?_,s.gr.n⟩,by simp[s.len],λj e h=>?_,λj m h=>?_,λj k m F b c d f v y J=>?_,λj t ks vs h=>?_,λj k t ks vs t' C D b c d f v y J=>?_⟩
 .rw[Yh (Yl e L)];exact s.gr.h b o e
 .rw[Yh (Yl e M)];exact s.gr.s b o e
 .rcases Yg h with⟨rfl,e1,_⟩|⟨n,h⟩
  .cases e1
  .exact s.sh j e h
 .rcases Yg h with⟨rfl,e1,_⟩|⟨n,h⟩
  .cases e1
   exact⟨a,ys,E,M,L,Yi,r⟩
  .obtain⟨b,R,p,I,x,u,w⟩:=s.ow j m h
   exact⟨b,R,p,I,x,by rw[Yh (s.ap j i m l b a h O n p E)];exact u,w⟩
 .have g:∀(j:Nat) m,(ρ.set i (some (.ow P)))[j]?=some (some (.ow m))->∃F,ρ[j]?=some (some (.ow F)):=λj m h=>by
   symm
  obtain⟨S,e1⟩:=g j m d;obtain⟨Q,e2⟩:=g k F f;exact s.ap j k S Q b c e1 e2 v y J
 .rcases Yg h with⟨rfl,e1,_⟩|⟨n,h⟩
  .cases e1
  .obtain⟨b,A,vxs,p,I,x,u,w⟩:=s.od j t ks vs h
   refine⟨b,A,vxs,p,I,x,u.mono (.refl _) λo q=>?_,w⟩;obtain⟨W,q',X⟩:=u.some;rw[Yh (λz=>by symm)];exact q
 .rcases Yg d with⟨rfl,e1,_⟩|⟨n,d⟩
  .cases e1
  .rcases Yg f with⟨rfl,e1,_⟩|⟨U,f⟩
   .cases e1
   .exact s.apd j k t ks vs t' C D b c d f v y J
theorem SR.freezeT(s:SR K H0 G0 σ H G ρ)(I:ρ[i]?=some (some (B.ow l))):∃G',SR K H0 G0 σ H G' (ρ.set i (↑(.lst l)))/\∀b ys,G' b=some (.tup ys)->G b=some (.tup ys):=by
 obtain⟨a,xs,F,O,R,U,V⟩:=s.ow i l I
 have g:Same G (upd G a (.lst xs)):=λb o e=>by rwa [Yh (Yl e O)]
 refine⟨upd G a _,⟨⟨s.gr.h,s.gr.g.trans g,λb o e=>?_,λb h h'=>?_⟩,by simp[s.len],λj e h=>?_,λj m h=>?_,λj k m L b c d f y D E=>?_,λj t Z vs h=>?_,λj k t Z vs t' A x b c d f y D E=>?_⟩,λb ys e=>by
  by_cases z:b=a
  .subst z;rw[Yi]at e;cases e
  .rwa [Yh z]at e⟩
 .by_cases z:b=a
  .subst z;rw[Yi]at e;symm
  .rw[Yh z]at e;exact s.gr.s b o e
 .by_cases z:b=a
  .grind
  .rw[Yh z]at h';exact s.gr.n b h h'
 .rcases Yg h with⟨rfl,Y,_⟩|⟨p,h⟩
  .cases Y
   exact⟨_,F,⟨a,xs,rfl,.inl Yi,V.mono g⟩⟩
  .obtain⟨v,n,q⟩:=s.sh j e h
   exact⟨v,n,q.mono g⟩
 .rcases Yg h with⟨rfl,Y,_⟩|⟨p,h⟩
  .cases Y
  .obtain⟨b,J,n,q,C,r,w⟩:=s.ow j m h
   exact⟨b,J,n,by rwa [Yh (s.ap j i m l b a h I p n F)],C,r,w.mono g⟩
 .rcases Yg d with⟨rfl,Y,_⟩|⟨p,d⟩
  .cases Y
  .rcases Yg f with⟨rfl,Y,_⟩|⟨N,f⟩
   .cases Y
   .exact s.ap j k m L b c d f y D E
 .rcases Yg h with⟨rfl,Y,_⟩|⟨p,h⟩
  .cases Y
  .obtain⟨b,u,vxs,n,q,C,r,w,M⟩:=s.od j t Z vs h
   obtain⟨S,Q,T⟩:=r.some;exact⟨b,u,vxs,n,by rwa [Yh (λz=>by symm)],C,r.mono g λ_ z=>z,w.mono g,M.mono g⟩
 .rcases Yg d with⟨rfl,Y,_⟩|⟨p,d⟩
  .cases Y
  .rcases Yg f with⟨rfl,Y,_⟩|⟨N,f⟩
   .cases Y
   .exact s.apd j k t Z vs t' A x b c d f y D E
theorem SR.freeze(s:SR K H0 G0 σ H G ρ)(a:ρ[i]?=some (some (B.ow l))):∃G',SR K H0 G0 σ H G' (ρ.set i (↑(.lst l))):=by
 obtain⟨G',h,_⟩:=s.freezeT a;symm
theorem SR.freezedT(s:SR K H0 G0 σ H G ρ)(F:ρ[i]?=some (some (B.od t ks vs))):∃G',SR K H0 G0 σ H G' (ρ.set i (↑(.dct t ks vs)))/\∀b ys,G' b=some (.tup ys)->G b=some (.tup ys):=by
 obtain⟨a,A,vxs,J,M,X,C,O,S⟩:=s.od i t ks vs F;obtain⟨o,T,Y⟩:=C.some
 have d:Same G (upd G a o):=λb o e=>by rwa [Yh (Yl e M)]
 obtain⟨Z,V,W⟩:=C.someT
 refine⟨upd G a o,⟨⟨s.gr.h,s.gr.g.trans d,λb I e=>?_,λb h h'=>?_⟩,by simp[s.len],λj e h=>?_,λj m h=>?_,λj k m P b c f g q u E=>?_,λj t ks vs h=>?_,λj k t ks vs t' D w b c f g q u E=>?_⟩,λb ys e=>by
  by_cases z:b=a
  .subst z;rw[Yi]at e;symm
  .rwa [Yh z]at e⟩
 .by_cases z:b=a
  .subst z;rw[Yi]at e;symm
  .rw[Yh z]at e;exact s.gr.s b I e
 .by_cases z:b=a
  .grind
  .rw[Yh z]at h';exact s.gr.n b h h'
 .rcases Yg h with⟨rfl,e1,_⟩|⟨n,h⟩
  .cases e1
   refine⟨_,J,⟨a,A,vxs,rfl,C.mono d λI z=>?_,O.mono d,S.mono d⟩⟩;rw[T]at z
   rwa [Yi]
  .obtain⟨v,l,p⟩:=s.sh j e h
   exact⟨v,l,p.mono d⟩
 .rcases Yg h with⟨rfl,e1,_⟩|⟨n,h⟩
  .cases e1
  .obtain⟨b,U,l,p,x,y,r⟩:=s.ow j m h
   exact⟨b,U,l,by rwa [Yh (λz=>by symm)],x,y,r.mono d⟩
 .rcases Yg f with⟨rfl,e1,_⟩|⟨n,f⟩
  .cases e1
  .rcases Yg g with⟨rfl,e1,_⟩|⟨N,g⟩
   .cases e1
   .exact s.ap j k m P b c f g q u E
 .rcases Yg h with⟨rfl,e1,_⟩|⟨n,h⟩
  .cases e1
  .obtain⟨b,L,Q,l,p,x,y,r,R⟩:=s.od j t ks vs h
   exact⟨b,L,Q,l,by rwa [Yh (s.apd j i _ _ _ _ _ _ b a h F n l J)],x,y.mono d λ_ z=>z,r.mono d,R.mono d⟩
 .rcases Yg f with⟨rfl,e1,_⟩|⟨n,f⟩
  .cases e1
  .rcases Yg g with⟨rfl,e1,_⟩|⟨N,g⟩
   .cases e1
   .exact s.apd j k t ks vs t' D w b c f g q u E
theorem SR.freezed(s:SR K H0 G0 σ H G ρ)(a:ρ[i]?=some (some (B.od t ks vs))):∃G',SR K H0 G0 σ H G' (ρ.set i (↑(.dct t ks vs))):=by
 obtain⟨G',h,_⟩:=s.freezedT a;symm
def Le(ρ ρ':Ro):Prop:=ρ.length=ρ'.length/\∀(i:Nat) b,ρ[i]?=some (some b)->ρ'[i]?=some (some b)
def SR.le(s:SR K H0 G0 σ H G ρ')(h:Le ρ ρ'):SR K H0 G0 σ H G ρ:=
 ⟨s.gr,s.len.trans h.1.symm,λi d e=>s.sh i d (h.2 i _ e),λi l e=>s.ow i l (h.2 i _ e),λi j l g a b m n=>s.ap i j l g a b (h.2 i _ m) (h.2 j _ n),
  λi t o k e=>s.od i t o k (h.2 i _ e),λi j t o k p f c a b m n=>s.apd i j t o k p f c a b (h.2 i _ m) (h.2 j _ n)⟩
theorem SR.rebase(s:SR K H0 G0 σ H G ρ):∃p,SR K p G σ H G ρ/\∀σ' H' G' ρ',SR K p G σ' H' G' ρ'->SR K H0 G0 σ' H' G' ρ':=by
 classical
 let c:=λa=>∃(i:Nat),((∃l:AR,ρ[i]?=some (some (.ow l)))\/(∃t v u,ρ[i]?=some (some (.od t v u))))/\σ[i]?=some (some (.ref a))
 have B:∀a,c a->H0 a=none:=λa n=>by
  obtain⟨i,x,C⟩:=n;rcases x with⟨l,x⟩|⟨t,v,u,x⟩
  .obtain⟨b,A,d,_,j,_⟩:=s.ow i l x
   symm
  .obtain⟨b,f,w,d,_,j,_⟩:=s.od i t v u x
   symm
 have k:∀a,(if c a then none else H a)=none->_:=λa h=>by
  by_cases o:c a
  .exact B a o
  .rw[if_neg o]at h;exact s.gr.h.free h
 refine⟨λa=>if c a then none else H a,⟨⟨λb o e=>?_,.refl _,s.gr.s,λ_ h y=>absurd h y⟩,s.len,s.sh,λi l e=>?_,s.ap,λi t v u e=>?_,s.apd⟩,λσ' H' G' ρ' t=>⟨⟨λb o e=>?_,s.gr.g.trans t.gr.g,t.gr.s,λb h y=>?_⟩,t.len,t.sh,λi l e=>?_,t.ap,λi r v u e=>?_,t.apd⟩⟩
 .simp_all
 .obtain⟨a,A,d,g,j,m,q⟩:=s.ow i l e
  exact⟨a,A,d,g,if_pos ⟨i,.inl ⟨l,e⟩,d⟩,m,q⟩
 .obtain⟨a,f,w,d,g,j,m⟩:=s.od i t v u e
  exact⟨a,f,w,d,g,if_pos ⟨i,.inr ⟨t,v,u,e⟩,d⟩,m⟩
 .refine t.gr.h b o ?_
  have z:¬c b:=λz=>by ext
  rw[if_neg z];exact s.gr.h b o e
 .by_cases z:G b=none
  .exact k b (t.gr.n b z y)
  .exact s.gr.n b h z
 .obtain⟨a,A,d,g,j,m,q⟩:=t.ow i l e
  ext
 .obtain⟨a,f,w,d,g,j,m⟩:=t.od i r v u e
  symm
end
def tOf(K:W7)(f:AW):TE:=λh H Q=>∃c d b a G,f c=some d/\SR K b a h H G c/\∀v e g,Gr H G e g->Rp K g d v->Q v e
def tCof(K:W7)(f:AW):TE:=λh H Q=>∃e d b a G,f e=some d/\SR K b a h H G e/\∀v c g,Gr H G c g->Ct K g c d v->Q v c
def tCAof(K:W7)(f:AX):TA:=λh H Q=>∃e l b a G,f e=some l/\SR K b a h H G e/\∀g c d,Gr H G c d->jK K d c l g->Q g c
def fX(K:W7)(f:AX):TE:=λh H Q=>∃e l b a G,f e=some l/\SR K b a h H G e/\∀p g d c,Gr H G d c->H p=none->c p=none->d p=some (.lst g)->RpL K c l g->Q (.ref p) d
def tTof(K:W7)(f:AV):TT:=λg H Q=>∃d b c a G,f d=some b/\SR K c a g H G d/\∀e h,Gr H G e h->Q b e
def tAof(K:W7)(f:AX):TA:=λh H Q=>∃e l b a G,f e=some l/\SR K b a h H G e/\∀g d c,Gr H G d c->RpL K c l g->Q g d
def Wk(K:W7)(J:It)(g:Hp)(f:AR):Prop:=f.length<=sizeLine/\∀(i:Nat) a b,Same g b->Same b a->
 (∀d,f[i]?=some d->J.go i a/\∀y e,J.yld i a y e->∃c,Gr a b e c/\Rp K c d y)/\(f.length<=i->J.stop i a)
def k7(K:W7)(f:AX):TI:=λh H R=>∃c e b a G,f c=some e/\SR K b a h H G c/\∀J d g,Gr H G d g->Wk K J g e->R J d
inductive Out where
 | nx (ρ:Ro)|rt (d:D)|bk (ρ:Ro)|ct (ρ:Ro)
abbrev AT:=Ro->Option Out
def xa(K:W7)(b a:Hp)(F:Ends):Out->Prop
 | .nx f=>∀c e g,SR K b a c e g f->F.nx c e
 | .rt d=>∀v e g,Gr b a e g->Rp K g d v->F.rt v e
 | .bk f=>∀c e g,SR K b a c e g f->F.bk c e
 | .ct f=>∀c e g,SR K b a c e g f->F.ct c e
def oB(K:W7)(f:AT):TS:=λF e H=>∃d c b a G,f d=some c/\SR K b a e H G d/\xa K b a F c
def Gm(K:W7)(gt:AU):TG:=λv g H Q=>∃d f e b a G,gt d f=some e/\SR K b a g H G f/\Rp K G d v/\∀c,SR K b a c H G e->Q c H
abbrev ME(X:Cx)(e:Expr)(f:AW):Prop:=PE X e (tOf X.K f)
abbrev MC(X:Cx)(e:Expr)(f:AW):Prop:=PE X e (tCof X.K f)
abbrev oE(X:Cx)(a:AL)(f:AX):Prop:=PA X a (tCAof X.K f)
abbrev MF(X:Cx)(e:Expr)(f:AX):Prop:=PE X e (fX X.K f)
abbrev MT(X:Cx)(e:Expr)(f:AV):Prop:=PT X e (tTof X.K f)
abbrev MA(X:Cx)(a:AL)(f:AX):Prop:=PA X a (tAof X.K f)
abbrev MI(X:Cx)(b a:Expr)(f:AX):Prop:=PI X b a (k7 X.K f)
abbrev MS(X:Cx)(st:Stmt)(f:AT):Prop:=PS X st (oB X.K f)
abbrev MB(X:Cx)(a:List Stmt)(f:AT):Prop:=PSs X a (oB X.K f)
abbrev MG(X:Cx)(a:Expr)(gt:AU):Prop:=PG X a (Gm X.K gt)
section
def PE.imp(h:PE X e t)(i:∀σ H Q,t' σ H Q->t σ H Q):PE X e t':=λb s σ H Q I a=>h _ s σ H Q I (i σ H Q a)
def PT.imp(h:PT X e t)(i:∀σ H Q,t' σ H Q->t σ H Q):PT X e t':=λb s σ H Q I a=>h _ s σ H Q I (i σ H Q a)
def PA.imp(h:PA X c t)(i:∀σ H Q,t' σ H Q->t σ H Q):PA X c t':=λa d s σ H Q I b=>h a _ s σ H Q I (i σ H Q b)
def PS.imp{st:Stmt}(h:PS X st t)(i:∀F σ H,t' F σ H->t F σ H):PS X st t':=λb s σ H F I a=>h _ s σ H F I (i F σ H a)
def PSs.imp{st:List Stmt}(h:PSs X st t)(i:∀F σ H,t' F σ H->t F σ H):PSs X st t':=λb s σ H F I a=>h _ s σ H F I (i F σ H a)
def PI.imp(h:PI X a e t)(i:∀σ H R,t' σ H R->t σ H R):PI X a e t':=λc s σ H R I b=>h _ s σ H R I (i σ H R b)
def PG.imp(h:PG X e t)(i:∀v σ H Q,t' v σ H Q->t v σ H Q):PG X e t':=λb s σ H v u Q I r a=>h _ s σ H v u Q I r (i v σ H Q a)
variable {H G:Hp}{σ:L2.St}{ρ:Ro}
def tOf.at(e:f ρ=some d)(s:SR K H0 G0 σ H G ρ)(h:∀v H' a,Gr H G H' a->Rp K a d v->SR K H0 G0 σ H' a ρ->Q v H'):tOf K f σ H Q:=
 ⟨ρ,d,H0,G0,G,e,s,λv H' a g r=>h v H' a g r (s.grow g)⟩
def tCof.at(e:f ρ=some d)(s:SR K H0 G0 σ H G ρ)(h:∀v H' a,Gr H G H' a->Ct K a H' d v->SR K H0 G0 σ H' a ρ->Q v H'):tCof K f σ H Q:=
 ⟨ρ,d,H0,G0,G,e,s,λv H' a g r=>h v H' a g r (s.grow g)⟩
def tCAof.at(e:f ρ=some l)(s:SR K H0 G0 σ H G ρ)(h:∀vs H' a,Gr H G H' a->jK K a H' l vs->SR K H0 G0 σ H' a ρ->Q vs H'):tCAof K f σ H Q:=
 ⟨ρ,l,H0,G0,G,e,s,λv H' a g r=>h v H' a g r (s.grow g)⟩
def ME.mc(h:ME X e f):MC X e f:=PE.imp h λk H Q ⟨c,d,b,a,G,e,s,h⟩=>⟨c,d,b,a,G,e,s,λv i j g r=>h v i j g (.of g.s r)⟩
def tTof.at(e:f ρ=some b)(s:SR K H0 G0 σ H G ρ)(h:∀H' a,Gr H G H' a->SR K H0 G0 σ H' a ρ->Q b H'):tTof K f σ H Q:=
 ⟨ρ,b,H0,G0,G,e,s,λH' a g=>h H' a g (s.grow g)⟩
def tAof.at(e:f ρ=some l)(s:SR K H0 G0 σ H G ρ)(h:∀vs H' a,Gr H G H' a->RpL K a l vs->SR K H0 G0 σ H' a ρ->Q vs H'):tAof K f σ H Q:=
 ⟨ρ,l,H0,G0,G,e,s,λv H' a g r=>h v H' a g r (s.grow g)⟩
end
noncomputable def b2{a:Type}(b fb:AW)(g:D->D->Option a):Ro->Option a:=λc=>(b c).bind λx=>(fb c).bind λy=>g x y
def b1{a:Type}(b:AW)(g:D->Option a):Ro->Option a:=λc=>(b c).bind g
theorem oG(h:b2 a fb g ρ=some r):∃x y,a ρ=some x/\fb ρ=some y/\g x y=some r:=by
 obtain⟨x,c,h⟩:=qa h;obtain⟨y,b,h⟩:=qa h
 ext
theorem dM(h:b1 a g ρ=some r):∃x,a ρ=some x/\g x=some r:=by
 obtain⟨x,b,h⟩:=qa h;symm
def eI(K:W7)(r:R2)(g:D->D->Option D):Prop:=∀(x y:V) (b a d:D) (H G:Hp) (Q:VK),g b a=some d->Same G H->Ct K G H b x->Ct K G H a y->(∀v e c,Gr H G e c->Rp K c d v->Q v e)->r x y H Q
def eR(K:W7)(r:R2)(g:D->D->Option Bool):Prop:=∀(x y:V) (c a:D) (b:Bool) (H G:Hp) (Q:VK),g c a=some b->Same G H->Ct K G H c x->Ct K G H a y->Q (.bl b) H->r x y H Q
def cX(K:W7)(r:AQ->Hp->VK->Prop)(g:AR->Option D):Prop:=∀(a:AQ) (c:AR) (d:D) (H G:Hp) (Q:VK),g c=some d->Same G H->jK K G H c a->(∀v b e,Gr H G b e->Rp K e d v->Q v b)->r a H Q
def fv(K:W7)(r:AQ->Hp->VK->Prop)(g:AR->Option AR):Prop:=∀(c:AQ) (d l:AR) (H G:Hp) (Q:VK),g d=some l->Same G H->jK K G H d c->
 (∀p e b a,Gr H G b a->H p=none->a p=none->b p=some (.lst e)->RpL K a l e->Q (.ref p) b)->r c H Q
section
variable {a b c e:Expr}{fb fc f:AW}{ga:AX}
noncomputable def ab(i:Nat):AW:=λa=>match a[i]? with
 | some (some (.sh d))=>some d
 | _=>none
def cL(i:Nat):AX:=λa=>match a[i]? with
 | some (some (.ow l))=>some l
 | _=>none
theorem Mv(h:ab i ρ=some d):ρ[i]?=some (some (B.sh d)):=by
 unfold ab at h;symm
theorem oH(h:cL i ρ=some l):ρ[i]?=some (some (B.ow l)):=by
 unfold cL at h;symm
noncomputable def aa(i:Nat):AW:=λc=>match c[i]? with
 | some (some (.sh d))=>some d
 | some (some (.ow l))=>some (.lst l)
 | some (some (.od t b a))=>some (.dct t b a)
 | _=>none
noncomputable def kD(d:D):AW:=λ_=>some d
abbrev Zb(i:Int):=kD (.int i)
def k8(h:PE X e t)(j:∀σ H Q,Q v H->t σ H Q)(i:∀G,Rp X.K G d v):ME X e (kD d):=
 PE.imp h λσ H Q g=>by
  obtain⟨a,b,l,k,G,e,s,h⟩:=g;cases e;exact j σ H Q (h v H G (.refl s.seen) (i G))
def xb{j}:ME X (.Constant (.int i) j pos) (Zb i):=k8 Fg (λ_ _ _ q=>q) λ_=>by rw[Rp]
def xc{j}:ME X (.Constant (.bool k) j pos) (kD (.bl k)):=k8 tS (λ_ _ _ q=>q) λ_=>by rw[Rp]
def xf{j}:ME X (.Constant .none j pos) (kD .non):=k8 tU (λ_ _ _ q=>q) λ_=>by rw[Rp]
def Gn(m:eI K r g)(h:tOf K (b2 fa fb g) σ H Q):hV r (tCof K fa) (tCof K fb) σ H Q:=by
 obtain⟨c,d,I,J,G,e,s,h⟩:=h;obtain⟨n,C,y,k,z⟩:=oG e;exact tCof.at y s λv E F p t l=>tCof.at k l λu j B i q x=>m v u n C d j B Q z x.seen (t.grow i) q λw a b o A=>h w a b ((p.trans i).trans o) A
def xg(m:eR K r g)(h:tTof K (b2 fa fb g) σ H Q):kL (hV r (tCof K fa) (tCof K fb)) σ H Q:=by
 obtain⟨a,d,B,E,G,e,s,h⟩:=h;obtain⟨n,y,t,w,l⟩:=oG e;exact tCof.at t s λv C A o q z=>tCof.at w z λu j k i p x=>m v u n y d j k _ l x.seen (q.grow i) p ⟨d,rfl,h j k (o.trans i)⟩
def mB(f:AV):AW:=λa=>(f a).map .bl
theorem oJ{f:AV}(h:mB f ρ=some d):∃b,f ρ=some b/\d=.bl b:=by
 obtain⟨b,g,i⟩:=qc h;symm
def Mw(m:eR K r g)(h:tOf K (mB (b2 fa fb g)) σ H Q):hV r (tCof K fa) (tCof K fb) σ H Q:=by
 obtain⟨a,d,C,F,G,e,s,h⟩:=h;obtain⟨b,o,rfl⟩:=oJ e;obtain⟨n,z,w,x,l⟩:=oG o;exact tCof.at w s λv E B p t A=>tCof.at x A λu j k i q y=>m v u n z b j k _ l y.seen (t.grow i) q (h _ j k (p.trans i) (by rw[Rp]))
def jL(j:bV X (binaryOp op) r)(i:eI X.K r g)(d:MC X a fa)(c:MC X b fb):ME X (.BinOp a op b pos) (b2 fa fb g):=PE.imp (hY j d c) λ_ _ _ h=>Gn i h
def iu(k:bV X (compareOp op) r)(i:eR X.K r g)(d:MC X a fa)(e:MC X b fb)(j:behindInMarks op b=false):ME X (.Compare a [op] [b] pos) (mB (b2 fa fb g)):=PE.imp (Fy k d e j) λ_ _ _ h=>Mw i h
def fY(k:bV X (compareOp op) r)(i:eR X.K r g)(d:MC X a fa)(e:MC X b fb)(j:behindInMarks op b=false):MT X (.Compare a [op] [b] pos) (b2 fa fb g):=PT.imp (vA k d e j) λ_ _ _ h=>xg i h
def xh(j:IxR X r)(i:eI X.K r g)(d:MC X a fa)(c:MC X b fb)(hs:v7 b):ME X (.Subscript a b pos) (b2 fa fb g):=PE.imp (v8 j d c hs) λ_ _ _ h=>Gn i h
def i2(C:Int->Int->Bool)(g:Int->Int->Int):D->D->Option D
 | .int i,.int j=>if C i j=true then some (.int (g i j))else none
 | _,_=>none
def jM(g:Int->Int->Bool):D->D->Option Bool
 | .int i,.int j=>some (g i j)
 | _,_=>none
def oN(k:∀i j,n i j=true->C i j):eI K (rI C λi j=>.int (g i j)) (i2 n g):=by
 intro x y p r d H G Q h s m o q;unfold i2 at h
 split at h
 .split at h
  .rename_i i j l
   cases h;subst m o;exact⟨i,j,rfl,rfl,k i j l,q _ H G (.refl s) (by rw[Rp])⟩
  .cases h
 .cases h
def Gp:eI K (fg λi j=>.int (g i j)) (i2 (λ_ _=>true) g):=by
 intro x y m n d H G Q h s l k q;unfold i2 at h
 split at h
 .split at h
  .rename_i i j o
   cases h;subst l k;exact⟨i,j,rfl,rfl,q _ H G (.refl s) (by rw[Rp])⟩
  .cases h
 .cases h
def iw:eR K (fg λi j=>.bl (g i j)) (jM g):=by
 intro x y m n d H G Q h s l k q;unfold jM at h
 split at h
 .rename_i i j
  cases h;subst l k;exact⟨i,j,rfl,rfl,q⟩
 .cases h
def bS:D->D->Option D:=i2 (λ_ _=>true) λi j=>i+j
def cY:D->D->Option D:=i2 (λ_ _=>true) λi j=>i-j
def d_:D->D->Option D:=i2 (λi j=>decide (-(2^64)<i)&&decide (i<2^64)||(decide (-(2^64)<j)&&decide (j<2^64))) λi j=>i*j
def bp:D->D->Option D:=i2 (λ_ j=>decide (0<j)&&decide (j<1073741824)) λi j=>i/j
def az:D->D->Option D:=i2 (λ_ j=>decide (0<j)) λi j=>i%j
def fZ:=jM λi j=>decide (i<j)
def Gq:=jM λi j=>decide (i<=j)
def ix:=jM λi j=>decide (j<i)
def xi:=jM λi j=>decide (j<=i)
mutual
def br:D->Nat
 | .tup l=>bA l+1
 | .lst l=>bA l+1
 | .scr _=>1
 | .dct _ _ _=>1000
 | .obj _ _ _=>1000
 | .adr _=>1000
 | _=>0
def bA:AR->Nat
 | []=>0
 | d::l=>max (br d) (bA l)
end
mutual
theorem k9:∀d:D,(aE d).depth<=br d
 | .non=>by simp[aE,PyData.depth]
 | .bl b=>by simp[aE,PyData.depth]
 | .int b=>by simp[aE,PyData.depth]
 | .str b=>by simp[aE,PyData.depth]
 | .tup l=>by have:=xj l;simp[aE,PyData.depth,br];lia
 | .lst l=>by have:=xj l;simp[aE,PyData.depth,br];lia
 | .scr ns=>by rw[aE,PyData.depth,br,W.ke_depthAll];symm
 | .dct _ _ _=>by simp[aE,PyData.depth]
 | .obj _ _ _=>by simp[aE,PyData.depth]
 | .adr _=>by simp[aE,PyData.depth]
theorem xj:∀l,PyData.depthAll (cW l)<=bA l
 | []=>by simp[cW,PyData.depthAll]
 | d::l=>by have g:=k9 d;have h:=xj l;simp[cW,PyData.depthAll,bA];lia
end
section
variable {σ:L2.St}{H:Hp}
mutual
theorem f_(I:Inv X pins σ H s):∀{d:D}{v:V}{u:Value},br d<=100->Rp X.K H d v->RelV v u->∃j,Reads s.heap u (aE d) j/\(aE d).canLay0=true
 | .non,v,u,_,r,q=>by
   subst r;cases q;exact⟨_,by exact .none,by simp[aE,PyData.canLay0]⟩
 | .bl b,v,u,_,r,q=>by
   subst r;cases q;exact⟨_,by exact .bool b,by simp[aE,PyData.canLay0]⟩
 | .int i,v,u,_,r,q=>by
   subst r;obtain⟨t,rfl⟩:=q;exact⟨_,by exact .int i t,by simp[aE,PyData.canLay0]⟩
 | .str x,v,u,_,r,q=>by
   obtain⟨rfl,G⟩:=r;obtain⟨t,rfl⟩:=q;exact⟨_,by exact .str x t,by simp[aE,PyData.canLay0,G]⟩
 | .tup l,v,u,h,r,q=>by
   obtain⟨a,xs,rfl,g,y⟩:=r;cases q
   obtain⟨_,its,p,C⟩:=(I.hok a _ g)
   obtain⟨o,w,k,n,m⟩:=C;obtain⟨j,q,z⟩:=xk I (by simp [br]at h;lia) y p;exact⟨_,.tuple w k m (by simpa using q),by simpa [aE,PyData.canLay0]using z⟩
 | .lst l,v,u,h,r,q=>by
   obtain⟨a,xs,rfl,g,y⟩:=r;cases q;obtain⟨its,p,pl,_⟩:=I.list (.inl g);obtain⟨o,w,k,n,m⟩:=pl.isList;obtain⟨j,q,z⟩:=xk I (by simp [br]at h;lia) y p;exact⟨_,.list w k m (by simpa using q),by simpa [aE,PyData.canLay0]using z⟩
 | .dct _ _ _,v,u,h,r,q=>by simp[br]at h
 | .obj _ _ _,v,u,h,r,q=>by simp[br]at h
 | .adr _,v,u,h,r,q=>by simp[br]at h
 | .scr ns,v,u,_,r,q=>by
   obtain⟨a,rfl,g⟩:=r;cases q;obtain⟨its,p,pl,_⟩:=I.list g;exact⟨_,W.reads_of_ints pl.isList (oe p),by rw[aE];simp[PyData.canLay0,W.ke_canLayAll0]⟩
theorem xk(I:Inv X pins σ H s):∀{l:AR}{xs:AQ}{us:AC},bA l<=100->RpL X.K H l xs->Vals xs us->∃j,ReadsAll s.heap us (cW l) j/\PyData.canLayAll0 (cW l)=true
 | [],xs,us,_,r,q=>by
   subst r;cases q;exact⟨_,by exact .nil,by simp[cW,PyData.canLayAll0]⟩
 | d::l,xs,us,h,r,q=>by
   obtain⟨x,xs,rfl,J,E⟩:=r;rw[bA]at h
   cases q with
   | cons B A=>
     obtain⟨j,w,k⟩:=f_ I ∅ J B;obtain⟨L,m,F⟩:=xk I ∅ E A;exact⟨_,by exact .cons w m,by simp[cW,PyData.canLayAll0,k,F]⟩
end
end
theorem jN(l:AR)(d:D):((cW l).any λy=>PyData.eqv y (aE d))=l.any λy=>bx y d:=by
 induction l with
 | nil=>simp[cW]
 | cons e l g=>
   rw[cW,List.any_cons,g];rfl
def au(g:Bool):D->D->Option Bool:=λd e=>if br d<=60/\br e<=60 then some (if g then !bx d e else bx d e)else none
def iy(K:W7)(g:Bool):R2:=λx y H Q=>∃d e,Rp K H d x/\Rp K H e y/\(br d<=60/\br e<=60)/\Q (.bl (if g then !bx d e else bx d e)) H
theorem Gs(z:X.A.units+64<cLine):bV X (compareOp .Eq) (iy X.K false):=by
 intro b s c H x y v u Q I o i h;obtain⟨d,e,m,j,w,q⟩:=h;obtain⟨r,p,k⟩:=f_ I ∅ m o;obtain⟨n,t,l⟩:=f_ I ∅ j i;exact SeqAt.eqOverData _ X.w X.A _ s v u _ _ r n _ p t k l (by have:=k9 d;symm) ⟨.bl _,H,I,rfl,q⟩
theorem Gu(z:X.A.units+64<cLine):bV X (compareOp .NotEq) (iy X.K true):=by
 intro b s c H x y v u Q I o i h;obtain⟨d,e,m,j,w,q⟩:=h;obtain⟨r,p,k⟩:=f_ I ∅ m o;obtain⟨n,t,l⟩:=f_ I ∅ j i;exact SeqAt.neOverData _ X.w X.A _ s v u _ _ r n _ p t k l (by have:=k9 d;symm) ⟨.bl _,H,I,rfl,q⟩
theorem oO:eR K (iy K d) (au d):=by
 intro x y i j b H G Q h s k g q;unfold au at h
 split at h
 .cases h
  exact⟨i,j,k.rp s,g.rp s,by assumption,q⟩
 .cases h
def Yc:D->Option AR
 | .tup l=>some l
 | .lst l=>some l
 | .scr a=>some (a.map .int)
 | _=>none
def fO(d:D)(l:AR):Bool:=l.any λy=>bx y d
def cG(g:Bool):D->D->Option Bool:=λd c=>(Yc c).bind λl=>if bA l<=60/\br d<=60 then some (if g then !fO d l else fO d l)else none
def iA(K:W7)(g:Bool):R2:=λx y H Q=>∃d c l,Rp K H d x/\Rp K H c y/\Yc c=some l/\(bA l<=60/\br d<=60)/\Q (.bl (if g then !fO d l else fO d l)) H
theorem Yt{c:D}(h:Yc c=some l):c=.tup l\/c=.lst l\/∃ns,c=.scr ns/\l=ns.map D.int:=by
 cases c with
 | tup m=>cases h;symm
 | lst m=>cases h;symm
 | scr ns=>cases h;ext
 | non=>cases h
 | bl _=>cases h
 | int _=>cases h
 | str _=>cases h
 | dct _ _ _=>cases h
 | obj _ _ _=>cases h
 | adr _=>cases h
theorem xl:∀ns:AG,cW (ns.map D.int)=ns.map PyData.int
 | []=>by simp[cW]
 | n::ns=>by simp[cW,aE,xl ns]
theorem Gv(B:X.A.units+64<cLine):bV X (compareOp .In) (iA X.K false):=by
 intro b s f H x y v u Q I t o h;obtain⟨d,c,l,p,w,n,C,q⟩:=h;obtain⟨E,m,k⟩:=f_ I ∅ p t
 have r:br c<=61:=by
  rcases Yt n with rfl|rfl|⟨e,rfl,rfl⟩
  .rw[br];ext
  .rw[br];ext
  .rw[br];lia
 obtain⟨A,j,i⟩:=f_ I ∅ w o;have z:=k9 d;rcases Yt n with rfl|rfl|⟨e,rfl,rfl⟩
 .rw[aE]at j i
  exact SeqAt.in_tuple_reads j m (by simpa [PyData.canLay0]using i) k ∅ ⟨.bl _,H,I,rfl,by rwa [jN]⟩
 .rw[aE]at j i
  exact SeqAt.in_list_reads j m (by simpa [PyData.canLay0]using i) k ∅ ⟨.bl _,H,I,rfl,by rwa [jN]⟩
 .rw[aE,<-xl]at j i
  exact SeqAt.in_list_reads j m (by simpa [PyData.canLay0]using i) k ∅ ⟨.bl _,H,I,rfl,by rwa [jN]⟩
theorem Mx(B:X.A.units+64<cLine):bV X (compareOp .NotIn) (iA X.K true):=by
 intro b s f H x y v u Q I t o h;obtain⟨d,c,l,p,w,n,C,q⟩:=h;obtain⟨E,m,k⟩:=f_ I ∅ p t
 have r:br c<=61:=by
  rcases Yt n with rfl|rfl|⟨e,rfl,rfl⟩
  .rw[br];lia
  .rw[br];lia
  .rw[br];lia
 obtain⟨A,j,i⟩:=f_ I ∅ w o;have z:=k9 d;rcases Yt n with rfl|rfl|⟨e,rfl,rfl⟩
 .rw[aE]at j i
  exact SeqAt.notIn_tuple_reads j m (by simpa [PyData.canLay0]using i) k ∅ ⟨.bl _,H,I,rfl,by rwa [jN]⟩
 .rw[aE]at j i
  exact SeqAt.notIn_list_reads j m (by simpa [PyData.canLay0]using i) k ∅ ⟨.bl _,H,I,rfl,by rwa [jN]⟩
 .rw[aE,<-xl]at j i
  exact SeqAt.notIn_list_reads j m (by simpa [PyData.canLay0]using i) k ∅ ⟨.bl _,H,I,rfl,by rwa [jN]⟩
theorem xm:eR K (iA K d) (cG d):=by
 intro x y i k b H G Q h s m g q;obtain⟨l,j,h⟩:=qa h
 split at h
 .cases h
  exact⟨i,k,l,m.rp s,g.rp s,j,by assumption,q⟩
 .cases h
end
section
variable {a b c e:Expr}{fb f:AW}{fc:AV}{ga:AX}
def aN:D->Option Bool
 | .non=>some false
 | .bl b=>some b
 | .int i=>some (i != 0)
 | .tup l=>some (!l.isEmpty)
 | .lst l=>some (!l.isEmpty)
 | .scr a=>some (!a.isEmpty)
 | .str _=>none
 | .dct _ _ _=>none
 | .obj _ _ _=>none
 | .adr _=>none
theorem xn(h:aN d=some k)(r:Ct X.K G H d v):h_ X.K v H k:=by
 cases d with
 | non=>subst r;cases h;rfl
 | bl b=>subst r;cases h;rfl
 | int i=>subst r;cases h;rfl
 | str x=>cases h
 | dct _ _ _=>cases h
 | obj _ _ _=>cases h
 | adr _=>cases h
 | tup l=>
   obtain⟨a,c,rfl,g,j⟩:=r;cases h;refine .inr (.inl ⟨c,.inl (.inl g.1),?_⟩);have:=j.length;symm
 | lst l=>
   obtain⟨a,c,rfl,g,j⟩:=r;cases h;refine .inl ⟨c,.inl g,?_⟩;have:=j.length;symm
 | scr e=>
   obtain⟨a,rfl,g⟩:=r;cases h;refine .inl ⟨_,g,?_⟩;cases e<;>simp
def cM(fc fd:AV):AV:=λa=>(fc a).bind λk=>if k=true then fd a else some false
def ec(fc fd:AV):AV:=λa=>(fc a).bind λk=>if k=true then some true else fd a
def bL(fc:AV):AV:=λa=>(fc a).map (!·)
abbrev MW(X:Cx)(e:Expr)(f:AV):Prop:=PW X e (tTof X.K f)
def PW.imp(h:PW X e t)(i:∀σ H Q,t' σ H Q->t σ H Q):PW X e t':=λd a s σ H Q I g=>h d _ s σ H Q I (i σ H Q g)
theorem xo(h:tTof K (cM fc fd) σ H Q):kB (tTof K fc) (tTof K fd) σ H Q:=by
 obtain⟨a,k,p,r,G,e,s,h⟩:=h;unfold cM at e;obtain⟨g,j,e⟩:=qa e;refine tTof.at j s λq o d l=>?_
 cases g with
 | true=>
   rw[if_pos rfl]at e ⊢;exact tTof.at e l λi m n _=>h i m (d.trans n)
 | false=>
   symm
theorem xp(h:tTof K (ec fc fd) σ H Q):Fh (tTof K fc) (tTof K fd) σ H Q:=by
 obtain⟨a,k,p,r,G,e,s,h⟩:=h;unfold ec at e;obtain⟨g,j,e⟩:=qa e;refine tTof.at j s λq o d l=>?_
 cases g with
 | false=>
   rw[if_neg qi]at e ⊢;exact tTof.at e l λi m n _=>h i m (d.trans n)
 | true=>
   symm
def iB:D->Option Bool
 | .bl b=>some b
 | _=>none
def Gw(h:iB d=some k):d=.bl k:=by cases d<;>simp[iB]at h;subst h;rfl
def b_(fa fb:AW):AW:=λa=>(b1 fa iB a).bind λk=>if k=true then fb a else some (.bl false)
def cZ(fa:AW):AW:=λa=>(b1 fa iB a).map λk=>.bl (!k)
def iC(fc:AV)(fa fb:AW):AW:=λa=>(fc a).bind λk=>if k=true then fa a else fb a
def jO:D->Bool
 | .non=>true
 | _=>false
def Gx(r:Ct K G H d v):decide (v=V.non)=jO d:=by
 cases d with
 | non=>subst r;rfl
 | bl _=>subst r;rfl
 | int _=>subst r;rfl
 | str _=>obtain⟨rfl,_⟩:=r;rfl
 | tup _=>obtain⟨_,_,rfl,_⟩:=r;rfl
 | lst _=>obtain⟨_,_,rfl,_⟩:=r;rfl
 | scr _=>obtain⟨_,rfl,_⟩:=r;rfl
 | dct _ _ _=>obtain⟨_,_,_,rfl,_⟩:=r;rfl
 | obj _ _ _=>obtain⟨_,_,_,_,rfl,_⟩:=r;rfl
 | adr _=>subst r;rfl
def cw(g:Bool):D->D->Option Bool:=λd e=>if jO e then some (if g then !jO d else jO d)else none
def xq:eR K (λx y H Q=>y=.non/\Q (.bl (decide (x=.non))) H) (cw false):=by
 intro x y k i b H G Q h s g j q;unfold cw at h
 split at h
 .rename_i d
  cases h;cases i<;>simp[jO]at d;exact⟨j,by rwa [Gx g]⟩
 .cases h
def Gy:eR K (λx y H Q=>y=.non/\Q (.bl (!decide (x=.non))) H) (cw true):=by
 intro x y k i b H G Q h s g j q;unfold cw at h
 split at h
 .rename_i d
  cases h;cases i<;>simp[jO]at d;exact⟨j,by rwa [Gx g]⟩
 .cases h
def ai:D->D->Option D
 | c,.int i=>(Yc c).bind λl=>bj l i
 | _,_=>none
theorem xt(r:RpL K G l xs)(h:bj l i=some d):∃x,bj xs i=some x/\Rp K G d x:=by
 unfold bj at h ⊢;rw[r.length];obtain⟨j,k,g⟩:=qa h;obtain⟨x,m,n⟩:=r.get g
 ext
def xu:eI X.K (FV X.K) ai:=by
 intro x y u w d H G Q h s n r q;unfold ai at h
 split at h
 .rename_i c i
  obtain⟨l,t,m⟩:=qa h;subst r;rcases Yt t with rfl|rfl|⟨b,rfl,rfl⟩
  .obtain⟨p,a,rfl,g,o⟩:=n
   obtain⟨v,k,j⟩:=xt o m;exact .inr (.inl ⟨p,a,i,v,rfl,rfl,.inl (.inl g.1),k,q v H G (.refl s) j⟩)
  .obtain⟨p,a,rfl,g,o⟩:=n
   obtain⟨v,k,j⟩:=xt o m;exact .inl ⟨p,a,i,v,rfl,rfl,.inl g,k,q v H G (.refl s) j⟩
  .obtain⟨p,rfl,g⟩:=n
   obtain⟨v,k,j⟩:=xt (.ints b) m;exact .inl ⟨p,_,i,v,rfl,rfl,g,k,q v H G (.refl s) j⟩
 .cases h
def eJ:D->Option Int
 | .int i=>some i
 | _=>none
def cS(f:Option AW):Ro->Option (Option Int):=λa=>match f with
 | none=>some none
 | some f=>(b1 f eJ a).map some
def bB(l:AR)(lo g:Option Int):AR:=(l.drop (HT.sIx l.length 0 lo)).take (HT.sIx l.length l.length g-HT.sIx l.length 0 lo)
def gb:D->Option AR
 | .lst l=>some l
 | .scr a=>some (a.map .int)
 | _=>none
def My(h:gb d=some l)(r:Ct K G H d v):∃p xs,v=.ref p/\SqL K H p xs/\RpL K G l xs:=by
 cases d with
 | lst m=>
   cases h;obtain⟨p,xs,e,g,q⟩:=r;exact⟨p,xs,e,.inl g,q⟩
 | scr a=>
   cases h;obtain⟨p,e,g⟩:=r;exact⟨p,_,e,g,.ints a⟩
 | non=>cases h
 | bl _=>cases h
 | int _=>cases h
 | str _=>cases h
 | tup _=>cases h
 | dct _ _ _=>cases h
 | obj _ _ _=>cases h
 | adr _=>cases h
def iD(fa:AW)(lo d:Option AW):AX:=λa=>(b1 fa gb a).bind λl=>(cS lo a).bind λi=>(cS d a).bind λj=>some (bB l i j)
abbrev tO(K:W7)(f:Option AW):TO:=match f with
 | none=>FR
 | some f=>kR (tCof K f)
def oR{f:Option AW}(e:cS f ρ=some i)(s:SR K q r σ H G ρ)(h:∀H' a,Gr H G H' a->SR K q r σ H' a ρ->Q i H'):tO K f σ H Q:=by
 cases f with
 | none=>
   cases e;exact h H G (.refl s.seen) s
 | some f=>
   obtain⟨k,p,rfl⟩:=qc e;obtain⟨d,n,g⟩:=dM p
   refine tCof.at n s λv l t o j m=>⟨k,?_,h l t o m⟩
   cases d<;>simp[eJ]at g;subst g;exact j
def xw:PO X none (tO X.K none):=vX
def lF(f:AX):AW:=λa=>(f a).map .lst
def MF.me(h:MF X e g):ME X e (lF g):=PE.imp h λw H Q i=>by
 obtain⟨a,d,m,u,G,e,s,h⟩:=i;obtain⟨l,t,rfl⟩:=qc e
 exact⟨a,l,m,u,G,t,s,λp f c v g k j n r=>h _ c _ (g.show k j n) (by
  refine⟨p,f,rfl,.inl Yi,r.mono λb o q=>?_⟩
  rwa [Yh (Yl q j)])⟩
def ae:AX:=λ_=>some []
def Yb(f:AW)(g:AX):AX:=λa=>(f a).bind λd=>(g a).map (d::·)
def Gz:MA X [] ae:=PA.imp fj λb H Q d=>by
 obtain⟨a,l,i,g,G,e,s,h⟩:=d;cases e;exact h [] H G (.refl s.seen) .nil
def GA(p:ME X e f)(k:MA X es ga)(hs:Zc X e es:=by rfl):MA X (e::es) (Yb f ga):=PA.imp (fm p k hs) λc H Q g=>by
 obtain⟨a,l,w,A,G,e,s,h⟩:=g;obtain⟨d,t,e⟩:=qa e;obtain⟨y,m,rfl⟩:=qc e;exact tOf.at t s λv z x r q o=>tAof.at m o λb j u i n _=>h _ j u (r.trans i) (.cons (q.mono i.g) n)
def k_:oE X [] ae:=PA.imp fj λb H Q d=>by
 obtain⟨a,l,i,g,G,e,s,h⟩:=d;cases e;exact h [] H G (.refl s.seen) rfl
def lb(p:MC X e f)(k:oE X es ga)(hs:Zc X e es:=by rfl):oE X (e::es) (Yb f ga):=PA.imp (fm p k hs) λc H Q g=>by
 obtain⟨b,l,w,A,G,e,s,h⟩:=g;obtain⟨d,t,e⟩:=qa e;obtain⟨y,m,rfl⟩:=qc e;exact tCof.at t s λv z x r q o=>tCAof.at m o λa j u i n _=>h _ j u (r.trans i) ⟨v,a,rfl,q.grow i,n⟩
def bC:Nat:=1000000
def iE(h:n<=bC):n<=sizeLine:=Qg h (by decide)
def aD(ga:AX):AW:=λa=>(ga a).bind λl=>if l.length<=bC then some (.tup l)else none
def aX(ga:AX):AX:=λa=>(ga a).bind λl=>if l.length<=bC then some l else none
def cC(ga:AX)(g:AR->Option D):AW:=λa=>(ga a).bind g
def cF(ga:AX)(g:AR->Option AR):AX:=λa=>(ga a).bind g
def GB(m:cX K r g)(h:tOf K (cC ga g) σ H Q):oa r (tCAof K ga) σ H Q:=by
 obtain⟨f,d,w,x,G,e,s,h⟩:=h;obtain⟨l,t,n⟩:=qa e;exact tCAof.at t s λa k i u p j=>m a l d k i Q n j.seen p λv b c q o=>h v b c (u.trans q) o
def GC(m:fv K r g)(h:fX K (cF ga g) σ H Q):oa r (tCAof K ga) σ H Q:=by
 obtain⟨B,d,z,A,G,e,s,h⟩:=h;obtain⟨l,v,n⟩:=qa e;exact tCAof.at v s λa k j i t w=>m a l d k j Q n w.seen t λp b f c u x q y o=>h p b f c (i.trans u) (i.h.free x) q y o
section
variable {x:Str}{p:Pos}{id T:String}{r:AQ->Hp->VK->Prop}{g:AR->Option D}{gf:AR->Option AR}
end
def bu(K:W7)(n:Nat)(g:AR->Option D):Sp:=λa H Q _=>a.length=n/\∃c d G,Same G H/\RpL K G c a/\g c=some d/\∀v b e,Gr H G b e->Rp K e d v->Q v b
theorem xx{p:Pos}(F:FnOk X.prog X.w X.K X.mg X.base bK k g m ps (bu X.K n A))(E:Room k X.A)(z:Gl X x)(a:X.mg x=some (.ref g))(u:W.keepIn X.K (.ref g)=true)(D:Binds X.K m ps [])(L:MA X (e::es) ga)(o:cj x:=by decide)(w:starEach (e::es) X.env=(false,eval e X.env)::starEach es X.env:=by rfl)(j:(backTo pos (starEach es X.env)).any (·.1)=false:=by rfl)(R:∀ρ l,ga ρ=some l->l.length=n):ME X (.Call (.Name x p) (e::es) [] pos) (cC ga A):=
 PE.imp (vS F E z a u D .nil ig L o w j) λM H Q i=>by
  obtain⟨ρ,d,N,O,G,e,s,h⟩:=i;obtain⟨l,t,C⟩:=qa e;refine tAof.at t s λK P B J q r=>?_;rw[ja];exact⟨by rw[q.length];symm,l,d,B,r.seen,q,C,λv b c I y=>h v b c (J.trans I) y⟩
def Mz(h:ae ρ=some l):l.length=0:=by cases h;rfl
theorem lg(i:∀ρ l,g ρ=some l->l.length=n):∀ρ l,Yb f g ρ=some l->l.length=n+1:=λρ l h=>by
 obtain⟨d,k,e⟩:=qa h;obtain⟨m,j,rfl⟩:=qc e;symm
def ay:AR->Option D
 | [c]=>(Yc c).map λl=>.int l.length
 | _=>none
def lh{c:D}(h:Yc c=some l)(r:Ct K G H c v):∃p xs,v=.ref p/\(SqL K H p xs\/SqT K H p xs)/\RpL K G l xs:=by
 rcases Yt h with rfl|rfl|⟨a,rfl,rfl⟩
 .obtain⟨p,xs,rfl,g,d⟩:=r
  exact⟨p,xs,rfl,.inr (.inl (.inl g.1)),d⟩
 .obtain⟨p,xs,rfl,g,d⟩:=r
  exact⟨p,xs,rfl,.inl (.inl g),d⟩
 .obtain⟨p,rfl,g⟩:=r
  exact⟨p,_,rfl,.inl g,.ints a⟩
theorem iF(h:RpL K G [d] vs):∃v,vs=[v]/\Rp K G d v:=by
 obtain⟨x,r,rfl,i,g⟩:=h;rw[RpL]at g;symm
theorem eS(h:jK K G H [d] vs):∃v,vs=[v]/\Ct K G H d v:=by
 obtain⟨x,r,rfl,i,g⟩:=h;cases (g);symm
def xy:cX X.K (λxs H Q=>∃p ys,xs=[.ref p]/\(SqL X.K H p ys\/SqT X.K H p ys)/\Q (.int ys.length) H) ay:=by
 intro b a d H G Q h s r q
 match a,h,r with
 | [c],h,r=>
   obtain⟨l,k,rfl⟩:=qc h;obtain⟨v,rfl,g⟩:=eS r;obtain⟨p,xs,rfl,j,i⟩:=lh k g;exact⟨p,xs,rfl,j,q _ H G (.refl s) (by rw[Rp,i.length])⟩
def gc:AR->Option AR
 | [c]=>Yc c
 | _=>none
def MD:fv X.K (λxs H Q=>∃p ys,xs=[.ref p]/\(SqL X.K H p ys\/SqT X.K H p ys)/\∀l,H l=none->Q (.ref l) (upd H l (.lst ys))) gc:=by
 intro b a l H G Q h s r q
 match a,h,r with
 | [c],h,r=>
   obtain⟨v,rfl,j⟩:=eS r;obtain⟨p,xs,rfl,i,g⟩:=lh h j;exact⟨p,xs,rfl,i,λm d=>q m xs _ G (.hid s d _) d (s.free d) Yi g⟩
def aL:AR->Option D
 | [c]=>(Yc c).map .tup
 | _=>none
theorem xA:cX X.K (λxs H Q=>∃p ys,xs=[.ref p]/\((SqL X.K H p ys/\∀l,H l=none->Q (.ref l) (upd H l (.tup ys)))\/(SqT X.K H p ys/\Q (.ref p) H))) aL:=by
 intro e b d H G Q h s r q
 match b,h,r with
 | [c],h,r=>
   obtain⟨l,n,rfl⟩:=qc h;obtain⟨v,rfl,j⟩:=eS r;rcases Yt n with rfl|rfl|⟨a,rfl,rfl⟩
   .obtain⟨p,xs,rfl,g,k⟩:=j
    exact⟨p,xs,rfl,.inr ⟨.inl (.inl g.1),q _ H G (.refl s) (by rw[Rp];ext)⟩⟩
   .obtain⟨p,xs,rfl,g,k⟩:=j
    exact⟨p,xs,rfl,.inl ⟨.inl g,λm i=>q _ _ _ (.new s i _) (⟨m,xs,rfl,Yi,k.mono (Gr.new s i _).g⟩)⟩⟩
   .obtain⟨p,rfl,g⟩:=j
    exact⟨p,_,rfl,.inl ⟨g,λm i=>q _ _ _ (.new s i _) (⟨m,_,rfl,Yi,.ints a⟩)⟩⟩
def eK:AR->Option D
 | [.int i]=>some (.int i)
 | [.bl k]=>some (.int (if k then 1 else 0))
 | _=>none
def xB:cX X.K (λxs H Q=>(∃i,xs=[.int i]/\Q (.int i) H)\/∃k,xs=[.bl k]/\Q (.int (if k then 1 else 0)) H) eK:=by
 intro vs ds d H G Q h s r q
 match ds,h,r with
 | [.int i],h,r=>
   cases h;obtain⟨v,rfl,g⟩:=eS r;subst g;exact .inl ⟨i,rfl,q _ H G (.refl s) (by rw[Rp])⟩
 | [.bl k],h,r=>
   cases h;obtain⟨v,rfl,g⟩:=eS r;subst g;exact .inr ⟨k,rfl,q _ H G (.refl s) (by rw[Rp])⟩
end
section
variable {e:Expr}{f:AW}{fs gs:AT}
def ao:AT:=λa=>some (.nx a)
noncomputable def ag(f g:AT):AT:=λb=>(f b).bind fun
 | .nx a=>g a
 | o=>some o
def xC:MB X [] ao:=PSs.imp Fi λF d H a=>by
 obtain⟨g,f,c,b,G,e,s,h⟩:=a;cases e;exact h d H G s
def frz1(i:Nat)(ρ:Ro):Ro:=match ρ[i]? with
 | some (some (.ow l))=>ρ.set i (↑(.lst l))
 | some (some (.od t b a))=>ρ.set i (↑(.dct t b a))
 | _=>ρ
theorem SR.frz1(s:SR K c b σ H G ρ)(i:Nat):∃d,SR K c b σ H d (M.frz1 i ρ):=by
 unfold M.frz1
 split
 .rename_i l a
  exact s.freeze a
 .rename_i t f e a
  exact s.freezed a
 symm
def frz(a:AF)(ρ:Ro):Ro:=a.foldl (λr i=>frz1 i r) ρ
theorem SR.frz:∀(a:AF) {G:Hp}{ρ:Ro},SR K c b σ H G ρ->∃d,SR K c b σ H d (M.frz a ρ)
 | [],G,_,s=>⟨G,s⟩
 | i::a,_,ρ,s=>by
   obtain⟨d,e⟩:=s.frz1 i;exact SR.frz a e
theorem SR.frz1T(s:SR K d c σ H G ρ)(i:Nat):∃e,SR K d c σ H e (M.frz1 i ρ)/\∀b ys,e b=some (.tup ys)->G b=some (.tup ys):=by
 unfold M.frz1
 split
 .rename_i l a
  exact s.freezeT a
 .rename_i t g f a
  exact s.freezedT a
 symm
theorem SR.frzT:∀(a:AF) {G:Hp}{ρ:Ro},SR K j c σ H G ρ->∃f,SR K j c σ H f (M.frz a ρ)/\∀b ys,f b=some (.tup ys)->G b=some (.tup ys)
 | [],G,_,s=>⟨G,s,λ_ _ h=>h⟩
 | i::a,_,ρ,s=>by
   obtain⟨f,m,g⟩:=s.frz1T i;obtain⟨k,l,d⟩:=SR.frzT a m;exact⟨k,l,λb ys e=>g b ys (d b ys e)⟩
def wF(a:AF)(f:AT):AT:=λb=>f (frz a b)
def aw(i:Nat)(f:AW):AT:=λa=>(f a).map λd=>.nx (a.set i (↑d))
def aW(i:Nat)(f:AX):AT:=λa=>(f a).map λl=>.nx (a.set i (some (.ow l)))
def xD(h:oB K (aw i f) F σ H):e_ (tOf K f) (jE i) F σ H:=by
 obtain⟨o,n,m,l,G,e,s,h⟩:=h;obtain⟨d,c,rfl⟩:=qc e;exact tOf.at c s λv b j k a g=>h _ b j (g.set_sh i a)
def xE(h:oB K (aW i gl) F σ H):e_ (fX K gl) (jE i) F σ H:=by
 obtain⟨o,m,d,k,G,e,s,h⟩:=h;obtain⟨l,c,rfl⟩:=qc e;exact⟨o,l,d,k,G,c,s,λp q n f g a j b r=>h _ n f (s.set_ow i g a j b r)⟩
noncomputable def ah(f:AW):AT:=λa=>(f a).map .rt
def xF:MS X (.Pass pos) ao:=PS.imp uG λF σ H a=>by
 obtain⟨ρ,out,c,b,G,e,s,h⟩:=a;cases e;exact h σ H G s
def aI(c:AV)(f g:AT):AT:=λa=>(c a).bind λk=>if k=true then f a else g a
def bZ(i:Nat)(f:AW)(g:AR->D->Option AR):AT:=λb=>(cL i b).bind λl=>(f b).bind λd=>(g l d).map λa=>.nx (b.set i (some (.ow a)))
theorem xG(s:SR K k b σ H G ρ)(h:cL i ρ=some l):∃a xs,σ[i]?=some (some (V.ref a))/\H a=some (.lst xs)/\RpL K G l xs/\G a=none:=by
 obtain⟨a,xs,j,g,c,d,m⟩:=s.ow i l (oH h)
 ext
def bc(l:AR)(d:D):Option AR:=if l.length<bC then some (l++[d])else none
def oT(l:ds.length<=sizeLine)(h:∀(i:Nat) a b,Same G' b->Same b a->(∀d,ds[i]?=some d->J.go i a/\∀y g,J.yld i a y g->g=a/\Rp K b d y)/\(ds.length<=i->J.stop i a)):Wk K J G' ds:=
 ⟨l,λi a b j c=>⟨λd k=>⟨((h i a b j c).1 d k).1,λy g q=>by
  obtain⟨rfl,r⟩:=((h i a b j c).1 d k).2 y g q
  exact⟨b,.refl c,r⟩⟩,(h i a b j c).2⟩⟩
def xH(K:W7)(c:TE):TI:=λe H R=>c e H λx b=>∃a d,x=.ref a/\((SqL K b a d/\(d.length<=sizeLine->R (Fo K a) b))\/(SqT K b a d/\(d.length<=sizeLine->R (Fp K a) b)))
theorem xI(t:PE X l u):PI X tg l (xH X.K u):=by
 intro w s z H R I h;refine aF (t _ s z H _ I h) λv d k=>?_;obtain⟨x,m,c,n,j⟩:=k;obtain⟨a,A,e,j⟩:=j;subst e;cases n;rcases j with⟨i,q⟩|⟨i,q⟩
 .obtain⟨f,r,p,g⟩:=c.list i
  refine wpAny_pyIter_list p.isList (⟨d.heap.objs.size,[d.heap.objs.size],_,_,m,rfl,c.kept λb o e=>qe _ e,Lr a _,⟨_,qp _ rfl,rfl,rfl⟩,λb y=>?_,q g⟩)
  have e:b=d.heap.objs.size:=by symm
  subst e;exact c.fpOk (qv _) (c.hok.fresh (qv _))
 .obtain⟨f,r,p,g⟩:=c.tuple i
  refine wpAny_pyIter_tuple (p) (⟨d.heap.objs.size,[d.heap.objs.size],_,_,m,rfl,c.kept λb o e=>qe _ e,Ls a _,⟨_,qp _ rfl,rfl,rfl⟩,λb y=>?_,q g⟩)
  have e:b=d.heap.objs.size:=by symm
  subst e;exact c.fpOk (qv _) (c.hok.fresh (qv _))
def cT(a n:Int):AR:=(List.range (n-a).toNat).map λi=>.int (a+(i:Nat))
def GE(a n:Int):(cT a n).length=(n-a).toNat:=by simp[cT]
theorem GF(k:(n-a).toNat<=sizeLine):Wk K (kJ a (n-a).toNat) G' (cT a n):=
 oT (by rwa [GE]) λi m o _ _=>⟨λd b=>by
  unfold cT at b;rw[Qm]at b;obtain⟨j,h,rfl⟩:=qc b
  have g:i<(n-a).toNat:=by
   symm
  rw[List.getElem?_range g]at h;cases h
  exact⟨g,λy l q=>⟨q.1,q.2⟩⟩,λc=>by rwa [GE]at c⟩
def cD:AR->Option AR
 | [.int n]=>if decide (-bC<=n)&&decide (n<=bC)then some (cT 0 n)else none
 | _=>none
def ck:AR->Option AR
 | [.int a,.int n]=>if decide (-bC<=a)&&decide (a<=bC)&&decide (-bC<=n)&&decide (n<=bC)then some (cT a n)else none
 | _=>none
theorem MH(h:cD l=some b):∃n:Int,l=[.int n]/\-1000000<=n/\n<=1000000/\b=cT 0 n:=by
 unfold cD at h
 split at h
 .split at h
  .have a:bC=1000000:=by decide
   ext
  .cases h
 .cases h
theorem GH(h:ck l=some c):∃a n:Int,l=[.int a,.int n]/\-1000000<=a/\a<=1000000/\-1000000<=n/\n<=1000000/\c=cT a n:=by
 unfold ck at h
 split at h
 .split at h
  .have b:bC=1000000:=by decide
   symm
  .cases h
 .cases h
def ak(i:Nat):AU:=λd a=>some (a.set i (↑d))
def eT(i j:Nat):AU:=λd c=>match d with
 | .tup [a,b]=>some ((c.set i (↑a)).set j (↑b))
 | _=>none
def forM(gt:AU)(fb:AT):AR->AT
 | [],ρ=>some (.nx ρ)
 | d::ds,ρ=>(gt d ρ).bind λb=>(fb b).bind fun
   | .nx a=>forM gt fb ds a
   | .ct a=>forM gt fb ds a
   | .bk a=>some (.nx a)
   | .rt d=>some (.rt d)
def bM(gl:AX)(gt:AU)(fb:AT):AT:=λa=>(gl a).bind λb=>forM gt fb b a
theorem GJ:∀(f:AR) (ρ:Ro) (e:Out),forM gt fb f ρ=some e->(∃ρ',e=.nx ρ')\/∃d,e=.rt d
 | [],ρ,e,h=>by cases h;symm
 | d::f,ρ,e,h=>by
   obtain⟨b,g,h⟩:=qa h;obtain⟨o,c,h⟩:=qa h
   cases o with
   | nx a=>exact GJ f a e h
   | ct a=>exact GJ f a e h
   | bk a=>symm
   | rt d=>symm
def ar(a:List AN)(ρ:Ro):Ro:=a.map λo=>o.bind λj=>match ρ[j]? with
 | some (some (.sh d))=>some (.sh d)
 | _=>none
theorem SR.cap(s:SR K p n σ H G ρ)(e:List AN):SR K H G (dq e σ) H G (ar e ρ):=by
 refine .mkSh (.refl s.seen) (by simp[dq,ar]) (λi d h=>?_) (λi l h=>by
  unfold ar at h;rw[Qm]at h;obtain⟨o,c,b⟩:=qc h;obtain⟨j,rfl,a⟩:=qa b
  split at a<;>cases a) (λi t r f h=>by
  unfold ar at h;rw[Qm]at h;obtain⟨o,c,b⟩:=qc h;obtain⟨j,rfl,a⟩:=qa b
  split at a<;>cases a)
 unfold ar at h;rw[Qm]at h;obtain⟨o,c,b⟩:=qc h;obtain⟨j,rfl,a⟩:=qa b
 split at a
 .rename_i q k
  cases a;obtain⟨v,m,g⟩:=s.sh j _ k;refine⟨v,?_,g⟩;unfold dq;rw[Qm,c];show some ((σ[j]?).join)=_;rw[m];rfl
 .cases a
def dN(gt:AU)(fc:AV)(fe:AW)(ρ:Ro):AR->Option AR
 | []=>some []
 | d::ds=>(gt d ρ).bind λa=>(fc a).bind λk=>if k=true then (fe a).bind λv=>(dN gt fc fe ρ ds).map (v::·)else dN gt fc fe ρ ds
def Yv(gl:AX)(a:List AN)(gt:AU)(fc:AV)(fe:AW):AX:=λb=>(gl b).bind λc=>dN gt fc fe (ar a b) c
def tY:AV:=λ_=>some true
def xJ(h:tTof K tY σ H Q):k4 σ H Q:=by
 obtain⟨c,k,b,a,G,e,s,h⟩:=h;cases e;exact h H G (.refl s.seen)
def xK:dJ X [] (tTof X.K tY):=λa s b H Q I h=>wJ _ s b H Q I (xJ h)
theorem GK(h:src[i]?=some none):∀ρ d a,ak i d (ar src ρ)=some a->Le (ar src ρ) a:=λρ d a e=>by
 cases e;refine⟨by simp,λj b g=>?_⟩;by_cases c:j=i
 .unfold ar at g
  ext
 symm
def MJ{f:List AN}{i k:Nat}(h:f[i]?=some none)(m:f[k]?=some none):∀ρ d a,eT i k d (ar f ρ)=some a->Le (ar f ρ) a:=λρ d a e=>by
 unfold eT at e
 split at e
 .cases e
  refine⟨by simp,λj b l=>?_⟩
  have c:∀n,f[n]?=some none->j≠n:=λn g z=>by
   subst z;unfold ar at l;rw[Qm,g]at l;cases l
  rwa [Qp (.symm (c k m)),Qp (.symm (c i h))]
 .cases e
theorem GL(hle:∀ρ d u,gt d (ar src ρ)=some u->Le (ar src ρ) u)(h:fX K (Yv gl src gt fc fe) σ H Q):wK (k7 K gl) src (Gm K gt) (tTof K fc) (tOf K fe) σ H Q:=by
 obtain⟨ρ,l,H0,G0,G,e,s,h⟩:=h;obtain⟨ds,h1,N⟩:=qa e;refine⟨ρ,ds,H0,G0,G,h1,s,λJ H1 R g1 wk p V=>?_⟩;have s1:=s.grow g1;have sc:=s1.cap src;have gp:R p=none:=s1.seen.free V
 refine⟨λi m σ' H'=>m=ds.length-i/\i<=ds.length/\∃G' a D c,SR K H1 R σ' H' G' (ar src ρ)/\H' p=some (.lst D)/\G' p=none/\RpL K G' a D/\D.length<=i/\dN gt fc fe (ar src ρ) (ds.drop i)=some c/\a++c=l,
  ⟨_,rfl,Qh _,R,[],[],l,sc.grow (Gr.hid s1.seen V _),Yi,gp,.nil,Qh _,N,rfl⟩,?_⟩
 rintro i m σ' H' ⟨rfl,hi,G',a,D,c,s',hx,gx,rx,hl,n,T⟩;have W:=wk.2 i H' G' s'.gr.g s'.seen;by_cases A:i<ds.length
 .have hdi:=qr A
  obtain⟨go,yl⟩:=W.1 _ hdi;rw[List.drop_eq_getElem_cons A,dN]at n;obtain⟨u,e1,n⟩:=qa n;obtain⟨k,e2,n⟩:=qa n;refine .inr ⟨go,λx H2 y=>?_⟩;obtain⟨G2,U,r2⟩:=yl x H2 y
  have r:∀{Ha Z Hb S:Hp},Gr Ha Z Hb S->Ha p=some (.lst D)->Z p=none->Hb p=some (.lst D)/\S p=none:=λ{Ha Z Hb S} g e1 e2=>by
   refine⟨g.h _ _ e1,?_⟩
   cases q:S p with
   | none=>rfl
   | some o=>
     have:=g.n p e2 (by rw[q];exact λz=>nomatch z);rw[e1]at this;cases this
  obtain⟨hx2,gx2⟩:=r U hx gx;refine⟨_,ar src ρ,u,H1,R,G2,e1,s'.grow U,r2,λσ3 s3=>?_⟩;refine tTof.at e2 s3 λH4 G4 g4 s4=>?_;obtain⟨I,O⟩:=r g4 hx2 gx2;have le:=hle ρ _ u e1
  cases k with
  | false=>
    exact⟨ds.length-(i+1),by symm,rfl,A,G4,a,D,c,s4.le le,I,O,(rx.mono U.g).mono g4.g,by lia,n,T⟩
  | true=>
    rw[if_pos rfl]at n ⊢;obtain⟨v,e3,n⟩:=qa n;obtain⟨C,e4,rfl⟩:=qc n;refine tOf.at e3 s4 λw H5 G5 g5 r5 s5=>?_;obtain⟨Y,L⟩:=r g5 I O;have hz:=wk.1;refine⟨D,Y,by lia,ds.length-(i+1),by symm,rfl,A,G5,a++[v],D++[w],C,?_,Yi,L,(((rx.mono U.g).mono g4.g).mono g5.g).append (.one r5),by simp;lia,e4,by simpa using T⟩;have E:=s5.le le
    have P:∀(i:Nat) l,(ar src ρ)[i]?≠some (some (B.ow l)):=λi l h=>by
     unfold ar at h;rw[Qm]at h;obtain⟨o,h1,N⟩:=qc h;obtain⟨j,rfl,F⟩:=qa N
     split at F<;>cases F
    have M:∀(i:Nat) t ks vs,(ar src ρ)[i]?≠some (some (B.od t ks vs)):=λi t ks vs h=>by
     unfold ar at h;rw[Qm]at h;obtain⟨o,h1,N⟩:=qc h;obtain⟨j,rfl,F⟩:=qa N
     split at F<;>cases F
    refine SR.mkSh ⟨λb o q=>?_,E.gr.g,λb o q=>?_,E.gr.n⟩ E.len E.sh P M
    .rw[Yh (Yl q V)];exact E.gr.h b o q
    .rw[Yh (Yl q L)];exact E.gr.s b o q
 .have ei:i=ds.length:=by lia
  subst ei;rw[List.drop_length,dN]at n;cases n;rw[ja]at T;subst T;exact .inl ⟨W.2 (qv _),h p D H' G' (g1.trans s'.gr) (g1.h.free V) gx hx rx⟩
section
variable {N:AK}{src:List AN}{gt:AU}{fc:AV}{fe:AW}
def xM(S:fN X.N X.env.scope N src scope)(l:X.calm=true)(i:MI X tg iter gl)(j:∀a C b s H,MG (Yw X scope N a C b s H) tg gt)(m:∀a C b s H,dJ (Yw X scope N a C b s H) ifs (tTof X.K fc))(k:∀a C b s H,ME (Yw X scope N a C b s H) elt fe)(g:∀ρ d c,gt d (ar src ρ)=some c->Le (ar src ρ) c)(hs:∀x,foldedSetIterable iter X.env x=pure x:=by intro _;rfl):MF X (.ListComp elt [⟨tg,iter,ifs,0⟩] scope pos) (Yv gl src gt fc fe):=
 PE.imp (wM S l i j m k hs) λ_ _ _ h=>GL g h
theorem xN(i:Nat){o a:Pos}(f:X.N.Nodup)(S:fN X.N X.env.scope N src scope)(E:X.calm=true)(m:MI X tg iter gl)(J:∀j C b s H,MG (Yw X scope N j C b s H) tg gt)(w:∀j C b s H,dJ (Yw X scope N j C b s H) ifs (tTof X.K fc))(B:∀j C b s H,ME (Yw X scope N j C b s H) elt fe)(k:∀ρ d c,gt d (ar src ρ)=some c->Le (ar src ρ) c)(n:swapsWith (.ListComp elt [⟨tg,iter,ifs,0⟩] scope pos) (some (.Name y o)) a.line X.env=pure true:=by rfl)(u:X.N[i]?=some y:=by rfl)(v:eG X.env.scope y:=by trivial)(A:Zf X y:=by trivial)(hs:∀x,foldedSetIterable iter X.env x=pure x:=by intro _;rfl):MS X (.Assign [.Name y o] (.ListComp elt [⟨tg,iter,ifs,0⟩] scope pos) a) (aW i (Yv gl src gt fc fe)):=
 PS.imp (wN S E m J w B f u v n A hs) λF R H h=>by
  obtain⟨ρ,D,z,q,G,e,s,h⟩:=h;obtain⟨l,t,rfl⟩:=qc e;exact GL k ⟨ρ,l,z,q,G,t,s,λp Q M K g O I L r=>h _ M K (s.set_ow i g O I L r)⟩
end
def Yd(n:Nat)(a:AR):Ro:=a.map (λd=>some (.sh d))++.replicate (n-a.length) none
noncomputable def aq(k n:Nat)(fb:AT)(a:AR):Option D:=if a.length=k then (fb (Yd n a)).bind fun
 | .rt d=>some d
 | .nx _=>some .non
 | _=>none
 else none
theorem SR.start(s:Same G H)(r:RpL K G ds vs):SR K H G (start N vs) H G (Yd N.length ds):=by
 refine .mkSh (.refl s) (by simp[L2.start,Yd,r.length]) (λi d h=>?_) (λi l h=>by
  unfold Yd at h
  symm) (λi t f vs h=>by
  unfold Yd at h
  symm)
 unfold Yd at h;rw[List.getElem?_append]at h
 split at h
 .rw[Qm]at h
  obtain⟨k,a,g⟩:=qc h;obtain⟨v,c,j⟩:=r.get a;unfold L2.start;symm
 symm
section
variable {P:P7}{w:World}
theorem MK{f:Addr}(F:Fun K x c st f u)(S:b9 N I (aBa st))(p:N.length=n)(j:I.length=m)(T:∀(b:Value) (A:Around) (a:List Env) (s:Shared) (H:Hp) (E:XK),Room k (A.deeper (envOfC c (aBa st) (~~~s) f b))->MB (bR bK P w K mg base N c (aBa st) f b A a s H E).nox (aDa st) fb):
 FnOk P w K mg base bK (k+1) f u I (bu K m (aq m n fb)):=by
 refine F.ok S (λM H Q E h=>by rw[h.1,j]) λb A a s H M Q E t h=>?_;obtain⟨B,L,d,G,l,r,e,q⟩:=h;refine⟨_,T b A a s H E t,?_⟩;unfold aq at e
 split at e
 .obtain⟨o,z,i⟩:=qa e
  refine⟨Yd n L,o,H,G,G,z,by rw[<-p];exact .start l r,?_⟩
  cases o with
  | rt U=>cases i;exact λv C D g y=>q v C D g y
  | nx J=>cases i;exact λO C D R=>q _ C D R.gr (by rw[Rp])
  | bk J=>cases i
  | ct J=>cases i
 .cases e
end
end
def aM(P:P7)(w:World)(K:W7)(d:AE)(b:Heap)(k n:Nat)(x:Str)(f:AK)(e:AR->Option D):Prop:=
 ∃a c,FnOk P w K d b bK k a c f (bu K n e)/\Binds K c f []/\W.keepIn K (.ref a)=true/\d x=some (.ref a)
def xO{st:Stmt}(F:Fun K x q st a d)(b:Binds K d i [])(g:e x=some (.ref a))(h:FnOk P w K e c bK k a d i (bu K n f)):aM P w K e c k n x i f:=⟨a,d,h,b,F.kp,g⟩
section
variable {a b e:Expr}{fb:AW}{ga:AX}
def bz:D->Option D
 | .int i=>some (.int (-i))
 | _=>none
def bD:D->D->Option AR
 | .lst a,.lst b=>if a.length+b.length<=bC then some (a++b)else none
 | _,_=>none
def xP:R2:=λx y H Q=>∃l b a c,x=.ref l/\y=.ref b/\Rd H l (.lst a)/\Rd H b (.lst c)/\a.length+c.length<=sizeLine/\∀p,H p=none->Q (.ref p) (upd H p (.lst (a++c)))
theorem xQ:bV X (binaryOp .Add) xP:=by
 intro C s F H x y v u Q I k f h;obtain⟨l,b,E,t,rfl,rfl,j,i,o,q⟩:=h;cases k;cases f;obtain⟨z,a,n,r,e⟩:=j.ok I.hok;obtain⟨w,c,A,d,D⟩:=i.ok I.hok;have p:=r.length;have m:=d.length;refine PySem.P.add_list e D ?_ (by ext)
 have g:a.toArray++c.toArray=(a++c).toArray:=by simp
 rw[g];exact⟨.ref _,_,I.lnew (r.append d) ⋯,rfl,q _ I.fresh⟩
def gM:D->String
 | .non=>"NoneType"
 | .bl _=>"bool"
 | .int _=>"int"
 | .str _=>"str"
 | .tup _=>"tuple"
 | .lst _=>"list"
 | .scr _=>"list"
 | .dct _ _ _=>"dict"
 | .obj _ _ _=>"dict"
 | .adr _=>"dict"
def iG:D->Bool
 | .scr _=>false
 | .dct t _ _=>!t
 | .obj _ _ _=>false
 | .adr _=>false
 | _=>true
def fx(T:String)(d:D):Option Bool:=if iG d=true then some (gM d==T||(T=="int"&&gM d=="bool"))else none
def xR(c:iG d=true)(r:Ct K G H d v):cB K H v (.type (gM d)):=by
 cases d<;>rw[Ct]at r
 .subst r;exact .non
 .subst r;exact .bl _
 .subst r;exact .int _
 .obtain⟨rfl,_⟩:=r;exact .str _
 .obtain⟨a,b,rfl,g,_⟩:=r;exact .tup g.1
 .obtain⟨a,b,rfl,g,_⟩:=r
  rcases g with g|⟨o,g⟩
  .exact .lst g
  .exact .frz g
 .cases c
 .rename_i t _ _
  cases t with
  | true=>cases c
  | false=>
    obtain⟨a,_,_,rfl,g,_⟩:=r;rcases g with⟨_,_,g,_⟩|⟨g,_⟩
    .exact .dK g
    .cases g
 .cases c
 .cases c
def xS(T:String):Prop:=∀(K:W7) (d:D),W.kitOne K (.type (gM d)) (.type T)=some (gM d==T||(T=="int"&&gM d=="bool"))
def xT:xS "str":=λK d=>by cases d<;>rfl
def ML(i:xS T):dn X (.builtin "isinstance") (λxs H Q=>∃x d G,xs=[x,.ty T]/\iG d=true/\Ct X.K G H d x/\Q (.bl (gM d==T||(T=="int"&&gM d=="bool"))) H):=by
 intro a s l H xs e Q I r h;obtain⟨x,d,G,rfl,j,f,q⟩:=h;obtain⟨u,k,rfl,c,g⟩:=n8 r;cases (g)
 exact LM I c (xR j f) (i X.K d) λb=>⟨.bl _,H,I.tok b,rfl,q⟩
end
def ee(a:Int):AG->AG
 | []=>[a]
 | b::l=>if a<=b then a::b::l else b::ee a l
def dO:AG->AG
 | []=>[]
 | a::l=>ee a (dO l)
theorem xU(a:Int):∀l:AG,(ee a l).Perm (a::l)
 | []=>.refl _
 | b::l=>by
   rw[ee]
   split
   .exact .refl _
   .exact((xU a l).cons b).trans (.swap a b l)
theorem y6:∀l:AG,(dO l).Perm l
 | []=>.refl _
 | a::l=>(xU a _).trans ((y6 l).cons a)
theorem GM(a:Int):∀l:AG,l.Pairwise (·<=·)->(ee a l).Pairwise (·<=·)
 | [],_=>by simp[ee]
 | b::l,h=>by
   rw[ee]
   split
   .rename_i d
    refine List.pairwise_cons.mpr ⟨λx c=>?_,h⟩;rcases qu c with rfl|c
    .exact d
    .exact Int.le_trans d ((List.pairwise_cons.mp h).1 x c)
   .refine List.pairwise_cons.mpr ⟨λx c=>?_,GM a l (List.pairwise_cons.mp h).2⟩
    rcases qu ((xU a l).mem_iff.mp c)with rfl|c
    .lia
    ext
theorem gN:∀l:AG,(dO l).Pairwise (·<=·)
 | []=>.nil
 | a::l=>GM a _ (gN l)
section
variable {w:World}{A:Around}{E:AA}
theorem MM(m:s.heap.IsList l vs.toArray)(n:vs.length<2)(h:Q (.ref (~~~s+1)) {s with heap:=sortedAll s.heap vs vs.toArray}):wpAny (mZ prog w) A (call (.builtin "sorted") [.ref l]) Q E s:=by
 refine Calls.call_function_entry kind_sorted plain_sorted entry_sorted (args_sorted1 _) ?_;refine wa (wc ?_);refine wa (collect_list m ?_ (by rw[ji];lia));refine wa (wpAny_newList ?_ (by rw[ji];lia))
 have e:((s.heap.push (seqObj "list" #[] 0)).update (~~~s) (Obj.mapSeq (·++vs.toArray))).objs.size= ~~~s+1:=by
  ext
 have g:(((s.heap.push (seqObj "list" #[] 0)).update (~~~s) (Obj.mapSeq (·++vs.toArray))).push (seqObj "list" vs.toArray 0)).get? (~~~s+1)=some (seqObj "list" vs.toArray 0):=by
  rw[<-e];exact qp _ rfl
 rw[e];refine wa (wd (we slot_list_sort ⟨_,g,rfl⟩ entry_list_sort ?body (args_list_sort _)))
 case body=>
  rw[list_sort_plain];generalize j:({s with heap:=((s.heap.push (seqObj "list" #[] 0)).update (~~~s) (Obj.mapSeq (·++vs.toArray))).push (seqObj "list" vs.toArray 0)})=S at *
  have a:S.heap.get? (~~~s+1)=some (seqObj "list" vs.toArray 0):=by symm
  have o:=ql a;refine wa (listItems_at a rfl ?_);refine wa (listUpdate_at a rfl ?_ (by rw[qk,ji];lia) (Qh _))
  obtain⟨p,c⟩:∃p,(S.heap.update (~~~s+1) (Obj.mapSeq λ_=>#[])).get? (~~~s+1)=some (seqObj "list" #[] p):=⟨_,get?_update_seq a (λ_=>#[])⟩
  refine wa (seqEpoch_at c rfl ?_);refine wa (wpAny_newTuple ?_ (by rw[ji];lia));refine wa (wpAny_newList ?_ (Qh _));refine wd ?_
  have b:(((S.heap.update (~~~s+1) (Obj.mapSeq λ_=>#[])).push (seqObj "tuple" vs.toArray 0)).push (seqObj "list" #[] 0)).get? (~~~s+1)=some (seqObj "list" #[] p):=by
   rw[Heap.get?_push_ne _ _ _ (by rw[size_push',Heap.size_update];(subst_vars;simp)),Heap.get?_push_ne _ _ _ (by rw[Heap.size_update];(subst_vars;simp))];exact c
  have d:vs.toArray.size<2:=by omega
  rw[if_pos d,if_pos d];refine wa (wc ?_);refine wa (wc ?_);dsimp only;refine wa (seqEpoch_at b rfl ?_);refine wa (listUpdate_at b rfl ?_ (hsz2:=by symm));simp only[bne_self_eq_false,Qo,if_false]
  have f:(arrOf (SortSt.mk' general' (vs.toArray.zip vs.toArray) #[] 7 none)).map (·.2)=vs.toArray:=by
   symm
  refine wc ⟨_,rfl,wc ⟨_,rfl,?_⟩⟩;have k:=h;rw[<-j,f];exact k
def bX(j:Int)(q:Bool)(i:Int)(p:Bool):Bool:=if j=i then (!q&&p)else decide (j<i)
theorem GN(z:IsTup s.heap b #[.int i t,.bool p])(k:IsTup s.heap c #[.int j u,.bool q])(h:R (bX j q i p) s):
 wpAny (mZ prog w) A (keyLt' (tuples' true) (.ref c) (.ref b)) R E s:=by
 obtain⟨r,f,_,o,m⟩:=z;obtain⟨v,g,_,n,l⟩:=k;refine W.kat_lt g l f m ?_;show W.KatLex _ w A _ false R _ 0 s;unfold bX at h;refine W.kat_cons (SeqAt.EqAt.int_int j u i t _ w _ _ (W.kat_go (λe=>W.kat_yes (W.kat_cons (SeqAt.EqAt.bool_bool q p _ w _ _ (W.kat_go (λy=>W.kat_yes (W.kat_nil ?_)) λy=>W.kat_no (W.kat_one _ _ (lt_bool ?_)))))) λe=>W.kat_no ?_))
 .simp_all
 .have d:=by simpa using e
  rw[if_pos d]at h
  cases p<;>cases q<;>first|exact h|simp at y
 .have d:=by simpa using e
  rw[if_neg d]at h;exact oneLt_int h
theorem GO(h:a 1 0 (λk s'=>if k=true then G #[1,0] s' else G #[0,1] s') S):(W.kas_sort 2).kasWp a G S:=by
 show a 1 0 _ S
 have e:∀(k:Bool) (s':Shared),(if k=true then G #[1,0] s' else G #[0,1] s')=W.KasT.kasWp a (.bind (.bind (if k=true then .ret 1 else W.kas_asc (List.toArray (List.range 2)) 0 2)
  λn=>if (n==2)=true then .ret (n,List.toArray (List.range 2))else if n > 1 then .ask ((List.toArray (List.range 2)).getD 0 0) ((List.toArray (List.range 2)).getD (n-1) 0) λc=>if c=true then .ret (n,List.toArray (List.range 2))else W.kas_descPart n 2 (W.kas_rev (List.toArray (List.range 2)) 0 n)
   else W.kas_descPart n 2 (List.toArray (List.range 2))) λr=>if r.1<2 then W.kas_bin (2-max r.1 1) r.2 (max r.1 1)else .ret r.2) G s':=λk s'=>by cases k<;>rfl
 ext
theorem MN(Z:s.heap.IsList l #[.ref b,.ref c])(hb:IsTup s.heap b #[.int i t,.bool p])(H:IsTup s.heap c #[.int j u,.bool q])(h:Q (.ref (~~~s+1)) {s with heap:=sortedAll s.heap [.ref b,.ref c] (if bX j q i p=true then #[.ref c,.ref b]else #[.ref b,.ref c])}):wpAny (mZ prog w) A (call (.builtin "sorted") [.ref l]) Q E s:=by
 generalize m:[Value.ref b,Value.ref c]=vs at *;have J:s.heap.IsList l vs.toArray:=Z
 have D:vs.length=2:=by(subst_vars;simp)
 refine Calls.call_function_entry kind_sorted plain_sorted entry_sorted (args_sorted1 _) ?_;unfold Builtin.«sorted»;refine wa (m:=checkCount "sorted" 1 1 _) (wc ?_);refine wa (collect_list J ?_ (by rw[ji];lia));refine wa (wpAny_newList ?_ (by rw[ji];lia))
 have y:((s.heap.push (seqObj "list" #[] 0)).update (~~~s) (Obj.mapSeq (·++vs.toArray))).objs.size= ~~~s+1:=by
  ext
 have L:(((s.heap.push (seqObj "list" #[] 0)).update (~~~s) (Obj.mapSeq (·++vs.toArray))).push (seqObj "list" vs.toArray 0)).get? (~~~s+1)=some (seqObj "list" vs.toArray 0):=by
  rw[<-y];exact qp _ rfl
 have M:∀b o,s.heap.get? b=some o->(((s.heap.push (seqObj "list" #[] 0)).update (~~~s) (Obj.mapSeq (·++vs.toArray))).push (seqObj "list" vs.toArray 0)).get? b=some o:=λb o q=>by
  have a:b< ~~~s:=ql q;rw[Heap.get?_push_ne _ _ _ (by ext<;>lia),Heap.get?_update_ne _ _ _ _ (qm a),Heap.get?_push_ne _ _ _ (qm a)];exact q
 rw[y];refine wa (wd (we slot_list_sort ⟨_,L,rfl⟩ entry_list_sort ?body (args_list_sort _)))
 case body=>
  rw[list_sort_plain];generalize hS:({s with heap:=((s.heap.push (seqObj "list" #[] 0)).update (~~~s) (Obj.mapSeq (·++vs.toArray))).push (seqObj "list" vs.toArray 0)})=S at *
  have d:S.heap.get? (~~~s+1)=some (seqObj "list" vs.toArray 0):=by symm
  have ha:(~~~s)+1<S.heap.objs.size:=ql d;refine wa (listItems_at d rfl ?_);refine wa (listUpdate_at d rfl ?_ (by rw[qk,ji];lia) (Qh _))
  obtain⟨e1,C⟩:∃e1,(S.heap.update (~~~s+1) (Obj.mapSeq λ_=>#[])).get? (~~~s+1)=some (seqObj "list" #[] e1):=⟨_,get?_update_seq d (λ_=>#[])⟩
  refine wa (seqEpoch_at C rfl ?_);refine wa (wpAny_newTuple ?_ (by show vs.length<=_;rw[ji];lia));refine wa (wpAny_newList ?_ (Qh _));refine wd ?_
  have V:(((S.heap.update (~~~s+1) (Obj.mapSeq λ_=>#[])).push (seqObj "tuple" vs.toArray 0)).push (seqObj "list" #[] 0)).get? (~~~s+1)=some (seqObj "list" #[] e1):=by
   rw[Heap.get?_push_ne _ _ _ (by rw[size_push',Heap.size_update];symm),Heap.get?_push_ne _ _ _ (by rw[Heap.size_update];symm)];exact C
  have I:∀b o,s.heap.get? b=some o->(((S.heap.update (~~~s+1) (Obj.mapSeq λ_=>#[])).push (seqObj "tuple" vs.toArray 0)).push (seqObj "list" #[] 0)).get? b=some o:=λb o q=>by
   have a:b< ~~~s:=ql q;refine qe _ (qe _ ?_);rw[Heap.get?_update_ne _ _ _ _ (qm (qx a))];symm
  generalize hS6:({S with heap:=((S.heap.update (~~~s+1) (Obj.mapSeq λ_=>#[])).push (seqObj "tuple" vs.toArray 0)).push (seqObj "list" #[] 0)})=g
  have B:g.heap.get? (~~~s+1)=some (seqObj "list" #[] e1):=by symm
  have N:IsTup g.heap b #[.int i t,.bool p]:=by
   obtain⟨o,O,z⟩:=hb;exact⟨o,by symm,z⟩
  have R:IsTup g.heap c #[.int j u,.bool q]:=by
   obtain⟨o,O,z⟩:=H;exact⟨o,by symm,z⟩
  dsimp only
  have F:¬vs.toArray.size<2:=by ext
  rw[if_neg F,if_neg F]
  have Y:W.KatTups g.heap vs [.int i t,.int j u]:=by
   obtain⟨ob,b1,b2,n1,b3⟩:=N;obtain⟨oc,X,c2,n2,c3⟩:=R;rw[<-m];exact .cons b1 b2 b3 rfl (.cons X c2 c3 rfl .nil)
  refine wa (W.kat_kind (T:=.type "int") Y (qx (Qa 0)) (λv r=>?_) (by decide) ?_)
  .rcases qu r with rfl|r
   .exact .of_pure rfl
   .rcases qu r with rfl|r
    .exact .of_pure rfl
    .cases r
  have n:wpAny (mZ prog w) A.in1.in1 (keyLt' (tuples' true) (vs.getD 1 Value.none) (vs.getD 0 Value.none)) (λk s'=>k=bX j q i p/\s'=g) (λ_ _=>False) g:=by
   rw[<-m];exact GN N R ⟨rfl,rfl⟩
  refine wa (w6 (W.kat_run (ks:=vs) (vs:=vs) (κ:=tuples' true) (G:=λP s'=>s'=g/\P=if bX j q i p=true then #[1,0]else #[0,1])
   (Q:=λf s'=>s'=g/\failedOf f=none/\(arrOf f).map (·.2)=if bX j q i p=true then #[.ref c,.ref b]else #[.ref b,.ref c]) rfl ∅ (by ext) (λP f s' O z a3 a4=>?_) ?_) ?_ λ_ _ e=>e)
  .obtain⟨rfl,rfl⟩:=a4
   refine⟨rfl,a3,?_⟩;rw[W.kat_snds rfl z,<-m];symm
  .rw[D]
   refine GO ?_;refine w6 n (λk s' hk=>?_) λ_ _ x=>x
   ext
  rintro⟨⟨⟩,f⟩ s' ⟨rfl,U,G⟩;dsimp only;refine wa (seqEpoch_at B rfl ?_);refine wa (listUpdate_at B rfl ?_ (Qh _) (by rw[G,ji];split<;>ext));rw[U];simp only[bne_self_eq_false,Qo,if_false];refine wc ⟨_,rfl,wc ⟨_,rfl,?_⟩⟩;have T:=h;unfold sortedAll sortedHeap at T
  ext<;>lia
end
def c5:AR->Option AG
 | []=>some []
 | .int i::l=>(c5 l).map (i::·)
 | _=>none
def jP:D->Option (Int×Bool)
 | .tup [.int j,.bl q]=>some (j,q)
 | _=>none
def GP(e d:D):Option Bool:=(jP e).bind λx=>(jP d).map λy=>bX x.1 x.2 y.1 y.2
def jQ{a:Type}{x:a}{P:Prop}(h:none=some x):P:=by cases h
def xV(h:jP d=some x):d=.tup [.int x.1,.bl x.2]:=by
 cases d with
 | tup l=>cases l with
   | nil=>exact jQ h
   | cons a l=>cases a with
     | int j=>cases l with
       | nil=>exact jQ h
       | cons b l=>cases b with
         | bl q=>cases l with
           | nil=>exact w9 h ▸ rfl
           | cons _ _=>exact jQ h
         | _=>exact jQ h
     | _=>exact jQ h
 | _=>exact jQ h
def oU(l:AR):Option AR:=match c5 l with
 | some a=>if a.length<64 then some ((dO a).map .int)else none
 | none=>match l with
   | [d]=>some [d]
   | [d,e]=>(GP e d).map λk=>if k=true then [e,d]else [d,e]
   | _=>none
def fy:AR->Option AR
 | [.lst l]=>oU l
 | _=>none
theorem jR:∀{l:AR}{ns:AG},c5 l=some ns->l=ns.map D.int
 | [],ns,h=>by cases h;rfl
 | .int i::l,ns,h=>by
   obtain⟨m,a,rfl⟩:=qc h;rw[jR a];rfl
 | .non::l,ns,h=>by simp[c5]at h
 | .bl _::l,ns,h=>by simp[c5]at h
 | .str _::l,ns,h=>by simp[c5]at h
 | .tup _::l,ns,h=>by simp[c5]at h
 | .lst _::l,ns,h=>by simp[c5]at h
 | .scr _::l,ns,h=>by simp[c5]at h
 | .dct _ _ _::l,ns,h=>by simp[c5]at h
 | .obj _ _ _::l,ns,h=>by simp[c5]at h
 | .adr _::l,ns,h=>by simp[c5]at h
theorem jS:∀{ns:AG}{xs:AQ},RpL K G (ns.map D.int) xs->xs=ns.map V.int
 | [],xs,h=>h
 | n::ns,xs,h=>by
   obtain⟨x,r,rfl,a,b⟩:=h;rw[a,jS b];rfl
def xW(H:Hp)(x:V)(i:Int)(p:Bool):Prop:=∃a,x=.ref a/\H a=some (.tup [.int i,.bl p])
def lj:AQ->Hp->VK->Prop:=λd H Q=>∃a b,d=[.ref a]/\Rd H a (.lst b)/\
 ((∃c:AG,b=c.map .int/\c.length<64/\∀p,H p=none->Q (.ref p) (upd H p (.lst ((dO c).map .int))))\/
  (b.length<2/\∀p,H p=none->Q (.ref p) (upd H p (.lst b)))\/
  (∃x y i p j q,b=[x,y]/\xW H x i p/\xW H y j q/\∀r,H r=none->Q (.ref r) (upd H r (.lst (if bX j q i p=true then [y,x]else [x,y])))))
theorem MO:dn X (.builtin "sorted") lj:=by
 intro pins s σ H xs us Q I r h;obtain⟨a,ys,rfl,M,h⟩:=h;obtain⟨u,rfl,L⟩:=eB r;cases L;obtain⟨its,l,pl,hz⟩:=I.list (.inl M)
 have f:∀(V:_) _,_->_->_->EP X pins σ Q _ {s with heap:=sortedAll s.heap its V}:=λV d B n F=>by
  obtain⟨e,he⟩:=sortedAll_at s.heap its V;exact⟨.ref (~~~s+1),_,I.laid (λb o q=>sortedAll_old q) (Nat.le_succ _) (show ObjOk X.prog X.w _ _ _ (.lst d) from⟨n,V.toList,e,B,by ext⟩),rfl,F⟩
 have w:=I.hok.fresh (Nat.le_succ _);have Y:=l.length;rcases h with⟨ns,rfl,U,q⟩|⟨v,q⟩|⟨x,y,i,p,j,k,rfl,C,P,q⟩
 .have G:=oe l
  refine sorted_ints pl.isList G (by ext) λV T E v J=>?_;have e:=W.ksm_same (v.trans (y6 ns).symm) J (gN ns);subst e;have hn:=(y6 ns).length_eq;exact f V _ (oh E) (by ext) (q _ w)
 .refine MM pl.isList (by ext) ?_
  symm
 .obtain⟨b,rfl,hb⟩:=C
  obtain⟨c,rfl,O⟩:=P;obtain⟨u1,u2,rfl,A,D⟩:=n8 l;cases A;cases D;obtain⟨_,ib,z,R⟩:=I.hok b _ hb;obtain⟨_,Z,S,N⟩:=I.hok c _ O;obtain⟨w1,w2,rfl,⟨t,rfl⟩,g⟩:=n8 z;cases g;obtain⟨w3,K,rfl,⟨t',rfl⟩,m⟩:=n8 S;cases m;refine MN (by simpa using pl.isList) (by simpa using R) (by simpa using N) ?_;refine f _ _ ?_ (by split<;>ext) (q _ w);cases bX j k i p
  .grind
  .exact .cons rfl (.cons rfl .nil)
def GQ(s:Same G H)(e:d=.tup [.int i,.bl p])(r:Rp K G d v):xW H v i p:=by
 subst e;obtain⟨a,k,rfl,g,c⟩:=r;obtain⟨x,j,rfl,b,h⟩:=c;obtain⟨y,rfl,f⟩:=iF h;subst b f;exact⟨a,rfl,s _ _ g⟩
def MQ(h:GP e d=some k):∃j q i p,e=.tup [.int j,.bl q]/\d=.tup [.int i,.bl p]/\k=bX j q i p:=by
 obtain⟨x,a,f⟩:=qa h;obtain⟨y,c,b⟩:=qc f;exact⟨x.1,x.2,y.1,y.2,xV a,xV c,b.symm⟩
theorem MR:fv K lj fy:=by
 intro C B l H G Q h s r q;unfold fy at h
 split at h
 .obtain⟨v,rfl,t⟩:=eS r
  obtain⟨a,A,rfl,g,c⟩:=t;refine⟨a,A,rfl,g,?_⟩;unfold oU at h
  split at h
  .rename_i z e
   split at h
   .rename_i m
    cases h;cases jR e;exact .inl ⟨z,jS c,m,λp b=>q p _ _ G (.hid s b _) b (s.free b) Yi (.ints _)⟩
   .cases h
  .split at h
   .cases h
    exact .inr (.inl ⟨by rw[c.length];ext,λp b=>q p _ _ G (.hid s b _) b (s.free b) Yi c⟩)
   .obtain⟨k,u,rfl⟩:=qc h
    obtain⟨j,y,i,x,rfl,rfl,rfl⟩:=MQ u;obtain⟨o,w,rfl,d,c⟩:=c;obtain⟨n,rfl,f⟩:=iF c;refine .inr (.inr ⟨o,n,i,x,j,y,rfl,GQ s rfl d,GQ s rfl f,λp b=>q p _ _ G (.hid s b _) b (s.free b) Yi ?_⟩);cases bX j y i x
    .exact .cons d (.one f)
    .exact .cons f (.one d)
   .cases h
 .cases h
def MU{P:P7}{w:World}{j:AE}{c:Heap}{k n:Nat}{x q:Str}{ps:AK}{st:Stmt}{a:Addr}{g:FuncData}(F:Fun K x q st a g)(b:Binds K g ps [])(m:j x=some (.ref a))(o:ps.length=n):
 aM P w K j c k n x ps (λ_=>none):=by
 have i:∀vs H Q E,¬bu K n (λ_=>none) vs H Q E:=λvs H Q E h=>by
  obtain⟨_,ds,d,G,_,_,e,_⟩:=h;cases e
 exact⟨a,g,⟨λvs H Q E h=>absurd h (i vs H Q E),λA f s H l us vs Q E _ _ _ _ h=>absurd h (i vs H Q E)⟩,b,F.kp,m⟩
section
variable {e:Expr}{f fb:AW}
def bE:AR->Option AH
 | []=>some []
 | .bl b::l=>(bE l).map (b::·)
 | _=>none
theorem GR:∀{l:AR}{a:AH},bE l=some a->l=a.map D.bl
 | [],a,h=>by cases h;rfl
 | .bl i::l,a,h=>by
   obtain⟨m,b,rfl⟩:=qc h;rw[GR b];rfl
 | .non::l,c,h=>by simp[bE]at h
 | .int _::l,c,h=>by simp[bE]at h
 | .str _::l,c,h=>by simp[bE]at h
 | .tup _::l,c,h=>by simp[bE]at h
 | .lst _::l,c,h=>by simp[bE]at h
 | .scr _::l,c,h=>by simp[bE]at h
 | .dct _ _ _::l,c,h=>by simp[bE]at h
 | .obj _ _ _::l,c,h=>by simp[bE]at h
 | .adr _::l,c,h=>by simp[bE]at h
theorem GS:∀{a:AH}{xs:AQ},RpL K G (a.map D.bl) xs->xs=a.map V.bl
 | [],xs,h=>h
 | n::d,xs,h=>by
   obtain⟨x,r,rfl,b,c⟩:=h;rw[b,GS c];rfl
theorem xX:∀{a:AH}{us:AC},Vals (a.map V.bl) us->us=a.map Value.bool
 | [],us,h=>by cases h;rfl
 | b::a,us,h=>by
   cases h with
   | cons r t=>
     cases (r);rw[xX t];rfl
theorem MV(a:AH):((List.range a.length).any λi=>a.getD i false)=a.any id:=by
 induction a with
 | nil=>rfl
 | cons b a c=>
   rw[qt,List.range_succ_eq_map,List.any_cons,List.any_map];symm
theorem MX(a:AH):((List.range a.length).all λi=>a.getD i false)=a.all id:=by
 induction a with
 | nil=>rfl
 | cons b a c=>
   rw[qt,List.range_succ_eq_map,List.all_cons,List.all_map];symm
def fz(g:AH->V):AQ->Hp->VK->Prop:=λc H Q=>∃(a:Addr) (b:List _),c=[.ref a]/\Rd H a (.lst (b.map .bl))/\Q (g b) H
theorem GU(A:Around)(prog:P7)(w:World)(c:AH):TruthOf prog w A (λi v=>((c.map Value.bool).toArray)[i]?=some v) (λi=>c.getD i false):=λi v s Q E d g=>by
 have a:(c.map .bool)[i]?=some v:=by symm
 rw[Qm]at a;obtain⟨b,h,rfl⟩:=qc a;refine wpAny_truthy_bool ?_
 ext
def xY{pins:AB}{σ:L2.St}{H:Hp}{its:AC}(f:A.handled=none)(c:s.heap.IsList a its.toArray)(h:∀b,b={s with heap:=s.heap.push {cls:=.type "list_iterator",data:=.fields #[.ref a,.int 0 0]} }->Walks X.prog X.w A (~~~s) [~~~s,a] [~~~s] its.toArray.size (λi v=>its.toArray[i]?=some v) (λi h=>h.IsListIter (~~~s) a i/\h.IsList a its.toArray)->
  (b.heap.IsListIter (~~~s) a 0/\b.heap.IsList a its.toArray)->Q (.ref (~~~s)) b):wpAny (mZ X.prog X.w) A (pyIter (.ref a)) Q E s:=by
 have e:a≠(~~~s):=by
  obtain⟨o,d,_⟩:=c;exact qm (ql d)
 refine wpAny_pyIter_list c (h _ rfl (.list f _ a e _) ⟨⟨_,qp _ rfl,rfl,rfl⟩,?_⟩);obtain⟨o,d,r⟩:=c;exact⟨o,qe _ d,r⟩
theorem xZ{σ:L2.St}(I:Inv X pins σ H s)(k:∀b u,b∉[~~~s]->(s.heap.push o).get? b=some u->a.get? b=some u):Inv X pins σ H {s with heap:=a,toks:=tk}:=
 I.kept λb u q=>k b u (by
  intro z
  exact absurd (ql q) (by ext)) (qe _ q)
def MY(l:X.calm=true):dn X (.builtin "any") (fz λb=>.bl (b.any id)):=by
 intro pins s σ H v t Q I r h;obtain⟨a,b,rfl,g,q⟩:=h;obtain⟨u,rfl,d⟩:=eB r;cases d;obtain⟨o,j,n,m⟩:=I.list (.inl g);cases xX j;refine call_any_walk (xY (pins:=pins) (σ:=σ) (H:=H) (I.ok.hd l) n.isList λc e W st=>?_);subst e;refine⟨_,_,_,_,_,_,λi=>b.getD i _,rfl,W,st,GU _ _ _ b,λp f k=>⟨.bl _,H,show Inv X _ σ H {s with heap:=p,toks:=f} from xZ I k,?_,q⟩⟩;show _=_;rw[qk,qf,MV]
def MZ(l:X.calm=true):dn X (.builtin "all") (fz λb=>.bl (b.all id)):=by
 intro pins s σ H v t Q I r h;obtain⟨a,b,rfl,g,q⟩:=h;obtain⟨u,rfl,d⟩:=eB r;cases d;obtain⟨o,j,n,m⟩:=I.list (.inl g);cases xX j;refine call_all_walk (xY (pins:=pins) (σ:=σ) (H:=H) (I.ok.hd l) n.isList λc e W st=>?_);subst e;refine⟨_,_,_,_,_,_,λi=>b.getD i _,rfl,W,st,GU _ _ _ b,λp f k=>⟨.bl _,H,show Inv X _ σ H {s with heap:=p,toks:=f} from xZ I k,?_,q⟩⟩;show _=_;rw[qk,qf,MX]
def dw:AR->Option D
 | [.lst l]=>(bE l).map λa=>.bl (a.any id)
 | _=>none
def c6:AR->Option D
 | [.lst l]=>(bE l).map λa=>.bl (a.all id)
 | _=>none
def GV{gd:AH->D}(c:∀e d,m e=some d->∃l b,e=[.lst l]/\bE l=some b/\d=gd b)(n:∀G b,Rp K G (gd b) (g b)):cX K (fz g) m:=by
 intro o e d H G Q h s r q;obtain⟨l,b,rfl,j,rfl⟩:=c e d h;obtain⟨v,rfl,k⟩:=eS r;obtain⟨a,p,rfl,f,i⟩:=k;cases GR j;cases GS i;exact⟨a,b,rfl,f,q _ H G (.refl s) (n G b)⟩
theorem x5:cX K (fz λa=>.bl (a.any id)) dw:=GV (gd:=λa=>.bl (a.any id)) (λc d h=>by
 unfold dw at h
 split at h
 .obtain⟨a,b,rfl⟩:=qc h
  symm
 .cases h) λG a=>by rw[Rp]
theorem x6:cX K (fz λa=>.bl (a.all id)) c6:=GV (gd:=λa=>.bl (a.all id)) (λc d h=>by
 unfold c6 at h
 split at h
 .obtain⟨a,b,rfl⟩:=qc h
  symm
 .cases h) λG a=>by rw[Rp]
def lp:AQ->Hp->VK->Prop:=λvs H Q=>∃(a:Addr) (ns:AG),vs=[.ref a]/\Rd H a (.lst (ns.map V.int))/\Q (.int ns.sum) H
theorem GW(ns:AG):∀n,n<=ns.length->preSum (λi=>ns.getD i 0) n=(ns.take n).sum
 | 0,_=>by simp[preSum]
 | n+1,h=>by
   rw[preSum,(GW ns n ∅),List.take_succ_eq_append_getElem ∅,List.sum_append];simp[qr (show n<ns.length by lia)]
theorem M0(p:X.calm=true):dn X (.builtin "sum") lp:=by
 intro pins s σ H xs us Q I r h;obtain⟨a,ns,rfl,x,q⟩:=h;obtain⟨u,rfl,g⟩:=eB r;cases g;obtain⟨its,l,pl,z⟩:=I.list (.inl x);have c:=(oe l).length;refine call_sum_walkG (xY (pins:=pins) (σ:=σ) (H:=H) (I.ok.hd p) pl.isList λj e W st=>?_);subst e;refine⟨_,_,_,_,_,_,λi=>ns.getD i 0,rfl,W,st,λb hb=>?_,λi v n=>?_,λh' tk t' k=>⟨.int _,H,(show Inv X pins σ H {s with heap:=h',toks:=tk} from xZ I k),⟨t',?_⟩,q⟩⟩
 .obtain⟨o,y,_⟩:=pl.isList
  rw[wy];rcases qu hb with rfl|hb
  .exact Qa _
  .rw[List.mem_singleton.mp hb];exact qx (ql y)
 .have d:=by simpa using n
  have m:i<ns.length:=by rw[<-c];exact(qo d).1
  obtain⟨u,w,g⟩:=l.get (by rw[Qm,qr m];rfl);rw[w]at d;cases d;obtain⟨t,rfl⟩:=g;exact⟨t,by simp[qr m]⟩
 .rw[qk,c,GW ns _ (qv _),List.take_length]
def gg:AR->Option D
 | [.lst l]=>(c5 l).map λns=>.int ns.sum
 | _=>none
def x8:cX K lp gg:=by
 intro vs ds d H G Q h s r q;unfold gg at h
 split at h
 .obtain⟨ns,g,rfl⟩:=qc h
  obtain⟨v,rfl,b⟩:=eS r;obtain⟨a,xs,rfl,g',c⟩:=b;cases jR g;cases jS c;exact⟨a,ns,rfl,g',q _ H G (.refl s) (by rw[Rp])⟩
 .cases h
def oV(i:Nat)(fi f:AW)(g:AR->D->D->Option AR):AT:=λρ=>(f ρ).bind λd=>(cL i ρ).bind λl=>(fi ρ).bind λk=>(g l k d).map λl'=>.nx (ρ.set i (some (.ow l')))
def fA(l:AR)(k d:D):Option AR:=(eJ k).bind λi=>(dZ l.length i).map λj=>l.set j d
end
section
variable {w:World}{A:Around}{E:AA}
def M3(b:s.heap.IsTupleIter d t i)(l:s.heap.IsTuple t a)(j:a[i]?=some x)(k:∀p,p.IsTupleIter d t (i+1)->Heap.SameBut d s.heap p->Q x {s with heap:=p}):
 wpAny (mZ prog w) A (Builtin.SmallTypes.nextOf (.ref d)) Q E s:=by
 obtain⟨o,e,h,c⟩:=id b;obtain⟨n,f,_,m,g⟩:=l
 refine wa (wpAny_callSpecial?_slot b.typeIs F.slot_tuple_iterator_next
  (we F.slot_tuple_iterator_next b.typeIs F.entry_tuple_iterator_next ?_ (F.args_tuple_iterator_next_1 _)))
 show wpAny _ _ (field _ 0>>=_) _ _ s;refine wa (wpAny_field e c (x:=.ref t) rfl (wa (wpAny_field e c (x:=.int i 0) rfl (wa (wpAny_seqItems f g ?_)))));simp [j]
 exact wa (wpAny_setField e c nofun (wc ⟨x,rfl,wc (k _ (⟨_,wz _ e (Obj.isFreed_of_fields (jg c _)),(Obj.cls_mapFields ..).trans h,by
  rw[jg c];simp[rawInt]⟩) (.update ..))⟩))
theorem M4(j:A.handled=none)(a:s.heap.IsTupleIter d l i)(m:s.heap.IsTuple l b)(k:b[i]?=none)(n:∀t e,Heap.ExtBut d s.heap t->(∃o,t.get? e=some o/\o.cls=.type "StopIteration")->E (.ref e) {s with heap:=t}):
 wpAny (mZ prog w) A (Builtin.SmallTypes.nextOf (.ref d)) Q E s:=by
 obtain⟨o,g,r,h⟩:=id a;obtain⟨p,f,_,q,c⟩:=m
 refine wa (wpAny_callSpecial?_slot a.typeIs F.slot_tuple_iterator_next
  (we F.slot_tuple_iterator_next a.typeIs F.entry_tuple_iterator_next ?_ (F.args_tuple_iterator_next_1 _)))
 show wpAny _ _ (field _ 0>>=_) _ _ s;refine wa (wpAny_field g h (x:=.ref l) rfl (wa (wpAny_field g h (x:=.int i 0) rfl (wa (wpAny_seqItems f c ?_)))));simp [k];refine wa (wpAny_rule (wa (wpAny_setField g h nofun (wa (wa (m:=firstArgMember _ _) (wpAny_of_eq (a:=.none) (by first|rfl|(rfl)) (wf (wa (wpAny_handled ?_)) (by size_fits))))))))
 first|rw[j]|rw[j]
 refine wa (wc (wpAny_throw ?_));exact n _ _ (((wx ..).extBut.push _).push _) ⟨_,qp _ rfl,rfl⟩
theorem M5{i:Nat}{Q:AA}(he:IsEnum s.heap e z i W)(Y:s.heap.IsTupleIter z l i)(hl:s.heap.IsTuple l M)(hx:M[i]?=some x)(B:e≠z)(hQ:∀K,IsEnumOut K e z ((i:Int)+1) x (~~~s)->K.IsTupleIter z l (i+1)->
  K.get? (~~~s)=some {cls:=.type "tuple",data:=.seq #[.int i s.toks,x]}->K.objs.size= ~~~s+1->
  (∀b o,b≠e->b≠z->s.heap.get? b=some o->K.get? b=some o)->Q (.ref (~~~s)) {s with heap:=K,toks:=s.toks+1}):
 wpAny (mZ prog w) A (Builtin.«enumerate.__next__» ⟨[.ref e],[]⟩) (λZ s'=>∃v,Z=.done (.ret v)/\Q v s') E s:=by
 obtain⟨V,g,d,tk,os⟩:=s;show wpAny _ _ (field (.ref e) 2>>=_) _ _ _;refine wa (wpAny_field he rfl (x:=.ref z) rfl ?_);refine wa (M3 Y hl hx λh₁ D t=>?_);have p:=(t.2 e B).trans he;refine wa (wpAny_field p rfl (x:=rawInt i) rfl ?_);refine wa (wpAny_field p rfl (x:=.none) rfl ?_);refine wa (wpAny_mkInt ?_);refine wa (wpAny_setField_rec p nofun λU P u=>?_);refine wa (wpAny_setField_rec P nofun λm N c=>?_);replace c:Heap.SameBut e U m:=c;show wpAny _ _ _ _ _ ⟨m,g,d,tk+1,os⟩;refine wa (wpAny_newTuple ?_);have j:IsEnum (m.push {cls:=.type "tuple",data:=.seq #[.int i tk,x]}) e z ((i:Int)+1) W:=qe _ N;generalize f:m.push _=n at j
 have G:m.objs.size=V.objs.size:=by rw[c.1,u.1,t.1]
 have H:e<V.objs.size:=ql he
 have R:n.get? V.objs.size=some {cls:=.type "tuple",data:=.seq #[.int i tk,x]}:=by rw[<-f,<-G];exact qp _ rfl
 have J:n.objs.size=V.objs.size+1:=by rw[<-f,wy,G]
 have S:∀b o,b≠e->b≠z->V.get? b=some o->n.get? b=some o:=λb o y O hb=>by
  rw[<-f];exact qe _ (c.extBut b o y (u.extBut b o y (t.extBut b o O hb)))
 have C:n.IsTupleIter z l (i+1):=by
  rw[<-f];obtain⟨o,ho,r⟩:=D.at λo q=>c.extBut z o (Ne.symm B) (u.extBut z o (Ne.symm B) q);exact⟨o,qe _ ho,r⟩
 show wpAny _ _ _ _ _ ⟨n,g,d,tk+1,os⟩;rw[G];refine wa ?_
 .refine wa (wpAny_field j rfl (x:=.none) rfl (wc ?_))
  refine wa (wpAny_rule ?_);refine wa (wpAny_field j rfl (x:=W) rfl ?_);refine wa (wpAny_setField_rec j nofun λh₅ I h=>?_);refine wa ?_
  .refine wa (wpAny_setField_rec I nofun λX L k=>?_)
   refine wpAny_setField_rec L nofun λF T a=>?_;replace a:Heap.SameBut e X F:=a;refine wa (wpAny_letGo (wc ⟨_,rfl,hQ F T ?_ ?_ ?_ ?_⟩))
   .exact C.at λo q=>a.extBut z o (Ne.symm B) (k.extBut z o (Ne.symm B) (h.extBut z o (Ne.symm B) q))
   .exact a.extBut _ _ (Nat.ne_of_gt H) (k.extBut _ _ (Nat.ne_of_gt H) (h.extBut _ _ (Nat.ne_of_gt H) R))
   .rw[a.1,k.1,h.1,J]
   .exact λb o y O hb=>a.extBut b o y (k.extBut b o y (h.extBut b o y (S b o y O hb)))
def M6{i:Nat}(n:IsEnum s.heap e g i p)(h:s.heap.IsTupleIter g l i)(t:s.heap.IsTuple l f)(q:f[i]?=some x)(j:e≠g)(r:∀u,IsEnumOut u e g ((i:Int)+1) x (~~~s)->u.IsTupleIter g l (i+1)->
  u.get? (~~~s)=some {cls:=.type "tuple",data:=.seq #[.int i s.toks,x]}->u.objs.size= ~~~s+1->
  (∀b o,b≠e->b≠g->s.heap.get? b=some o->u.get? b=some o)->Q (some (.ref (~~~s))) {s with heap:=u,toks:=s.toks+1}):
 wpAny (mZ prog w) A (pyNext (.ref e)) Q E s:=by
 have m:s.TypeIs (.ref e) _:=⟨_,n,rfl⟩
 exact wa (jh (wpAny_callSpecial?_slot m F.slot_enumerate_next
  (we F.slot_enumerate_next m F.entry_enumerate_next
   (M5 n h t q j λu a b c d k=>wc (r u a b c d k)) (F.args_enumerate_next_1 _))))
def M7{i:Nat}(m:A.handled=none)(g:IsEnum s.heap e c i r)(b:s.heap.IsTupleIter c l i)(q:s.heap.IsTuple l a)(j:a[i]?=none)(n:∀t,Heap.ExtBut c s.heap t->Q none {s with heap:=t}):wpAny (mZ prog w) A (pyNext (.ref e)) Q E s:=by
 have h:s.TypeIs (.ref e) _:=⟨_,g,rfl⟩
 refine wa (jh (wpAny_callSpecial?_slot h F.slot_enumerate_next
  (we F.slot_enumerate_next h F.entry_enumerate_next ?_ (F.args_enumerate_next_1 _))))
 show wpAny _ _ (field _ 2>>=_) _ _ _;refine wa (wpAny_field g rfl (x:=.ref c) rfl (wa (M4 m b q j λt x d f=>?_)));obtain⟨o,p,k⟩:=f;exact wa (wpAny_isInstance ⟨o,p,k⟩ isSubtype_stop (wc (n _ d)))
def M8(l:Addr)(a:Array Value)(n:Nat)(f:Option Addr)(k:Array (Option Value)):
 Meets (Builtin.«enumerate.__new__» ⟨[.type "enumerate",.ref l],[]⟩) (λ_ R s=>s.heap.get? l=some {cls:=.type "tuple",dict:=f,data:=.seq a n,slots:=k}/\
  R (.ok (.ret (.ref (s.heap.push {cls:=.type "tuple_iterator",data:=.fields #[.ref l,.int 0 0]}).objs.size)))
   {s with heap:=(s.heap.push {cls:=.type "tuple_iterator",data:=.fields #[.ref l,.int 0 0]}).push {cls:=.type "enumerate",data:=.fields #[.none,.bool false,.ref (~~~s),rawInt 0,.none,.none]} }):=
 .of_wp λo w A R s h=>by
  obtain⟨j,g,d,p,os⟩:=s;obtain⟨b,h⟩:=h;have i:=sub_enumerate
  have e:Heap.IsTuple (Shared.heap ⟨j,g,d,p,os⟩) l a:=⟨_,b,rfl,n,rfl⟩
  wp_walk using m.AutoSeq1.wpAny_loadPart' b
  refine wpAny_stack_any λst=>wc ?_
  split
  .rename_i c _ _ _ _ _
   cases (c==Value.type "enumerate")
   .wp_walk using m.AutoSeq1.wpAny_loadPart' b,wpAny_pyIter_tuple e
    exact⟨_,rfl,h⟩
   .wp_walk using m.AutoSeq1.wpAny_loadPart' b,wpAny_pyIter_tuple e
    exact⟨_,rfl,h⟩
  .wp_walk using m.AutoSeq1.wpAny_loadPart' b,wpAny_pyIter_tuple e
   exact⟨_,rfl,h⟩
theorem M9(m:s.heap.IsTuple l a)(h:∀r,IsEnum r (~~~s+1) (~~~s) 0 .none->r.IsTupleIter (~~~s) l 0->r.objs.size= ~~~s+2->
  (∀b o,s.heap.get? b=some o->r.get? b=some o)->Q (.ref (~~~s+1)) {s with heap:=r}):
 wpAny (mZ prog w) A (call (.type "enumerate") [.ref l]) Q E s:=by
 obtain⟨⟨c,d,q,g⟩,p,j,n,k⟩:=m;subst j k
 refine callType_new F.called_enumerate (by decide) (F.typeCall_enumerate_1 _) (F.newCall_enumerate_1 _) (λe=>F.args_object_init_2 e _) F.entry_enumerate_new
  (M8 l a n d g) ⟨p,?_⟩
 have i:(s.heap.push {cls:=.type "tuple_iterator",data:=.fields #[.ref l,.int 0 0]}).objs.size=_:=wy ..;rw[i]
 have f:IsEnum ((s.heap.push {cls:=.type "tuple_iterator",data:=.fields #[.ref l,.int 0 0]}).push
  {cls:=.type "enumerate",data:=.fields #[.none,.bool false,.ref (~~~s),rawInt 0,.none,.none]}) (~~~s+1) (~~~s) 0 .none:=by
  have:=qp (s.heap.push {cls:=.type "tuple_iterator",data:=.fields #[.ref l,.int 0 0]})
   (o:={cls:=.type "enumerate",data:=.fields #[.none,.bool false,.ref (~~~s),rawInt 0,.none,.none]}) rfl
  symm
 refine⟨⟨_,f,rfl⟩,h _ f ⟨_,qe _ (qp _ rfl),rfl,rfl⟩ (by ext) λb o x=>qe _ (qe _ x)⟩
end
theorem GX{σ:L2.St}{ch:List Addr}{T:Addr}(I:Inv X pins σ H s)(f:∀b∈ch,cJ X pins H b)(k:∀b u,b∉ch->s.heap.get? b=some u->h'.get? b=some u)(g:(~~~s)<=T)(p:ObjOk X.prog X.w (upd H T o) h' T o):Inv X pins σ (upd H T o) {s with heap:=h',toks:=t' }:=by
 have d:=I.hok.fresh g
 have j:∀b u,H b=some u->b∉ch:=λb u e z=>by rw[(f b z).1]at e;cases e
 refine I.step (λb x=>?_) (λb u _ _ a e _=>k b u a e) (λb u _ _ a e _=>⟨u.slots,k b u a e⟩) (λb u _ e n=>?_)
  (λb u a e=>⟨u,k b u a e⟩) (λb E e=>?_) (λb u E e=>?_) (λb G e=>⟨#[],?_⟩) (λm l=>?_) (λb u e=>?_) I.bare
 .obtain⟨_,B,_,C,y,A⟩:=f b x
  symm
 .rwa [Yh (qm (Qi (ql e) g))]
 .rwa [Yh (Yl e d)]
 .rwa [Yh (Yl e d)]
 .rw[Yh (Yl e d),e];simp
 .obtain⟨h,t,i,w,r⟩:=l
  exact⟨h,t,i,k _ h (λz=>(f _ z).2.1 rfl) w,r⟩
 .by_cases x:b=T
  .subst x;rw[Yi]at e;symm
  .rw[Yh x]at e
   refine(I.hok b u e).stay (λc v a q=>k c v ?_ q) (λc q=>by rwa [Yh (Yl q d)]) λc E q=>by rwa [Yh (Yl q d)]
   symm
def lq(K:W7)(a:Addr):It:=
 ⟨λi H=>∃b x,SqL K H a b/\b[i]?=some x,λi H x c=>∃y p,(∀b,SqL K H a b->b[i]?=some y)/\H p=none/\x=.ref p/\c=upd H p (.tup [.int i,y]),λi H=>∃b,SqL K H a b/\b.length<=i⟩
def lr(K:W7)(a:Addr):It:=
 ⟨λi H=>∃b x,SqT K H a b/\b[i]?=some x,λi H x c=>∃y p,(∀b,SqT K H a b->b[i]?=some y)/\H p=none/\x=.ref p/\c=upd H p (.tup [.int i,y]),λi H=>∃b,SqT K H a b/\b.length<=i⟩
section
variable {pt:Pos}
theorem M_(a j e:Addr)(n:e≠j):d7 P w K (.Tuple elts x1 pt) (lq K a) [e,j] e (λi h=>(∃g,IsEnum h e j i g)/\h.IsListIter j a i) where
 mem:=by simp
 obj:=λi h st b hb=>by
  obtain⟨⟨g,l⟩,f⟩:=st;rcases qu hb with rfl|hb
  .simp_all
  .obtain⟨o,q,c,d⟩:=f
   symm
 keep:=λi h h' st k=>by
  obtain⟨⟨g,l⟩,f⟩:=st;exact⟨⟨g,k e nofun _ l⟩,f.at λo q=>k j nofun o q⟩
 item:=by
  intro X J A F M i pins s σ H E I y st G;subst J A F;obtain⟨xs,x,v,C⟩:=G;obtain⟨its,B,p,hz⟩:=I.list v;obtain⟨u,hu,T⟩:=B.get C;obtain⟨⟨g,l⟩,f⟩:=st;refine wpAny_pyNext_enum_item l f p.isList (x:=u) ⋯ n λh' ho r N hsz O=>?_;refine⟨_,rfl,wpAny_letOwnedTupleGo_enum ho λh2 D m=>?_⟩;have U:=I.fresh
  have t:∀b∈[e,j],b≠(~~~s):=λb hb z=>by
   rcases qu hb with rfl|hb
   .grind
   .obtain⟨o,q,_⟩:=f
    exact absurd (ql q) (by ext)
  have Q:∀b o,b∉[e,j]->_:=λb o hb q=>by
   have L:b≠e:=λz=>hb (by simp[z]);have S:b≠j:=λz=>hb (by simp[z]);exact(m.2 b L).trans (O b o L S q)
  have W:=(m.2 _ (Ne.symm (t e nofun))).trans N;refine⟨.ref _,upd H _ _,GX (s:=s) (t':=s.toks+1) I y Q (qv _) ?_,rfl,⟨x,~~~s,λys R=>by rw[I.list_inj R v];exact C,U,rfl,rfl⟩,⟨⟨_,by simpa using D⟩,r.at λo q=>(m.2 j (Ne.symm n)).trans q⟩,λb hb=>?_⟩
  .exact⟨by rw[ji];ext,[.int i s.toks,u],.cons ⟨_,rfl⟩ (.cons T .nil),_,W,rfl,0,rfl⟩
  .rw[Yh (t b hb)];exact(y b hb).1
 done:=by
  intro X J A F M i pins s σ H E I y st G;subst J A F;obtain⟨xs,v,C⟩:=G;obtain⟨its,B,p,hz⟩:=I.list v;obtain⟨⟨g,l⟩,f⟩:=st;obtain⟨f0,f1,f2,V,Z,f5⟩:=y j nofun;have hl:=B.length
  exact wpAny_pyNext_enum_end (I.ok.hd M) l f p.isList (by simp;lia) λh' Y=>⟨rfl,I.turned (λb o hb e=>Y b o hb e) f0 f1 V Z f5⟩
 self:=λ_ _ _ _ _ st h=>let ⟨⟨_,l⟩,_⟩:=st;wpAny_pyIter_enum l h
theorem Na(a j e:Addr)(n:e≠j):d7 P w K (.Tuple elts x1 pt) (lr K a) [e,j] e (λi h=>(∃g,IsEnum h e j i g)/\h.IsTupleIter j a i) where
 mem:=by simp
 obj:=λi h st b hb=>by
  obtain⟨⟨g,l⟩,f⟩:=st;rcases qu hb with rfl|hb
  .grind
  .obtain⟨o,q,c,d⟩:=f
   symm
 keep:=λi h h' st k=>by
  obtain⟨⟨g,l⟩,f⟩:=st;exact⟨⟨g,k e nofun _ l⟩,f.at λo q=>k j nofun o q⟩
 item:=by
  intro X J A F M i pins s σ H E I y st G;subst J A F;obtain⟨xs,x,v,C⟩:=G;obtain⟨its,B,p,hz⟩:=I.tuple v;obtain⟨u,hu,T⟩:=B.get C;obtain⟨⟨g,l⟩,f⟩:=st;refine M6 l f (p) (x:=u) ⋯ n λh' ho r N hsz O=>?_;refine⟨_,rfl,wpAny_letOwnedTupleGo_enum ho λh2 D m=>?_⟩;have U:=I.fresh
  have t:∀b∈[e,j],b≠(~~~s):=λb hb z=>by
   rcases qu hb with rfl|hb
   .grind
   .obtain⟨o,q,_⟩:=f
    exact absurd (ql q) ⋯
  have Q:∀b o,b∉[e,j]->_:=λb o hb q=>by
   have L:b≠e:=λz=>hb (by simp[z]);have S:b≠j:=λz=>hb (by simp[z]);exact(m.2 b L).trans (O b o L S q)
  have W:=(m.2 _ (Ne.symm (t e nofun))).trans N;refine⟨.ref (~~~s),upd H _ _,GX (s:=s) (t':=s.toks+1) I y Q (qv _) ?_,rfl,⟨x,~~~s,λys R=>by rw[I.tuple_inj R v];exact C,U,rfl,rfl⟩,⟨⟨_,by simpa using D⟩,r.at λo q=>(m.2 j (Ne.symm n)).trans q⟩,λb hb=>?_⟩
  .exact⟨by rw[ji];symm,[.int i s.toks,u],.cons ⟨_,rfl⟩ (.cons T .nil),_,W,rfl,0,rfl⟩
  .rw[Yh (t b hb)];exact(y b hb).1
 done:=by
  intro X J A F M i pins s σ H E I y st G;subst J A F;obtain⟨xs,v,C⟩:=G;obtain⟨its,B,p,hz⟩:=I.tuple v;obtain⟨⟨g,l⟩,f⟩:=st;obtain⟨f0,f1,f2,V,Z,f5⟩:=y j nofun;have hl:=B.length
  exact M7 (I.ok.hd M) l f (p) (by simp;lia) λh' Y=>⟨rfl,I.turned (λb o hb e=>Y b o hb e) f0 f1 V Z f5⟩
 self:=λ_ _ _ _ _ st h=>let ⟨⟨_,l⟩,_⟩:=st;wpAny_pyIter_enum l h
def x9(K:W7)(c:TA):TI:=λe H R=>c e H λf b=>∃a d,f=[.ref a]/\((SqL K b a d/\(d.length<=sizeLine->R (lq K a) b))\/(SqT K b a d/\(d.length<=sizeLine->R (lr K a) b)))
theorem x_(B:Gl X "enumerate")(w:X.mg "enumerate"=none)(y:PA X [l] A)(hs:Ze X l:=by rfl):PI X (.Tuple elts x1 pt) (.Call (.Name "enumerate" p) [l] [] pos) (x9 X.K A):=by
 intro J s K H R I h;refine Call_ (gJ I B w boot_enumerate (PyProof.Rows.callWith_type1 (aF (y pos _ s K H _ I h) λM c t=>?_) hs rfl));obtain⟨N,v,f,x,z⟩:=t;obtain⟨a,O,rfl,q⟩:=z;obtain⟨u,rfl,D⟩:=eB x;cases D
 have j:∀(k:Heap),k.objs.size=c.heap.objs.size+2->(∀b o,c.heap.get? b=some o->k.get? b=some o)->∀b∈[c.heap.objs.size+1,c.heap.objs.size],_:=λk n g b L=>by
  have i:c.heap.objs.size<=b:=by
   ext<;>lia
  exact f.fpOk i (f.hok.fresh i)
 rcases q with⟨r,q⟩|⟨r,q⟩
 .obtain⟨F,C,G,n⟩:=f.list r
  exact call_enumerate_list G.isList λk m d e g=>wpAny_pyIter_enum m (⟨_,[c.heap.objs.size+1,c.heap.objs.size],_,_,v,rfl,f.kept g,M_ a _ _ (Nat.succ_ne_self _),⟨⟨_,m⟩,d⟩,j k e g,q n⟩)
 .obtain⟨F,C,G,n⟩:=f.tuple r
  exact M9 (G) λk m d e g=>wpAny_pyIter_enum m (⟨_,[c.heap.objs.size+1,c.heap.objs.size],_,_,v,rfl,f.kept g,Na a _ _ (Nat.succ_ne_self _),⟨⟨_,m⟩,d⟩,j k e g,q n⟩)
def fP(l:AR):AR:=(List.range l.length).map λi:Nat=>.tup [.int i,l.getD i .non]
def oW(c:D):Option AR:=(Yc c).map fP
theorem ya{i:Nat}(h:(fP l)[i]?=some d):∃e,l[i]?=some e/\d=.tup [.int i,e]:=by
 unfold fP at h;symm
def jT(l:AR):(fP l).length=l.length:=by simp[fP]
def Gr.newTup(s:Same G H)(a:H p=none)(i:Nat)(r:Rp K G d x):∃b,Gr H G (upd H p (.tup [.int i,x])) b/\Rp K b (.tup [.int i,d]) (.ref p):=⟨_,.new s a _,⟨p,_,rfl,Yi,.cons (by rw[Rp]) (.one (r.mono (Gr.new s a _).g))⟩⟩
end
def fQ(k:Int):Value->Bool
 | .int i _=>i==k
 | .bool b=>(if b then 1 else 0)==k
 | _=>false
theorem jU(h:fQ k v=true):(∃t,v=.int k t)\/∃b:Bool,v=.bool b/\k=if b then 1 else 0:=by
 cases v with
 | int i t=>
   have e:=by simpa [fQ]using h
   symm
 | bool b=>
   have e:=by simpa [fQ]using h
   ext
 | _=>simp[fQ]at h
theorem Nb(h:Q (hashInt (if b then 1 else 0)) {s with toks:=s.toks+1}):
 wpAny (mZ prog w) A (pyHash (.bool b)) Q E s:=by
 have a:s.TypeIs (.bool b) "bool":=rfl;refine wa ?_;refine wc ?_;refine wa (wpAny_specialOf a F.slot_bool_hash.lookup ?_);refine wa (wpAny_specialOf a F.slot_bool_hash.lookup ?_)
 refine wa (wpAny_callSpecialIfBoundUnlessNone?_slot a F.slot_bool_hash
  (we F.slot_bool_hash a entry_int_hash
   (wpAny_ret_mkInt ?_) (args_int_hash _)))
 show wpAny _ _ (if _ then _ else _) Q E _;rw[if_pos (by split<;>ext)];exact wc h
def yb(prog:P7)(w:World):KeyKind prog w Int where
 is:=fQ
 hash:=hashInt
 inj:=λv a b j m=>by
  rcases jU j with⟨t,rfl⟩|⟨c,rfl,rfl⟩
  .have e:a=b:=by simpa [fQ]using m
   exact e
  .have e:=by simpa [fQ]using m
   exact e
 byValue:=λk v h=>by
  rcases jU h with⟨t,rfl⟩|⟨c,rfl,rfl⟩<;>rfl
 pyHash:=λg h=>by
  rcases jU g with⟨t,rfl⟩|⟨c,rfl,rfl⟩
  .exact wpAny_pyHash_int h
  .exact Nb h
 eqBool:=λ{A E s a b u v Q} i g h=>by
  rcases jU i with⟨t,rfl⟩|⟨c,rfl,rfl⟩
  .rcases jU g with⟨l,rfl⟩|⟨f,rfl,rfl⟩
   .exact wpAny_eqBool_int ⋯
   .exact SeqAt.EqAt.int_bool a t f _ _ _ _ ⋯
  .rcases jU g with⟨l,rfl⟩|⟨f,rfl,rfl⟩
   .exact SeqAt.EqAt.bool_int c b l _ _ _ _ ⋯
   .refine SeqAt.EqAt.bool_bool c f _ _ _ _ ?_
    have e:(c==f)=decide ((if c=true then (1:Int)else 0)=if f=true then 1 else 0):=by split<;>ext
    ext
 «strs»:=λk x t v h=>by simp[fQ]at h
section
open Sem (wp)
end
section
variable {e:Expr}{f fb:AW}
def yc:V->AQ->Hp->VK->Prop:=λx d H Q=>∃l b c a,x=.ref l/\d=[.ref b]/\H l=some (.lst c)/\Rd H b (.lst a)/\c.length+a.length<=sizeLine/\Q .non (upd H l (.lst (c++a)))
theorem yd:FY X "list.extend" yc:=by
 intro D s L H x J v K Q I p w h;obtain⟨l,b,G,B,rfl,rfl,j,m,C,q⟩:=h;cases p;obtain⟨u,rfl,o⟩:=w.one;cases o;obtain⟨z,d,n,r,A,e⟩:=I.lstM j;obtain⟨y,a,k,i,E⟩:=m.ok I.hok;have t:=i.length
 have g:d.toArray.size+a.toArray.size<=sizeLine:=by ext
 have c:¬(!d.toArray.isEmpty&&Builtin.List.listTooLong (d.toArray.size+a.toArray.size))=true:=by
  rw[L_ g];symm
 refine call_meets F.slot_list_extend ⟨_,e,rfl⟩ F.entry_list_extend (F.args_list_extend_2 _ _)
  (AutoSeq1.list_extend_list_list_0 l _ n b _ k c (by ext) ∅) ⟨e,E,⟨.non,_,I.lset j e nofun (r.append i) ?_,rfl,q⟩⟩
 symm
def gh(l:AR)(d:D):Option AR:=match d with
 | .lst m=>if l.length+m.length<=bC then some (l++m)else none
 | _=>none
end
def SE(w:World):List DictEntry->List (Str×Str)->Prop:=Paired λe p=>e.hash=PyData.keyHash w.params p.1/\(∃t,e.key=.str p.1 t)/\(∃t,e.val=.str p.2 t)/\PyData.strOk p.2=true
def GD(K:W7)(w:World)(c:AE)(x:Str)(a:List (Str×Str)):Prop:=∃p o b d,c x=some (.ref p)/\K.lookup p=some o/\o.ExactDict/\o.data=.dict b d/\SE w b.toList a
def GI(a:AE)(x:Str)(i:Int):Prop:=∃t,a x=some (.int i t)
theorem GY:∀{l:List DictEntry}{c:List (Str×Str)},SE w l c->c.lookup k=some v->∃e t,l.find? (λe=>(PySem.strKind P w).is k e.key)=some e/\e.val=.str v t
 | _,_,.nil,h=>by simp at h
 | _,_,.cons (a:=e) (b:=p) r t,h=>by
   obtain⟨_,⟨j,d⟩,⟨i,f⟩,_⟩:=r;obtain⟨a,b⟩:=p;by_cases q:a=k
   .subst q
    simp at h;subst h;exact⟨e,i,by simp[d,PySem.strKind,Value.isStrOf],f⟩
   .have g:(k==a)=false:=by symm
    obtain⟨o,s,m,n⟩:=GY (P:=P) t (by simpa [List.lookup_cons,g]using h)
    have:(PySem.strKind P w).is k e.key=false:=by
     rw[d];show(a==k)=_;simpa using q
    symm
theorem GZ:∀{l:List DictEntry}{a:List (Str×Str)},SE w l a->∀e∈l,∃k,(PySem.strKind P w).is k e.key=true/\e.hash=(PySem.strKind P w).hash k
 | _,_,.nil,e,h=>by cases h
 | _,_,.cons (b:=p) r t,e,h=>by
   rcases qu h with rfl|h
   .obtain⟨d,⟨c,b⟩,_⟩:=r
    exact⟨p.1,by rw[b];simp[PySem.strKind,Value.isStrOf],d⟩
   .exact GZ t e h
theorem lu:∀{l:List DictEntry}{c:List (Str×Str)},SE w l c->c.lookup k=some v->PyData.strOk v=true
 | _,_,.nil,h=>by simp at h
 | _,_,.cons (b:=p) r t,h=>by
   obtain⟨a,b⟩:=p;by_cases q:k=a
   .simp_all
   .have d:(k==a)=false:=by simpa using q
    exact lu t (by simpa [List.lookup_cons,d]using h)
section
variable {x:Str}
def oY(a:List (Str×Str)):D->Option D
 | .str k=>(a.lookup k).map .str
 | _=>none
end
def tK(x:Str):TE:=λ_ H Q=>Q (.str x) H
structure MP(X:Cx)(pos:Pos)(keys:List (Option Expr))(values:AL)(ks:AK)(fs:List AW):Prop where
 len:ks.length=fs.length
 pps:LS X pos keys values ((ks.zip fs).map λp=>(tK p.1,tOf X.K p.2))
 all:keys.all (·.isSome)=true
 kv:keys.length=values.length
 kk:keys.length=ks.length
structure WD(H:Hp)(a:Addr)(nks:List (List Int×Addr))(vxs:AQ):Prop where
 aC:∃ep,H a=some (Gj a nks vxs ep)
 len:nks.length=vxs.length
 nd:(nks.map (·.1)).Nodup
 keys:∀p∈nks,∃ys,H p.2=some (.tup ys)/\iq ys=some p.1
section
variable {a b c e:Expr}{fb fc:AW}
def o4(fa fb fc:AW)(g b:D->D->Option Bool):AV:=λa=>
 (fa a).bind λx=>(fb a).bind λy=>(g x y).bind λk=>if k=true then (fc a).bind λz=>b y z else some false
theorem Nc(h:o4 fa fb fc g g' ρ=some k):
 ∃x y,fa ρ=some x/\fb ρ=some y/\((g x y=some false/\k=false)\/(g x y=some true/\∃z,fc ρ=some z/\g' y z=some k)):=by
 obtain⟨x,e,h⟩:=qa h;obtain⟨y,d,h⟩:=qa h;obtain⟨q,c,h⟩:=qa h
 cases q with
 | false=>
   ext
 | true=>
   obtain⟨z,b,h⟩:=qa h
   ext
def nS:AT:=λ_=>none
def Nd:MS X st nS:=λ_ _ _ _ _ _ ⟨_,_,_,_,_,h,_⟩=>nomatch h
end
section
variable {e:Expr}{f:AW}{fc:AV}
def o5:D->Bool
 | .non|.bl _|.int _|.str _=>true
 | _=>false
def scal(d:D):Option D:=if o5 d=true then some d else none
def Rp.scal(h:o5 d=true)(r:Rp K G d v):Rp K a d v:=by
 cases d<;>first|(exact r)|cases h
def Gr.back(s:Same G H)(g:Gr H a H' c):Gr H G H' G:=⟨g.h,.refl _,s.trans g.h,λ_ h b=>absurd h b⟩
def o6(is:AF)(f:AV):AV:=λρ=>f (frz is ρ)
mutual
def cN:D->Bool
 | .non=>true
 | .bl _=>true
 | .int _=>true
 | .str _=>true
 | .tup l=>bf l
 | .lst _=>false
 | .scr _=>false
 | .dct _ _ _=>false
 | .obj _ _ _=>false
 | .adr _=>false
def bf:AR->Bool
 | []=>true
 | d::l=>cN d&&bf l
end
mutual
theorem Rp.plain{G G':Hp}(c:∀b ys,G b=some (HO.tup ys)->G' b=some (HO.tup ys)):∀{d:D}{v:V},cN d=true->Rp K G d v->Rp K G' d v
 | .non,_,_,r=>r
 | .bl _,_,_,r=>r
 | .int _,_,_,r=>r
 | .str _,_,_,r=>r
 | .tup l,_,h,r=>by
   obtain⟨a,xs,e,g,q⟩:=r;exact⟨a,xs,e,c _ _ g,RpL.plain c h q⟩
 | .lst _,_,h,_=>by cases h
 | .scr _,_,h,_=>by cases h
 | .dct _ _ _,_,h,_=>by cases h
 | .obj _ _ _,_,h,_=>by cases h
 | .adr _,_,h,_=>by cases h
theorem RpL.plain{G G':Hp}(c:∀b ys,G b=some (HO.tup ys)->G' b=some (HO.tup ys)):∀{l:AR}{xs:AQ},bf l=true->RpL K G l xs->RpL K G' l xs
 | [],_,_,r=>r
 | d::l,_,h,r=>by
   rw[bf,Qe]at h;obtain⟨x,xs,e,g,q⟩:=r;exact⟨x,xs,e,Rp.plain c h.1 g,RpL.plain c h.2 q⟩
end
end
section
variable {e:Expr}{f:AW}{p:Pos}
def ye{c:Sort _}{a b:c}(h:a=b):a=b:=h
end
section
variable {a b e:Expr}{fb f:AW}
def Nf{M:Model}{A:Around}{E:AA}{s:Shared}{Q:AA}{v:Value}{k:Bool}(a:∀id,v≠.builtin id)(h:Q (.bool (!(v==.bool k))) s):wpAny M A (compareOp .IsNot v (.bool k)) Q E s:=by
 cases v<;>first|exact wc h|exact absurd rfl (a _)
def cm(k:Bool):D->Bool
 | .bl j=>j==k
 | _=>false
def iH(c:Bool):D->D->Option Bool
 | d,.bl k=>some (cm k d != c)
 | _,_=>none
def Ng{x:V}{v:Value}(r:RelV x v)(k:Bool):(v==.bool k)=decide (x=.bl k):=by
 cases x with
 | bl j=>
   cases (r);by_cases h:j=k
   .subst h;simp
   .simp[h]
 | non=>cases (r);rfl
 | int i=>obtain⟨t,rfl⟩:=r;rfl
 | str i=>obtain⟨t,rfl⟩:=r;rfl
 | ref i=>cases (r);rfl
 | _=>first|(obtain⟨t,rfl⟩:=r;rfl)|(rfl)
def yf{x:V}{v:Value}(r:RelV x v):∀id,v≠.builtin id:=λid z=>by
 subst z
 cases x<;>first|(obtain⟨t,h⟩:=r;cases h)|(cases r)
def yg:bV X (compareOp .IsNot) (λx y H Q=>∃k,y=.bl k/\Q (.bl (decide (x=.bl k)!=true)) H):=by
 intro a s b H x y v u Q I c d h;obtain⟨k,rfl,q⟩:=h;cases d;refine Nf (yf c) ⟨_,H,I,?_,q⟩;rw[Ng c];simp;rfl
def yh{G H:Hp}{d:D}{v:V}(r:Ct K G H d v)(k:Bool):decide (v=.bl k)=cm k d:=by
 cases d with
 | bl j=>
   subst r;by_cases h:j=k
   .subst h;simp[cm]
   .simp[cm,h]
 | non=>subst r;simp[cm]
 | int i=>subst r;simp[cm]
 | str i=>obtain⟨rfl,_⟩:=r;simp[cm]
 | tup l=>obtain⟨a,b,rfl,_⟩:=r;simp[cm]
 | lst l=>obtain⟨a,b,rfl,_⟩:=r;simp[cm]
 | scr l=>obtain⟨a,rfl,_⟩:=r;simp[cm]
 | dct t l m=>obtain⟨a,b,e,rfl,_⟩:=r;simp[cm]
 | obj t l m=>obtain⟨a,C,c,b,rfl,_⟩:=r;simp[cm]
 | adr a=>subst r;simp[cm]
def yi{d:Bool}:eR K (λx y H Q=>∃k,y=.bl k/\Q (.bl (decide (x=.bl k)!=d)) H) (iH d):=by
 intro x y j l c H G Q h s i g q;unfold iH at h
 split at h
 .rename_i k
  cases h;subst g;exact⟨k,rfl,by rwa [yh i k]⟩
 .cases h
def Nh{c:Sort _}{a b:c}(h:a=b):a=b:=h
@[simp] theorem o7(k j:Bool):cm k (.bl j)=(j==k):=Nh rfl
end
def G6:AR->Option (List (Int×D))
 | []=>some []
 | .tup [.int i,v]::l=>(G6 l).map ((i,v)::·)
 | _=>none
def pairsOf:D->Option (List (Int×D))
 | .lst l=>G6 l
 | _=>none
def iI:AC->AK->Prop:=Paired λv k=>(∃t,v=.str k t)/\PyData.strOk k=true
def GT(K:W7)(b:AE)(x:Str)(ks:AK):Prop:=∃p o a n,b x=some (.ref p)/\K.lookup p=some o/\o.cls=.type "tuple"/\o.data=.seq a n/\iI a.toList ks
theorem G7{h:Heap}:∀{vs:AC}{ks:AK},iI vs ks->∃a,ReadsAll h vs (ks.map PyData.str) a/\PyData.canLayAll0 (ks.map PyData.str)=true
 | _,_,.nil=>⟨_,.nil,by simp[PyData.canLayAll0]⟩
 | _,_,.cons r t=>by
   obtain⟨⟨e,rfl⟩,b⟩:=r;obtain⟨a,d,c⟩:=G7 t;exact⟨_,.cons (.str _ e) d,by simp[PyData.canLayAll0,PyData.canLay0,c,b]⟩
def yj(a:Bool)(ks:AK):D->Option Bool
 | .str k=>some (decide (k∈ks)!=a)
 | _=>none
def yk(p:Addr)(ks:AK)(a:Bool):R2:=λx y H Q=>∃k,x=.str k/\PyData.strOk k=true/\y=.ref p/\Q (.bl (decide (k∈ks)!=a)) H
theorem G8(k:Str):∀ks:AK,((ks.map PyData.str).any λy=>PyData.eqv y (.str k))=decide (k∈ks)
 | []=>rfl
 | a::ks=>by
   rw[Qd,List.any_cons,G8 k ks];have e:PyData.eqv (.str a) (.str k)=decide _:=decide_eq_decide.mpr ⟨λh=>h.symm,λh=>h.symm⟩;rw[e];by_cases h:k=a<;>simp[h]
section
variable {w:World}{A:Around}{E:AA}
theorem Ni{lo f:Option Int}(c:IsTup s.heap t a)(hs:s.heap.IsSliceOf k i l .none)(j:IsPart i lo)(n:IsPart l f)(h0:HT.sIx a.size 0 lo=0)(o:HT.sIx a.size a.size f=a.size)(h:Q (.ref t) s):wpAny (mZ prog w) A (getItem (.ref t) (.ref k)) Q E s:=by
 obtain⟨os,e,d,m⟩:=id hs;unfold getItem
 try with_reducible refine wd ?_
 refine wa (wpAny_sequenceKey c.typeIs (by decide) (wa (wpAny_callSpecial?_slot c.typeIs PyProof.Rows.slot_tuple_getitem (we PyProof.Rows.slot_tuple_getitem c.typeIs entry_tuple_getitem ?_ (args_tuple_getitem _ _)))));show wpAny _ _ (Builtin.Tuple.tupleItemsOf _>>=_) _ _ s;refine wa (tupleItemsOf_ c (wa (wpAny_typeOf (⟨os,e,d⟩) (wa (HT.sliceApplied_gen hs j n ?_)))));show wpAny _ _ (if _ then _ else _) _ _ s;rw[if_pos (by ext)];exact wa (wa (wpAny_typeOf c.typeIs (wc (wa (wpAny_rule (wc ⟨_,rfl,wc h⟩))))))
end
section
def ym(K:W7):V->Option Int->Option Int->Hp->VK->Prop:=λx lo e H Q=>∃a b,x=.ref a/\SqT K H a b/\HT.sIx b.length 0 lo=0/\HT.sIx b.length b.length e=b.length/\Q (.ref a) H
theorem Nj:SlR X (ym X.K):=by
 intro c s u H x v o z lo w y Q I k g i f h;obtain⟨a,p,rfl,l,n,t,q⟩:=h;cases k;obtain⟨j,r,d,m⟩:=I.tuple l;have e:=r.length.symm;exact⟨"tuple",_,PyProof.Rows.slot_tuple_getitem.lookup,d.typeIs,Ni d g i f ⋯ ⋯ (⟨.ref a,H,I,rfl,q⟩)⟩
def gi(i j:Option Int):D->Option D
 | .lst l=>some (.lst (bB l i j))
 | .tup l=>some (.tup (bB l i j))
 | _=>none
def ly(c:AW)(lo b:Option AW):AW:=λa=>(c a).bind λd=>(cS lo a).bind λi=>(cS b a).bind λj=>gi i j d
variable {a e:Expr}{f:AW}
@[simp] theorem yn(lo a:Option AW):ly fa lo a ρ=(fa ρ).bind λd=>(cS lo ρ).bind λi=>(cS a ρ).bind λj=>gi i j d:=ye rfl
@[simp] theorem lz(i j:Option Int)(l:AR):gi i j (.tup l)=some (.tup (bB l i j)):=ye rfl
end
section
variable {w:World}{A:Around}{E:AA}
def o8:isSubtype (.type "set") (.type "set")=pure true:=by kernel_rfl
theorem yo:∀{a:AC},a.length=b.length->(∀(j:Nat) v,a[j]?=some v->ip b j v)->IntsAre a b:=by
 induction b with
 | nil=>
   intro a h _;rw[List.length_eq_zero_iff.mp h];exact .nil
 | cons k r e=>
   intro a h c
   match a,h with
   | v::a,h=>
     obtain⟨d,t,g,i⟩:=c 0 v rfl;simp at g;subst g i;refine .cons _ t (e (by simpa using h) λj v f=>?_);obtain⟨d,t,g,i⟩:=c (j+1) v ⋯;exact⟨d,t,by symm,i⟩
theorem Nk(T:A.handled=none)(G:SetI prog w s.heap a ns)(hQ:∀(h':Heap) (d':Drawn) (tk:Nat) (q:AC) (d:AG),~~~s<=h'.objs.size->(∀b o,s.heap.get? b=some o->h'.get? b=some o)->IntsAre q d->d.Perm ns->Q q {s with heap:=h',drawn:=d',toks:=tk}):
 wpAny (mZ prog w) A (collect (.ref a)) Q E s:=by
 obtain⟨o,es,ep,t,O,u,hd,_⟩:=id G;have hlt:a< ~~~s:=ql O;have B:=G.len;unfold collect;refine wa (wpAny_runValue (w5 F.entry_proto_collect ?_));rw[je F.plain_proto_collect _];refine wa (wf ?_);refine wc ⟨jd F.plain_list_iadd _,w5 F.entry_list_iadd ?_⟩;rw[je F.plain_list_iadd _];generalize L:s.heap.push {cls:=.type "list",data:=.seq ([]:AC).toArray}=H
 have Z:H.objs.size= ~~~s+1:=by rw[<-L,wy]
 have c:∀b o,s.heap.get? b=some o->H.get? b=some o:=λb o e=>by rw[<-L];exact qe _ e
 have hL:H.get? (~~~s)=some {cls:=.type "list",data:=.seq ([]:AC).toArray}:=by rw[<-L];exact qp _ rfl
 have x:=c a o O
 have V:Shared.TypeIs {s with heap:=H} (.ref a) "set":=⟨o,x,u.1⟩
 have M:(~~~s)≠a:=λz=>by symm
 have h1:Builtin.List.listSameRef (.ref (~~~s)) (.ref a)=false:=by simp[Builtin.List.listSameRef,M]
 show wpAny _ A.in1 (Builtin.List.listExtendWith (.ref (~~~s)) (.ref a) (.ref (~~~s))) _ _ _;unfold Builtin.List.listExtendWith;refine wa (wpAny_typeOf V ?_)
 have h2:(Value.type "set"==Value.type "list")=false:=by decide
 have U:(Value.type "set"==Value.type "tuple")=false:=by decide
 simp only[h1,h2,U,Bool.or_false,Qo,if_false];refine wa (Mu (s:={s with heap:=H}) (G.at λo e=>c a o e) λh' d' I Y d St i hI R hfp ua S N hty=>?_);have K:=i a o x
 have m:Shared.TypeIs {s with heap:=h',drawn:=d' } (.ref a) "set":=⟨o,K,u.1⟩
 refine wa (wd ?_);unfold Builtin.List.listLengthHint;refine wa (wpAny_specialOf m F.slot_set_len.lookup ?_);refine wa (wpAny_isInstance (b:=true) m o8 ?_);show wpAny _ A.in1 (typeOf (Value.ref a)>>=_) _ _ _;refine wa (wpAny_typeOf m ?_);refine wc ?_;rw[if_pos (by decide)];refine wa (wpAny_rule ?_)
 have C:(~~~s)∉Y:=λp=>by
  symm
 have f:=i _ _ hL;refine wa ?_;refine wa (wpAny_updateSeq f rfl ?_);have g:=wz (Obj.mapSeq (·.push Value.none)) f rfl;refine wpAny_updateSeq g rfl ?_;have l:=wz (Obj.mapSeq (·.pop)) g rfl
 have y:∀b o,b≠(~~~s)->h'.get? b=some o->
  ((h'.update (~~~s) (Obj.mapSeq (·.push Value.none))).update (~~~s) (Obj.mapSeq (·.pop))).get? b=some o:=
  λb o hb e=>(Heap.get?_update_other _ _ (Ne.symm hb)).trans ((Heap.get?_update_other _ _ (Ne.symm hb)).trans e)
 have W:=(S A.in1 T).toS
 refine wc ⟨jd F.plain_extend_loop _,codeAny_extend_loopS W (fits_of_scanBound B) _ C _ ns.length 0 _ _ _ rfl (Qh _)
  (W.frame 0 ({s with heap:=h',drawn:=d' }:Shared) _ s.toks N (qv _) λb hb o e=>y b o (λh=>C (h ▸ hb)) e) l (ItemsOf.nil _) λs' n c' p r k=>?_⟩
 show wpAny _ A (load (~~~s)>>=_) _ _ s';refine wa (wpAny_load r ?_);have eg:s'.gens=s.gens:=p.gens;have ed:s'.drawn=d':=p.drawn;have eo:s'.os=s.os:=p.os
 have J:s'={s with heap:=s'.heap,drawn:=d',toks:=s'.toks}:=by
  obtain⟨a1,a2,a3,a4,a5⟩:=s';symm
 rw[J];refine wc (hQ s'.heap d' s'.toks n.toList d (Nat.le_of_lt (ql r)) (λb D e=>?_) (yo (by rw[qj,k.1,ua.length_eq]) λj v hj=>k.2 j v ⋯) ua);have hb:b< ~~~s:=ql e;refine p.heap b D (λX=>?_) (y b D (qm hb) (i b D (c b D e)));symm
theorem Nl(r:A.handled=none)(y:SetI prog w s.heap a ns)(i:ns.length<64)(v:∀(B:Heap) (D:Drawn) (tk e:Nat) (p:Addr) (k:Array Value) (c:AG),(∀b o,s.heap.get? b=some o->B.get? b=some o)->(~~~s)<=p->B.get? p=some (seqObj "list" k e)->IntsAre k.toList c->c.Perm ns->c.Pairwise (·<=·)->
  Q (.ref p) {s with heap:=B,drawn:=D,toks:=tk}):wpAny (mZ prog w) A (call (.builtin "sorted") [.ref a]) Q E s:=by
 refine Calls.call_function_entry kind_sorted plain_sorted entry_sorted (args_sorted1 _) (wa (wc (wa (Nk r y λB D tk f q j d m n=>?_))))
 have h:f.length<64:=by rwa [IntsAre.length m,n.length_eq]
 refine wa (wpAny_newList ?_ (by rw[ji];lia));have g:(B.push (seqObj "list" f.toArray 0)).get? _=_:=qp _ rfl;refine wa (wd (we slot_list_sort ⟨_,g,rfl⟩ entry_list_sort (list_sort_tree g m h λk c z u t=>⟨_,rfl,?_⟩) (args_list_sort _)));obtain⟨e,x⟩:=sortedHeap_at g;refine wc ⟨_,rfl,v _ D tk e _ k c (λb o l=>?_) j x z (u.trans n) t⟩;have F:=ql (d b o l);rw[sortedHeap_old (qm F) (by rw[size_push'];ext<;>lia)];exact qe _ (d b o l)
end
def c7(P:P7)(w:World)(p:Addr)(a:AG):HO:=.ext λh=>SetI P w h p a
theorem yp(x:SetI P w h p a):ObjOk P w H h p (c7 P w p a):=by
 refine⟨x,?_,λd c e k=>e.at k⟩;obtain⟨o,_,_,_,b,_⟩:=x;symm
section
variable {σ:L2.St}{H:Hp}{e:Expr}{f:AW}{p p2:Pos}
def _root_.L2.Inv.dr(I:Inv X pins σ H s)(d':Drawn):Inv X pins σ H {s with drawn:=d' }:=⟨I.ok,I.os,I.bare,I.base,I.loc,I.cell,I.free,I.freeC,I.pin,I.hok,I.len⟩
def G9(r:Vals (ns.map V.int) us):IntsAre us ns:=oe r
def yq(K:W7)(P:P7)(w:World):AQ->Hp->VK->Prop:=λe H Q=>∃a b,e=[.ref a]/\(SqL K H a (b.map .int)\/SqT K H a (b.map .int))/\b.length<4000/\∀p c,H p=none->c.Perm (ba [] b)->Q (.ref p) (upd H p (c7 P w p c))
theorem yr(v:X.calm=true):dn X (.type "set") (yq X.K X.prog X.w):=by
 intro y s C H B E Q I r h;obtain⟨a,D,rfl,c,x,q⟩:=h;obtain⟨u,rfl,w⟩:=eB r;cases w;have m:=I.ok.hd v;have n:scanBound=4096:=rfl;rcases c with c|c
 .obtain⟨f,d,p,t⟩:=I.list c
  have g:=d.length
  exact Mo m p.isList (by simpa using G9 d) (by ext<;>lia) λz A j i l k=>⟨.ref _,_,I.laid (λb o e=>k b o (ql e) e) (qv _) (yp i),rfl,q _ j (I.hok.fresh (qv _)) l⟩
 .obtain⟨f,d,p,t⟩:=I.tuple c
  have g:=d.length
  exact Mp m p (by simpa using G9 d) (by ext<;>lia) λz A j i l k=>⟨.ref _,_,I.laid (λb o e=>k b o (ql e) e) (qv _) (yp i),rfl,q _ j (I.hok.fresh (qv _)) l⟩
def yt(P:P7)(w:World):AQ->Hp->VK->Prop:=λc H Q=>∃a b,c=[.ref a]/\H a=some (c7 P w a b)/\b.length<64/\∀p,H p=none->Q (.ref p) (upd H p (.lst ((dO b).map .int)))
theorem G_(j:X.calm=true):dn X (.builtin "sorted") (yt X.prog X.w):=by
 intro x s C H E B Q I r h;obtain⟨a,c,rfl,l,n,q⟩:=h;obtain⟨u,rfl,k⟩:=eB r;cases k;refine Nl (I.ok.hd j) ((I.hok a _ l).1) n λD z A e p g m b i v t d y=>?_;have o:=W.ksm_same (d.trans (y6 c).symm) y (gN c);subst o;have w:=(y6 c).length_eq;refine⟨.ref p,_,.laid (I.dr z) b i (show ObjOk _ X.w _ _ _ (.lst _) from⟨by rw[qf,ji];lia,g.toList,e,oh t,by ext⟩),rfl,q _ (I.hok.fresh i)⟩
def iJ(l:AR):Option AR:=match c5 l with
 | some a=>if a.length<4000/\(ba [] a).length<64 then some ((dO (ba [] a)).map .int)else none
 | none=>none
def Hc(h:a.Perm b):dO a=dO b:=W.ksm_same (((y6 a).trans h).trans (y6 b).symm) (gN a) (gN b)
def gO(f:AW):AX:=λa=>(b1 f Yc a).bind iJ
def lA{c:Sort _}{a b:c}(h:a=b):a=b:=h
@[simp] theorem gP{ρ:Ro}:gO f ρ=((f ρ).bind Yc).bind iJ:=lA rfl
end
def c8(m:Nat):Nat->Nat->Nat
 | 0,i=>i
 | k+1,i=>c8 m k ((i*5+1)%m)
theorem o9(m:Nat):∀(a b i:Nat),c8 m (a+b) i=c8 m b (c8 m a i)
 | 0,b,i=>by rw[Nat.zero_add];rfl
 | a+1,b,i=>by rw[Nat.succ_add];exact o9 m a b _
def iK(m:Nat):Nat->Nat->AF
 | 0,_=>[]
 | k+1,i=>i::iK m k ((i*5+1)%m)
theorem Hd:∀{k i:Nat},j∈iK m k i->∃a,a<k/\c8 m a i=j
 | 0,_,h=>nomatch h
 | k+1,i,h=>by
   rcases qu h with rfl|h
   .exact⟨0,by lia,rfl⟩
   .obtain⟨a,b,e⟩:=Hd h
    exact⟨a+1,by ext,e⟩
def lB(m:Nat):Bool:=(List.range m).all (λj=>(iK m m 0).contains j)&&c8 m m 0==0
def sizes:AF:=[8,16,32,64,128]
def yu:sizes.all lB=true:=by decide +kernel
theorem yv(o:m∈sizes)(l:i<m)(n:j<m):∃k,k<m/\c8 m k i=j:=by
 have h:=List.all_eq_true.mp yu m o;unfold lB at h;rw[Qe]at h;obtain⟨g,q⟩:=h
 have e:c8 m m 0=0:=by symm
 have c:∀x,x<m->∃a,a<m/\c8 m a 0=x:=λx f=>by
  have:=List.all_eq_true.mp g x (List.mem_range.mpr f);exact Hd ⋯
 obtain⟨a,p,rfl⟩:=c i l;obtain⟨b,r,rfl⟩:=c j n;by_cases d:a<=b
 .refine⟨b-a,by symm,?_⟩
  rw[<-o9,Nat.add_sub_cancel' d]
 .refine⟨m-a+b,by lia,?_⟩
  rw[<-o9,show a+(m-a+b)=m+b by lia,o9,e]
section
variable {mask:Nat}{owner:Array AN}
theorem yw(a i p:Nat):(∃j,SetTable.layClean.free mask owner (a+1) i p=some j/\owner.getD j (some 0)=none)\/
 (owner.getD i (some 0)≠none/\SetTable.layClean.free mask owner (a+1) i p=SetTable.layClean.free mask owner a ((i*5+1+p/32)%(mask+1)) (p/32)):=by
 rw[SetTable.layClean.free]
 cases e:(List.range _).find? _ with
 | some k=>
   ext
 | none=>
   right;refine⟨λz=>?_,rfl⟩;have:=List.find?_eq_none.mp e 0 (List.mem_range.mpr (by unfold SetTable.runEnd;split<;>lia))
   ext
theorem Hg:∀(k a i:Nat),k<a->owner.getD (c8 (mask+1) k i) (some 0)=none->∃j,SetTable.layClean.free mask owner a i 0=some j/\owner.getD j (some 0)=none
 | k,0,_,h,_=>absurd h (Nat.not_lt_zero _)
 | k,a+1,i,h,c=>by
   rcases yw a i 0 with b|⟨b,d⟩
   .exact b
   .cases k with
    | zero=>exact absurd c b
    | succ k=>
      rw[d];exact Hg k a _ (by ext) c
theorem Nm(h:mask+1∈sizes)(n:i<mask+1)(o:p<1024)(g:∃j,j<mask+1/\owner.getD j (some 0)=none):∃j,SetTable.layClean.free mask owner (SetTable.turns mask) i p=some j/\owner.getD j (some 0)=none:=by
 obtain⟨j,f,l⟩:=g;have e:SetTable.turns mask=_+1+1:=rfl;rw[e];rcases yw (mask+13+1) i p with a|⟨_,d⟩
 .exact a
 .rw[d]
  generalize (i*5+1+p/32)%(mask+1)=b;rcases yw _ b _ with a|⟨_,c⟩
  .exact a
  .rw[c,show p/32/32=0 by ext<;>lia]
   obtain⟨k,m,q⟩:=yv h (i:=(b*5+1+0)%(mask+1)) (Nat.mod_lt _ ∅) f;exact Hg k _ _ ∅ (by ext)
end
theorem o_{a c:Type}{f g:a->Option c}:∀{l:List a},(∀x∈l,f x=g x)->l.filterMap f=l.filterMap g
 | [],_=>rfl
 | x::l,h=>by
   have d:=o_ λy b=>h y (qg _ b);symm
theorem Hh{f g:Nat->AN}(n:f j=none)(m:g j=some k):∀{l:AF},l.Nodup->j∈l->(∀x∈l,x≠j->g x=f x)->(l.filterMap g).Perm (k::l.filterMap f)
 | [],_,h,_=>nomatch h
 | x::l,b,h,d=>by
   obtain⟨i,b⟩:=List.nodup_cons.mp b;by_cases e:x=j
   .subst e
    have:=o_ λy a=>d y (qg _ a) λz=>i (z ▸ a)
    ext
   .have c:j∈l:=by
     symm
    have o:=Hh n m b c λy a=>d y (qg _ a);symm
theorem Hi(y:mask+1∈sizes):∀(hs:AG) (owner:Array AN) (k:Nat),owner.size=mask+1->((List.range (mask+1)).filterMap λj=>owner.getD j none).Perm (List.range k)->k+hs.length<=mask->(∀h∈hs,0<=h/\h<1024)->
 ∃c,(hs.foldl (init:=some (owner,k)) λm h=>do
  let (owner,k) <-m
  let j <-SetTable.layClean.free mask owner (SetTable.turns mask) (SetTable.bits h%(mask+1)) (SetTable.bits h)
  pure (owner.setIfInBounds j (some k),k+1))=some (c,k+hs.length)/\c.size=mask+1/\((List.range (mask+1)).filterMap λj=>c.getD j none).Perm (List.range (k+hs.length))
 | [],owner,k,u,s,_,_=>⟨owner,rfl,u,s⟩
 | h::hs,owner,k,u,s,G,w=>by
   have H:SetTable.bits h<1024:=by
    obtain⟨a,b⟩:=w h qh;unfold SetTable.bits
    ext<;>lia
   have f:∃j,j<mask+1/\owner.getD j (some 0)=none:=Classical.byContradiction λr=>by
    have A:=s.length_eq;rw[List.length_range]at A
    have n:∀j∈List.range (mask+1),(owner.getD j none).isSome=true:=λj v=>by
     have t:=Qb v;have:owner.getD j (some 0)≠none:=λz=>r ⟨j,t,z⟩
     have p:j<owner.size:=by ext
     simp only[Array.getD,p,dif_pos]at this ⊢;exact Option.isSome_iff_ne_none.mpr this
    have:((List.range (mask+1)).filterMap λj=>owner.getD j none).length=(List.range (mask+1)).length:=by
     generalize List.range (mask+1)=l at n
     ext
    ext<;>lia
   obtain⟨j,v,E⟩:=Nm y (owner:=owner) (i:=SetTable.bits h%(mask+1)) (p:=SetTable.bits h) (Nat.mod_lt _ ∅) H f
   have B:j<owner.size:=Classical.byContradiction λz=>by
    ext
   have e:owner.getD j none=none:=by
    ext
   have F:=Hh (f:=λx=>owner.getD x none) (g:=λx=>(owner.setIfInBounds j (some k)).getD x none) (j:=j) (k:=k) e (by ext) (l:=List.range (mask+1)) List.nodup_range (List.mem_range.mpr (by ext)) λx q i=>by
    have C:=Qb q
    have o:x<owner.size:=by ext
    simp[Array.getD,o,Array.getElem_setIfInBounds,Ne.symm i]
   have g:((List.range (mask+1)).filterMap λx=>(owner.setIfInBounds j (some k)).getD x none).Perm (List.range (k+1)):=by
    symm
   obtain⟨c,J,I,D⟩:=Hi y hs (owner.setIfInBounds j (some k)) (k+1) ⋯ g ⋯ λx q=>w x (qg _ q);refine⟨c,?_,I,?_⟩
   .simp_all<;>lia
   ext<;>lia
theorem Hj{led plain:Bool}(d:mask+1∈sizes)(hs:Array Int)(g:hs.size<=mask)(b:∀h∈hs.toList,0<=h/\h<1024):∃t o,SetTable.laid mask finger moves led plain hs=some (t,o)/\o.toList.Perm (List.range hs.size)/\t.place.size=hs.size/\t.dummies=#[]/\t.mask=mask/\t.plain=plain:=by
 have a:((List.range (mask+1)).filterMap λj=>(Array.replicate (mask+1) (none:AN)).getD j none)=[]:=by
  ext
 obtain⟨i,k,l,e⟩:=Hi d hs.toList (Array.replicate (mask+1) none) 0 nofun (by ext) (by ext) b
 have c:SetTable.layClean mask hs=some i:=by
  unfold SetTable.layClean
  ext
 have f:((List.range (mask+1)).filterMap λj=>(i.getD j none).map (j,·)).map (·.2)=(List.range (mask+1)).filterMap λj=>i.getD j none:=by
  rw[List.map_filterMap];refine o_ λj _=>?_;cases i.getD j none<;>rfl
 refine⟨_,_,by unfold SetTable.laid;rw[c];rfl,?_,?_,rfl,rfl,rfl⟩
 .simp_all
 .have:=e.length_eq
  symm
def pa(xs:Array a)(p:Nat):(SetTable.eraseAt xs p).toList=xs.toList.eraseIdx p:=by
 unfold SetTable.eraseAt;rw[List.eraseIdx_eq_take_drop_succ];simp[Array.toList_extract];exact List.take_of_length_le nofun
theorem Nn(h:bY xs)(p:Nat):bY (SetTable.eraseAt xs p):=by
 unfold bY at h ⊢;rw[pa];symm
def yx(h:p<xs.size):(SetTable.eraseAt xs p).size=xs.size-1:=by
 rw[<-qj,pa,List.length_eraseIdx_of_lt (by simpa using h)];simp
theorem Np(xs:Array a)(p:Nat)(x:a):(SetTable.insertAt xs p x).size=xs.size+1:=by
 rw[<-qj,Ys];simp;lia
section
variable {w:World}{A:Around}{E:AA}
theorem Nr(M:SetI prog w s.heap a ns)(h:∀h' q,Heap.SameBut a s.heap h'->SetI prog w h' a q->q.Perm (ns.erase k)->Q (decide (k∈ns)) {s with heap:=h' }):
 wpAny (mZ prog w) A (setDiscardHashed a (.int k u) (hashInt k)) Q E s:=by
 have B:=M;obtain⟨o,d,V,t,i,D,n,c,g,C,hb,x,O⟩:=M;have p:(intKind prog w).is k (.int k u)=true:=intKind_is _ _ _ _;have J:(Value.int k u).scannable=true:=rfl;refine wa ?_;refine wa (wg i n x ?_);dsimp only;rw[byScan_of J hb c];simp only[↓reduceIte];refine wa (wpAny_rule ?_);refine wa (wpAny_setScan_of (knd:=intKind prog w) (k:=k) p i n x c ?_)
 cases N:List.findIdx? (λe=>(intKind prog w).is k e.2) d.toList with
 | none=>
   dsimp only
   have y:k∉ns:=λy=>by
    rw[<-g]at y;obtain⟨e,l,F⟩:=qy y;have S:=List.findIdx?_eq_none_iff.mp N e l;obtain⟨t',L⟩:=jJ c l;rw[L,F]at S;have X:(intKind prog w).is k (.int k t')=true:=intKind_is _ _ _ _;symm
   refine wc (wc ?_);have:=h s.heap ns (Heap.SameBut.refl a s.heap) B ⋯
   ext
 | some j=>
   dsimp only;obtain⟨W,H,_⟩:=List.findIdx?_eq_some_iff_getElem.mp N
   have r:j<d.size:=by symm
   have T:cK d.toList[j]=k:=wU H
   have y:k∈ns:=by
    symm
   refine wc ?_;dsimp only;refine wa (wg i n x ?_);dsimp only;rw[Nat.zero_add]
   have m:(SetTable.eraseAt d j).size<scanBound:=by rw[yx r];lia
   refine wa (wpAny_storeSet_of i n ?_ (fits_of_scanBound m));have K:=gK i n (SetTable.eraseAt d j) (t.drop j);have R:=wx s.heap a (Obj.putSet (SetTable.eraseAt d j) (t.drop j));refine wa (wpAny_point (wc ?_));have f:=x;unfold SetTable.fits at f
   have I:j<t.place.size:=by lia
   have b:t.drop j={t with place:=SetTable.eraseAt t.place j,dummies:=SetTable.insertAt t.dummies (SetTable.below t.dummies t.place[j]) t.place[j]}:=by
    unfold SetTable.drop;symm
   have v:j<ns.length:=by symm
   have G:(ns.eraseIdx j).Perm (ns.erase k):=by
    have U:=wX v;symm
   have P:SetI prog w (s.heap.update a (Obj.putSet (SetTable.eraseAt d j) (t.drop j))) a (ns.eraseIdx j):=by
    refine⟨_,SetTable.eraseAt d j,_,t.drop j,K,D,rfl,λe l=>?_,?_,C.sublist (List.eraseIdx_sublist _ _),m,?_,?_⟩
    .rw[pa]at l
     exact c e (List.mem_of_mem_eraseIdx l)
    .rw[pa,<-g,List.eraseIdx_eq_take_drop_succ,List.eraseIdx_eq_take_drop_succ,Qk,List.map_take,List.map_drop]
    .rw[b]
     unfold SetTable.fits;unfold SetTable.fill at f ⊢;simp only[Qe,beq_iff_eq,wj,yx I,yx r,Np]at f ⊢;lia
    .rw[b]
     exact⟨O.1,λz=>Nn (O.2 z) j⟩
   symm
theorem Nt(g:s.heap.get? a=some o)(f:o.data=.set b j t)(e:t.fits b.size=true)(i:Tab (dt w) t)(h:∀(r:Array (Int×Value)) (m:Drawn),r.toList.Perm b.toList->Q r {s with drawn:=m}):wpAny (mZ prog w) A (setWalk a) Q E s:=by
 refine wa (wg g f e (wa (gL ?_)));by_cases l:dt w=true
 .rw[if_pos l]
  exact wa (wpAny_askSetting (wc (h _ _ (wY _ _))))
 .rw[if_neg l]
  have d:dt w=false:=by symm
  show wpAny _ _ (if (_&&_)=true then _ else _) _ _ _;by_cases c:(!t.plain&&decide (b.size > 1))=true
  .rw[if_pos c]
   refine wa (om _ _ _ _ nofun λn m k=>wc ?_);symm
  .rw[if_neg c]
   show wpAny _ _ ((if _ then _ else _)>>=_) _ _ _;rw[if_neg (by rw[i.1 d];simp)];exact wa (wc (wc (h b _ (.refl _))))
def Nu(h:∀a∈q,∃ns,SetI prog w s.heap a ns)(C:Q true s):wpAny (mZ prog w) A (setsQuiet q) Q E s:=by
 refine wa (wpAny_forIn_list _ (λc b L=>b.1=none/\L=s/\∀a∈c,∃ns,SetI _ w _ a ns) _ ?_ ?_ q _ ⟨rfl,rfl,h⟩)
 .rintro a c b L ⟨M,rfl,p⟩
  obtain⟨ns,o,r,I,t,v,D,z,i,_,_,_,y,_⟩:=p a qh;refine wa (wa (wg v z y (wc (wa (MeetsSeq2.wpAny_forIn_array _ (λc b l=>b.1=none/\l=L/\∀e∈c,e∈r.toList) _ ?_ ?_ r _ ⟨rfl,rfl,λe m=>m⟩)))))
  .rintro⟨K,x⟩ j b2 F ⟨f,rfl,g⟩
   obtain⟨N,k⟩:=jJ i (g _ qh);have n:=congrArg Prod.snd k;dsimp only at n;rw[n];exact wc ⟨rfl,rfl,λe m=>g e (qg _ m)⟩
  .rintro b2 F ⟨f,rfl,_⟩
   obtain⟨G,B⟩:=b2;subst f;exact wc ⟨rfl,rfl,λa u=>p a (qg _ u)⟩
 .rintro b L ⟨M,rfl,_⟩
  obtain⟨J,H⟩:=b;subst M;exact wc C
theorem Nv(v:SetI prog w s.heap o ns)(q:SetI prog w s.heap f H)(h:∀(r:Array (Int×Value)) (T:Heap) (S:Drawn),Heap.SameBut f s.heap T->SetI prog w T f H->ElemsOf (intKind prog w) r.toList->(r.toList.map cK).Perm ns->Q r {s with heap:=T,drawn:=S}):
 wpAny (mZ prog w) A (setWalkUnseen o [f] (some f)) Q E s:=by
 have K:=v;obtain⟨O,G,R,t,x,I,y,d,k,J,U,F,D⟩:=v;refine wa (wg x y F (wa (gL ?_)))
 split
 .exact(Nt x y F D λr S M=>h r _ S (.refl f _) q (d.perm M) ⋯)
 .refine wa (Nu (λa N=>?_) ?_)
  .grind
  .refine wa (wpAny_rule ?_)
   have p:=q;obtain⟨P,B,L,u,c,i,b,l,j,n,m,e,g⟩:=q;refine wa (wg c b e ?_);dsimp only
   split
   .refine wa (wpAny_storeSet_of c b (wc (h G _ _ (.update _ f _) ⟨_,B,_,_,gK c b B _,i,rfl,l,j,n,m,e,⟨λz=>?_,λz=>?_⟩⟩ d (by rw[k]))) (fits_of_scanBound m))
    .rw[g.1 z,D.1 z]
     rfl
    .have C:=z
     rw[Qe]at C;exact g.2 C.1
   .exact wc (h G _ _ (.refl f _) p d (by rw[k]))
def SetI.nodup(x:SetI prog w h a ns):ns.Nodup:=by
 obtain⟨_,_,_,_,_,_,_,_,_,b,_⟩:=x;exact b
def SetI.type(x:SetI prog w s.heap a ns):s.TypeIs (.ref a) "set":=by
 obtain⟨o,_,_,_,c,b,_⟩:=x;exact⟨o,c,b.1⟩
def SetI.but(x:SetI prog w h a ns)(b:a≠f)(c:Heap.SameBut f h d):SetI prog w d a ns:=x.at λo e=>(c.2 a b).trans e
theorem Nw(p:SetI prog w s.heap f i)(b:i.length+1<scanBound)(h:∀v c,Heap.SameBut f s.heap v->SetI prog w v f c->(∀x,x∈c↔¬(x∈i↔x=k))->c.length<=i.length+1->Q () {s with heap:=v}):
 wpAny (mZ prog w) A (holding [.int k u] (do
  if !(<-setDiscardHashed f (.int k u) (hashInt k))then
   let _ <-setAddHashed f (.int k u) (hashInt k))) Q E s:=by
 have q:=p.nodup;refine wd (wa (Nr p λr l g e a=>?_));by_cases j:k∈i
 .rw[wm j]
  refine wc (h r l g e (λx=>?_) ?_)
  .grind
  .rw[a.length_eq]
   ext<;>lia
 .rw[wt j]
  rw[List.erase_of_not_mem j]at a;refine wa (F9 e (by rwa [a.length_eq]) λt o m n d=>?_);rw[if_neg (λz=>j (a.mem_iff.mp z))]at d;refine wc (h t o (g.trans m) n (λx=>?_) ?_)
  .grind
  .rw[d.length_eq,qz,a.length_eq]
   ext
def pb(a:SetI prog w s.heap o ns)(h:Q true s):wpAny (mZ prog w) A (Builtin.Frozenset.isAnySet (.ref o)) Q E s:=wa (wpAny_isInstance a.type o8 (wc h))
theorem yy{id:String}(I:o≠f)(v:SetI prog w s.heap o ns)(hF:SetI prog w s.heap f k)(K:k.length+ns.length+1<scanBound)(h:∀h' d' n,Heap.SameBut f s.heap h'->SetI prog w h' f n->(∀x,x∈n↔¬(x∈k↔x∈ns))->Q () {s with heap:=h',drawn:=d' }):
 wpAny (mZ prog w) A (Builtin.Frozenset.symmetricDifferenceUpdate id f (.ref o)) Q E s:=by
 unfold Builtin.Frozenset.symmetricDifferenceUpdate;rw[if_neg ⋯];refine wa (wpAny_typeOf v.type ?_)
 have c:(.type "set"==Value.type "dict")=false:=by decide
 refine wa (pb v ?_);refine wa (wc ?_);have J:=v;obtain⟨oo,es,ep,t,N,Z,M,X,S,Y,hb,L,ht⟩:=J;refine wa (m:=setEpoch o) ?_;refine wa (wg N M L (wc ?_));dsimp only;refine wd ?_;refine wa (Nv v hF λr h' d' U F p C=>?_)
 refine wa (w6 (MeetsSeq2.wpAny_forIn_array _ (λd _ s'=>∃b c a,s'={s with heap:=c,drawn:=d' }/\Heap.SameBut f _ c/\SetI _ w c f a/\(∀x,x∈a↔¬(x∈k↔x∈b))/\r.toList.map cK=b++d.map cK/\a.length<=k.length+b.length/\∀e∈d,e∈r.toList)
  (λ_ s'=>∃c a,s'={s with heap:=c,drawn:=d' }/\Heap.SameBut f s.heap c/\SetI prog w c f a/\(∀x,x∈a↔¬(x∈k↔x∈ns))) ?_ ?_ r _ ⟨[],h',k,rfl,U,F,by simp,by simp,by simp,λe H=>H⟩) (λ_ s' hs=>?_) λ_ _ e=>e)
 .rintro x d _ s' ⟨b,c,a,rfl,g,i,l,R,T,u⟩
  have W:=u x qh;obtain⟨tk,D⟩:=jJ p W
  have q:a.length+1<scanBound:=by
   have e2:=C.length_eq;symm
  rw[D];refine wa (Nw i q λP z m B O V=>?_);have G:=((g.trans m).2 o I).trans N;refine wa ?_;refine wa (wa (wg G M L (wc ?_)));rw[if_neg nofun];refine wc (wc ⟨b++[cK x],P,z,rfl,g.trans m,B,λy=>?_,?_,?_,λe H=>u e (qg _ H)⟩)
  .grind
  ·(simp at*;lia)
  (simp;lia)
 .grind
 .obtain⟨c,a,rfl,g,i,l⟩:=hs
  exact wc (h c d' a g i l)
theorem Nx(h:0<=k/\k<1024):0<=hashInt k/\hashInt k<1024:=by
 have e:rawHash k=k:=by
  unfold rawHash;symm
 unfold hashInt
 split<;>ext
def yz:(List.range 64).all (λn=>decide (SetTable.sizeAbove (n*2)∈sizes)&&decide (n<SetTable.sizeAbove (n*2))&&decide (SetTable.sizeAbove (n*2)<=128))=true:=by decide +kernel
theorem Ny{a:Array (Int×Value)}{o:Array Nat}(d:o.toList.Perm (List.range a.size)):(o.filterMap (a[·]?)).toList.Perm a.toList:=by
 have c:(o.filterMap (a[·]?)).toList=o.toList.filterMap (a.toList[·]?):=by simp
 have b:(List.range a.size).filterMap (a.toList[·]?)=a.toList:=by
  have:∀l:List (Int×Value),(List.range l.length).filterMap (l[·]?)=l:=λl=>by
   rw[o_ λi e=>?_]
   .show List.filterMap (some ∘ λi=>l.getD i (0,.none)) _=_
    refine List.ext_getElem nofun λi c b=>?_;simp[b]
   ext
  symm
 symm
abbrev Hk(a:Nat)(t:SetTable):Obj:={cls:=.type "set",dict:=none,data:=.set #[] a t}
theorem Nz(b:s.heap.get? f=some (Hk p (.fresh 0 0 led)))(m:n<64)(h:∀x i t',Heap.SameBut f s.heap x->x.get? f=some (Hk i t')->t'.mask+1∈sizes->n<=t'.mask->t'.place=#[]->t'.dummies=#[]->t'.led=led->t'.plain=true->Q () {s with heap:=x}):wpAny (mZ prog w) A (setRoomFor f n) Q E s:=by
 have a:_=true:=rfl;refine wa (wg b rfl a ?_);by_cases t:21<=n*5
 .have e:(SetTable.fresh 0 0 led).roomFor n=some (n*2):=by
   unfold SetTable.roomFor SetTable.fresh SetTable.fill
   ext
  rw[e];have c:=List.all_eq_true.mp yz n (List.mem_range.mpr m);refine wa (wg b rfl a ?_);dsimp only;rw[if_neg (by rw[ji];lia)];obtain⟨t',j,y,z,v,o,u,q⟩:=Hj (mask:=SetTable.sizeAbove (n*2)-1) (plain:=true) ⋯ #[] (Qh _) (λh k=>by simp at k)
  have g:(SetTable.fresh 0 0 led).relaid ((#[]:Array (Int×Value)).map (·.1)) (n*2)=some (t',j):=by
   rw[show(#[]:Array (Int×Value)).map (·.1)=#[] by simp];exact y
  rw[g]
  have d:j=#[]:=by
   ext
  subst d;have r:=wR y;refine wpAny_storeSet_of b rfl ?_ nofun;have l:=gK b rfl (#[]) t';exact h _ _ t' (.update s.heap f _) l ⋯ ∅ ⋯ o r.2.1 q
 .have e:(SetTable.fresh 0 0 led).roomFor n=none:=by
   unfold SetTable.roomFor SetTable.fresh SetTable.fill
   ext
  rw[e];refine wc ?_;exact h s.heap p _ (.refl f s.heap) b (show 8∈sizes by decide) (show n<=7 by lia) rfl rfl rfl rfl
theorem yA{id:String}(T:SetI prog w s.heap o ns)(hk:∀k∈ns,0<=k/\k<1024)(hl:ns.length<64)(h:∀h' V,(∀b x,s.heap.get? b=some x->h'.get? b=some x)->SetI prog w h' (~~~s) V->V.Perm ns->Q (.ref (~~~s)) {s with heap:=h' }):
 wpAny (mZ prog w) A (Builtin.Frozenset.newFrom id (.type "set") (.ref o)) Q E s:=by
 unfold Builtin.Frozenset.newFrom newSet;refine wa (wa (gL ?_));dsimp only;simp only[newObj];refine wa (wpAny_alloc (wc ?_))
 have J:o< ~~~s:=by
  obtain⟨oo,_,_,_,G,_⟩:=T;exact ql G
 generalize W:s.heap.push _=H
 have c:∀b x,s.heap.get? b=some x->H.get? b=some x:=λb x e=>by rw[<-W];exact qe _ e
 have D:H.get? (~~~s)=some {cls:=.type "set",dict:=none,data:=.set #[] 0 (.fresh 0 0 (!dt w))}:=by rw[<-W];exact qp _ rfl
 generalize hf:(~~~s)=f at *;have hne:o≠f:=qm J;have C:SetI prog w H o ns:=T.at λx e=>c o x e;refine wa (m:=Builtin.Frozenset.addrOf (.ref f)) (wc ?_);refine wa (wd ?_);unfold Builtin.Frozenset.updateFrom;refine wa (pb (s:={s with heap:=H}) C ?_);rw[if_pos rfl];unfold Builtin.Frozenset.merge;have O:=C;obtain⟨oo,a,ep,t,G,hex,U,p,K,r,hb,l,R⟩:=O
 have hsz:a.size=ns.length:=by symm
 refine wa (m:=setEpoch o) ?_;unfold setEpoch;refine wa (wg (s:={s with heap:=H}) G U l (wc ?_));dsimp only;unfold setMerge
 have h1:(f==o)=false:=by symm
 rw[if_neg (by ext)];refine wa (wg (s:={s with heap:=H}) G U l ?_);dsimp only;by_cases i:a.isEmpty=true
 .rw[if_pos i]
  refine wc (wc (h H [] c ⟨_,#[],_,_,D,⟨rfl,rfl,rfl⟩,rfl,λe P=>by simp at P,rfl,.nil,by decide,rfl,.fresh⟩ ?_))
  ext
 .rw[if_neg i]
  refine wa (Nz (s:={s with heap:=H}) D (by ext) λh' ep' t' sb g m1 m2 p1 p2 l1 l2=>?_)
  have j:t'.fits (#[]:Array (Int×Value)).size=true:=by
   unfold SetTable.fits SetTable.fill
   ext
  refine wa (wg (s:={s with heap:=h' }) g rfl j ?_);dsimp only
  have m:∀b x,s.heap.get? b=some x->h'.get? b=some x:=λb x e=>by
   have hb:b≠f:=λz=>by
    have:=ql e
    ext
   exact(sb.2 b hb).trans (c b x e)
  have d:∀(y:Array (Int×Value)) (B:SetTable) b x,s.heap.get? b=some x->(h'.update f (Obj.putSet y B)).get? b=some x:=λy B b x e=>by
   have hb:b≠f:=λz=>by
    have:=ql e
    ext
   exact((wx h' f _).2 b hb).trans (m b x e)
  have n:t'.fill=0:=by
   unfold SetTable.fill
   ext
  unfold SetTable.road;rw[n,if_neg nofun]
  have v:dt w=false->(t'.led&&t.led)=true:=λz=>by
   rw[l1,R.1 z,z];rfl
  by_cases Y:(t'.mask==t.mask&&t.dummies.isEmpty)=true
  .rw[if_pos Y]
   dsimp only;refine wpAny_storeSet_of (s:={s with heap:=h' }) g rfl ?_ (fits_of_scanBound hb);have M:=gK g rfl a {t with finger:=t'.finger,led:=t'.led&&t.led,moves:=t'.moves,plain:=t'.plain&&t.plain};refine wc (h _ ns (d _ _) ⟨_,a,_,_,M,⟨rfl,rfl,rfl⟩,rfl,p,K,r,hb,l,v,λz=>?_⟩ (.refl _));have X:(t'.plain&&t.plain)=true:=z;rw[Qe]at X;exact R.2 X.2
  .rw[if_neg Y]
   dsimp only
   obtain⟨B,q,e1,e2,e3,e4,e5,e6⟩:=Hj (mask:=t'.mask) (finger:=t'.finger) (moves:=t'.moves) (led:=t'.led&&t.led) (plain:=t'.plain&&t.plain) m1 (a.map (·.1)) (by ext) (λx S=>by
    rw[Array.toList_map]at S;obtain⟨e,P,rfl⟩:=qy S;obtain⟨tk,het⟩:=jJ p P
    have I:cK e∈ns:=by symm
    have:=Nx (hk _ I)
    symm)
   rw[e1];have L:=wR e1
   have N:q.toList.Perm (List.range a.size):=by symm
   have Z:=Ny N
   have hsz2:(q.filterMap (a[·]?)).size=a.size:=by rw[<-qj,Z.length_eq,qj]
   refine wa ?_;show wpAny _ _ (if ((q.filterMap (a[·]?)).size != a.size)=true then _ else _) _ _ _;rw[if_neg (by ext)];refine wc ?_;dsimp only
   have u:(q.filterMap (a[·]?)).size<scanBound:=by ext
   refine wpAny_storeSet_of (s:={s with heap:=h' }) g rfl ?_ (fits_of_scanBound u);have M:=gK g rfl (q.filterMap (a[·]?)) B
   have F:((q.filterMap (a[·]?)).toList.map cK).Perm ns:=by symm
   refine wc (h _ _ (d _ _) ⟨_,_,_,B,M,⟨rfl,rfl,rfl⟩,rfl,p.perm Z,rfl,F.nodup_iff.mpr r,u,?_,⟨λz=>by ext,λ_=>L.1⟩⟩ F);unfold SetTable.fits SetTable.fill
   ext
theorem NA:entryFor table "set.__xor__"=some Builtin.«frozenset.__xor__»:=
 entryFor_alias (id':="frozenset.__xor__") (by kernel_rfl) (by first|rfl|decide +kernel|(unfold String.splitOn)) (by decide +kernel) (by kernel_rfl)
theorem NB(G:SetI prog w s.heap a ns)(j:SetI prog w s.heap b g)(q:∀k∈g,0<=k/\k<1024)(t:g.length<64)(u:ns.length<64)(h:∀I H f,(∀c x,s.heap.get? c=some x->I.get? c=some x)->SetI prog w I (~~~s) f->(∀x,x∈f↔¬(x∈g↔x∈ns))->Q (.ref (~~~s)) {s with heap:=I,drawn:=H}):
 wpAny (mZ prog w) A (binaryOp .BitXor (.ref a) (.ref b)) Q E s:=by
 refine wpAny_binaryOp_same G.type j.type F.fills_set_xor F.slot_set_xor (we F.slot_set_xor G.type NA (wa (wpAny_of_eq rfl (wa (wa (pb G (pb j (wa (wc (wa (wa (wa (wpAny_isInstance G.type o8 (wc (wa (yA j q t λD f m p v=>?_))))))))))))))) (F.args_set_xor_2 _ _))
 have d:a< ~~~s:=by
  obtain⟨C,_,_,_,y,_⟩:=G;exact ql y
 have r:scanBound=4096:=rfl;refine wa (wc (wa (wd (yy (qm d) (G.at λx e=>m a x e) p (by rw[v.length_eq];lia) λo H i n l B=>wc (wc ⟨_,rfl,(λz=>nomatch z),h o H i (λc x e=>?_) l λx=>?_⟩)))))
 .exact(n.2 c (qm (ql e))).trans (m c x e)
 symm
end
section
variable {σ:L2.St}{H:Hp}
def yB(P:P7)(w:World):V->V->Hp->VK->Prop:=λx y H Q=>∃a b e c,x=.ref a/\y=.ref b/\H a=some (c7 P w a e)/\H b=some (c7 P w b c)/\(∀k∈c,0<=k/\k<1024)/\c.length<64/\e.length<64/\
 ∀p d,H p=none->d.Nodup->(∀x,x∈d↔¬(x∈c↔x∈e))->Q (.ref p) (upd H p (c7 P w p d))
def op_xor:bV X (binaryOp .BitXor) (yB X.prog X.w):=by
 intro o s w H x y v u Q I j m h;obtain⟨a,b,t,n,rfl,rfl,p,g,f,k,d,q⟩:=h;cases j;cases m
 exact NB ((I.hok a _ p).1) ((I.hok b _ g).1) f k d λz r i c e l=>⟨.ref _,_,.laid (I.dr r) c (qv _) (yp e),rfl,q _ i (I.hok.fresh (qv _)) e.nodup l⟩
end
theorem ef:∀(l a:AG) (x:Int),x∈ba a l↔x∈a\/x∈l
 | [],a,x=>by simp[ba]
 | k::l,a,x=>by
   rw[ba,ef];symm
theorem iL:∀(l a:AG),a.Nodup->(ba a l).Nodup
 | [],_,h=>h
 | k::l,a,h=>by
   refine iL l _ ?_;symm
def dy(a b:AG):AG:=(ba [] b).filter (λx=>!(a.contains x))++(ba [] a).filter (λx=>!(b.contains x))
theorem Hl:x∈dy a b↔¬(x∈b↔x∈a):=by
 unfold dy;rw[List.mem_append,Ql,Ql,ef,ef];symm
theorem yC(a b:AG):(dy a b).Nodup:=by
 unfold dy;rw[List.nodup_append];refine⟨(iL b [] .nil).filter _,(iL a [] .nil).filter _,λx e y d z=>?_⟩;have c:=Qc d;rw[ef]at c;symm
def pd(l m:AR):Option AR:=(c5 l).bind λa=>(c5 m).bind λb=>
 if a.length<4000/\b.length<4000/\(ba [] a).length<64/\(ba [] b).length<64/\(b.all λk=>decide (0<=k/\k<1024))=true/\(dy a b).length<64 then some ((dO (dy a b)).map .int)else none
section
variable {e:Expr}{f:AW}{p p2:Pos}
def yD(f f2:AW):AX:=λa=>(b1 f Yc a).bind λl=>(b1 f2 Yc a).bind λm=>pd l m
@[simp] theorem iM:yD f f2 ρ=((f ρ).bind Yc).bind λl=>((f2 ρ).bind Yc).bind λm=>pd l m:=lA rfl
end
def Hn{t:SetTable}(a:t.place=#[])(b:t.dummies=#[])(j:Nat):t.slot j=.empty:=by
 unfold SetTable.slot SetTable.has;rw[a,b];rfl
def NC(a j:Nat):SetTable.below #[a] j=if a<j then 1 else 0:=by
 show SetTable.below.go #[a] j 1 0 1=_;rfl
theorem lC{t:SetTable}{a:Nat}(c:t.place=#[a])(e:t.dummies=#[])(j:Nat):t.slot j=if j=a then .live 0 else .empty:=by
 unfold SetTable.slot SetTable.has;rw[c,e,NC];by_cases h:a<j
 .have b:¬j=a:=by lia
  simp[h,b]
 .by_cases b:j=a
  .subst b
   simp
  .have d:¬a=j:=λz=>b z.symm
   simp[h,b,d]
theorem Ho{t:SetTable}(a:t.mask=7){p:SetTable.Probe}(h0:p.more=0):t.advance p={p with j:=(p.i*5+1+p.perturb/32)%8,more:=0,i:=(p.i*5+1+p.perturb/32)%8,perturb:=p.perturb/32}:=by
 unfold SetTable.advance;rw[if_neg ∅,a];show({p with j:=(p.i*5+1+p.perturb/32)%8,more:=SetTable.runEnd 7 ((p.i*5+1+p.perturb/32)%8)-(p.i*5+1+p.perturb/32)%8,i:=(p.i*5+1+p.perturb/32)%8,perturb:=p.perturb/32})=_
 have:SetTable.runEnd 7 ((p.i*5+1+p.perturb/32)%8)-(p.i*5+1+p.perturb/32)%8=0:=by
  unfold SetTable.runEnd
  split<;>lia
 rw[this]
theorem Hq{t:SetTable}{c:Nat}{hA:Nat->Int}{h:Int}(l:t.mask=7)(g:t.place=#[c])(f:t.dummies=#[])(r:c<8)(b:(hA 0==h)=false):∀(k a:Nat) (p:SetTable.Probe),p.perturb<32^k->k+2<=a->p.more=0->p.i=p.j->p.dummy=none->p.j<8->
 ∃j,SetTable.probe.go t hA h a p=some (.empty j none)/\j≠c/\j<8
 | 0,a+2,p,o,_,i,q,d,m=>by
   rw[SetTable.probe.go,lC g f];by_cases e:p.j=c
   .rw[if_pos e]
    dsimp only;rw[b,if_neg qi,SetTable.probe.go,lC g f,Ho l i]
    have n:(p.i*5+1+p.perturb/32)%8≠c:=by lia
    rw[if_neg n];exact⟨_,by rw[d],n,by lia⟩
   .rw[if_neg e]
    exact⟨_,by rw[d],e,m⟩
 | k+1,a+1,p,o,s,i,q,d,m=>by
   rw[SetTable.probe.go,lC g f];by_cases e:p.j=c
   .rw[if_pos e]
    dsimp only;rw[b,Ho l i];refine Hq l g f r b k a _ ?_ ∅ rfl rfl d ∅;rw[Nat.div_lt_iff_lt_mul (by decide)];exact o
   .rw[if_neg e]
    exact⟨_,by rw[d],e,m⟩
 | 0,0,_,_,h,_,_,_,_=>by lia
 | 0,1,_,_,h,_,_,_,_=>by lia
 | _+1,0,_,_,h,_,_,_,_=>by lia
theorem yE{t:SetTable}(a:t.mask=7)(h:Int):t.probeStart h={j:=SetTable.bits h%8,more:=0,i:=SetTable.bits h%8,perturb:=SetTable.bits h,dummy:=none}:=by
 unfold SetTable.probeStart;rw[a]
 have:SetTable.runEnd 7 (SetTable.bits h%(7+1))-SetTable.bits h%(7+1)=0:=by
  unfold SetTable.runEnd
  split<;>lia
 dsimp only;rw[this]
def ND{t:SetTable}(a:t.mask=7)(c:t.place=#[])(b:t.dummies=#[])(hA:Nat->Int)(h:Int):t.probe hA h (t.probeStart h)=some (.empty (SetTable.bits h%8) none):=by
 unfold SetTable.probe;rw[a,yE a];show SetTable.probe.go t hA h (219+1) _=_;rw[SetTable.probe.go,Hn c b]
theorem NF{t:SetTable}{c:Nat}(a:t.mask=7)(f:t.place=#[c])(e:t.dummies=#[])(d:c<8){hA:Nat->Int}{h:Int}(b:(hA 0==h)=false):∃j,t.probe hA h (t.probeStart h)=some (.empty j none)/\j≠c/\j<8:=by
 unfold SetTable.probe;rw[a,yE a];refine Hq a f e d b 13 _ _ ?_ (by decide) rfl rfl rfl ∅
 have:(h%(2^64)).toNat<2^64:=by lia
 exact Qi this (by decide)
section
variable {w:World}{A:Around}{E:AA}
def NG{u:Addr}{o:Obj}{i:Int}{tk:Tok}{b:Bool}{n:Nat}{Q:Bool->Shared->Prop}(a:s.heap.get? u=some o)(c:o.cls=.type "tuple")(d:o.data=.seq #[.int i tk,.bool b] n)(h:Q true s):wpAny (mZ prog w) A (hashByValue 8 (.ref u)) Q E s:=by
 exact wa (wpAny_specialOf (⟨o,a,c⟩) F.slot_tuple_hash.lookup (wa (wpAny_seqItems a d (wc h))))
def lD(a:Array (Int×Value))(i:Nat):Int:=(a[i]?.map (·.1)).getD 0
def NH{S:Addr}{x:Value}{h:Int}{o:Obj}{b:Array (Int×Value)}{l:Nat}{t:SetTable}{j:Nat}{Q:SetFound->Shared->Prop}(d:s.heap.get? S=some o)(f:o.data=.set b l t)(k:t.fits b.size=true)(n:t.mask=7)(c:t.probe (lD b) h (t.probeStart h)=some (.empty j none))(g:Q (.free j false) s):wpAny (mZ prog w) A (setSearch S x h true) Q E s:=by
 refine wa (wg d f k ?_);dsimp only
 have e:t.gaveWay=false:=by unfold SetTable.gaveWay;rw[n];rfl
 rw[e];have a:t.probe (λi=>(b[i]?.map (·.1)).getD 0) h (t.probeStart h)=some (.empty j none):=c;show wpAny _ _ (match t.probe (λi=>(b[i]?.map (·.1)).getD 0) h (t.probeStart h)with|some m=>_|_=>_) _ _ _;rw[a];exact wc g
theorem yF{S u:Addr}{h:Int}{o:Obj}{d:Array (Int×Value)}{x:Nat}{t:SetTable}{j:Nat}{q:Obj}{i:Int}{tk:Tok}{b:Bool}{n:Nat}{Q:Bool->Shared->Prop}(e:s.heap.get? S=some o)(g:o.data=.set d x t)(m:t.fits d.size=true)(C:t.mask=7)(k:t.dummies=#[])(z:d.size<=1)(r:t.probe (lD d) h (t.probeStart h)=some (.empty j none))(y:s.heap.get? u=some q)(B:q.cls=.type "tuple")(v:q.data=.seq #[.int i tk,.bool b] n)(p:Q true {s with heap:=s.heap.update S (Obj.putSet (SetTable.insertAt d (SetTable.below t.place j) (h,.ref u)) {t with place:=SetTable.insertAt t.place (SetTable.below t.place j) j})}):
 wpAny (mZ prog w) A (setAddHashed S (.ref u) h) Q E s:=by
 refine wd (wa (wg e g m ?_));dsimp only;refine wa (NH e g m C r (wa (wg e g m ?_)))
 have l:t.put j=({t with place:=SetTable.insertAt t.place (SetTable.below t.place j) j},SetTable.below t.place j):=by
  unfold SetTable.put;rw[k];have:SetTable.has #[] j=false:=rfl;rw[this,if_neg qi]
 rw[l];dsimp only
 have a:({t with place:=SetTable.insertAt t.place (SetTable.below t.place j) j}).tooFull=false:=by
  have F:=by
   simp only[SetTable.fits,Qe]at m;exact m.1
  have D:(SetTable.insertAt t.place (SetTable.below t.place j) j).size<=2:=by
   rw[<-qj,Ys];simp;lia
  unfold SetTable.tooFull SetTable.fill;rw[k];simp;lia
 have c:(SetTable.insertAt d (SetTable.below t.place j) (h,Value.ref u)).size<=sizeLine:=by
  rw[<-qj,Ys,ji];simp;lia
 cases f:t.plain with
 | true=>
   refine wa (NG y B v ?_);rw[if_pos rfl];refine wa (wpAny_storeSet_of e g ?_ c);rw[f]at a p;rw[a];exact wc p
 | false=>
   refine wa (wc ?_);rw[if_pos rfl];refine wa (wpAny_storeSet_of e g ?_ c);rw[f]at a p;rw[a];exact wc p
def PairV(h:Heap)(u:Addr)(p:Int×Bool):Prop:=∃o tk n,h.get? u=some o/\o.cls=.type "tuple"/\o.data=.seq #[.int p.1 tk,.bool p.2] n
def pH(p:Int×Bool):Int:=ir [p.1,if p.2 then 1 else 0]
def PairV.keep{h h':Heap}{u:Addr}{p:Int×Bool}(x:PairV h u p)(k:∀o,h.get? u=some o->h'.get? u=some o):PairV h' u p:=by
 obtain⟨o,tk,n,a,r⟩:=x;exact⟨o,tk,n,k o a,r⟩
def PairV.key{h:Heap}{u:Addr}{p:Int×Bool}(x:PairV h u p):IsTupleKey (yb prog w) h [p.1,if p.2 then 1 else 0] u:=by
 obtain⟨o,tk,n,a,c,b⟩:=x;exact⟨o,_,n,a,c,b,(.cons (by simp[yb,fQ]) (.cons (by simp[yb,fQ]) .nil))⟩
theorem yG{l I S u:Addr}{a:Array Value}{i:Nat}{p:Int×Bool}{R:Result->Shared->Prop}(q:A.units+2<cLine)(h:s.heap.IsListIter I l i)(n:s.heap.IsList l a)(m:a[i]?=some (.ref u))(j:PairV s.heap u p)(f:u≠I)(k:∀d tk,d.IsListIter I l (i+1)->Heap.SameBut I s.heap d->wpAny (mZ prog w) A.in1 (setAddHashed S (.ref u) (pH p)) (λ_ s'=>codeAny (mZ prog w) A (.builtin "set.update.loop" ⟨[.ref S,.ref I],[]⟩) R s') (λe s'=>R (.error e) s') {s with heap:=d,toks:=tk}):
 codeAny (mZ prog w) A (.builtin "set.update.loop" ⟨[.ref S,.ref I],[]⟩) R s:=by
 exact w5 F.entry_set_update_loop (wa (wpAny_pyNext_list_item h n m λd g c=>(wa (wd (wd (wa (wpAny_pyHash_tuple (by show A.units+1<cLine;lia) (j.keep λo e=>by rw[c.2 u f];exact e).key (w6 (k d _ g c) (λb s' hb=>(wc ⟨jd F.plain_set_update_loop _,hb⟩)) λ_ _ x=>x))))))))
def pe{l I S:Addr}{a:Array Value}{i:Nat}{R:Result->Shared->Prop}(f:A.handled=none)(d:s.heap.IsListIter I l i)(e:s.heap.IsList l a)(g:a[i]?=none)(k:∀b,Heap.ExtBut I s.heap b->R (.ok (.ret .none)) {s with heap:=b}):
 codeAny (mZ prog w) A (.builtin "set.update.loop" ⟨[.ref S,.ref I],[]⟩) R s:=by
 exact w5 F.entry_set_update_loop (wa (wpAny_pyNext_list_end f d e g λb c=>(wc (k b c))))
end
def eC(e:Int×Value):Value:=e.2
def SetV(w:World)(h:Heap)(a:Addr)(vs:AC):Prop:=
 ∃o b c t,h.get? a=some o/\o.ExactSet/\o.data=.set b c t/\b.toList.map eC=vs/\b.size<scanBound/\t.fits b.size=true/\Tab (dt w) t
def SetV.at{w:World}{h h':Heap}{a:Addr}{ns:AC}(x:SetV w h a ns)(e:∀o,h.get? a=some o->h'.get? a=some o):SetV w h' a ns:=
 let ⟨o,c,d,t,b,r⟩:=x
 ⟨o,c,d,t,e o b,r⟩
def SetV.len{w:World}{h:Heap}{a:Addr}{ns:AC}(x:SetV w h a ns):ns.length<scanBound:=by
 obtain⟨o,d,f,t,e,c,g,b,hb,_⟩:=x;rw[<-b,qf];exact hb
def lE(a:AC)(i:Nat)(v:Value):Prop:=a[i]?=some v
section
variable {w:World}{A:Around}{E:AA}
theorem NI{a:Addr}{ns:AC}(hS:SetV w s.heap a ns){Q:AA}(hQ:∀(h':Heap) (d':Drawn) (I:Addr) (fp:List Addr) (vals:AC) (St:Nat->Heap->Prop),(∀b o,s.heap.get? b=some o->h'.get? b=some o)->(~~~s)<=I->I∈fp->
  (∀b∈fp,b<h'.objs.size/\(b=a\/(~~~s)<=b))->vals.Perm ns->(∀A':Around,A'.handled=none->Walks prog w A' I fp [I] ns.length (lE vals) St)->St 0 h'->
  (∀(i:Nat) (s':Shared),St i s'.heap->s'.TypeIs (.ref I) "set_iterator")->Q (.ref I) {s with heap:=h',drawn:=d' }):
 wpAny (mZ prog w) A (pyIter (.ref a)) Q E s:=by
 obtain⟨o,es,ep,t,ho,hex,hd,hns,hb,hf,ht⟩:=hS
 have hT:s.TypeIs (.ref a) "set":=⟨o,ho,hex.1⟩
 have hlen:ns.length=es.size:=by rw[<-hns,qf,qj]
 have hlt:a< ~~~s:=ql ho
 have hsa:SAt s.heap a es ep t:=⟨o,ho,hex,hd,hf⟩
 have hps:t.place.size=es.size:=by
  simp only[SetTable.fits,Qe,beq_iff_eq]at hf;exact hf.1
 refine wpAny_pyIter_slot hT F.slot_set_iter (we F.slot_set_iter hT Gd ?_ (F.args_set_iter_1 _));unfold Builtin.«frozenset.__iter__»;show wpAny _ _ (Builtin.Frozenset.sizeOf a>>=_) _ _ s;unfold Builtin.Frozenset.sizeOf;refine wa (wa (wpAny_setEntries_of ho hd hf (wc ?_)));refine wa ?_;unfold setDrawn;refine wa (wg ho hd hf ?_);dsimp only;refine wa (gL (wc ?_))
 have plain:∀(vals:AC) (st:Nat->Nat) (xv:Nat->Value),vals.Perm ns->st 0=0->(∀i,i<es.size->lE vals i (xv i))->
  (∀(s':Shared) (A':Around) (i:Nat) (E':AA),SAt s'.heap a es ep t->i<es.size->∀Q':Option (Value×Nat)->Shared->Prop,Q' (some (xv i,st (i+1))) s'->wpAny (mZ prog w) A' (setNext a (st i) i ep) Q' E' s')->
  (∀(s':Shared) (A':Around) (E':AA),SAt s'.heap a es ep t->∀Q':Option (Value×Nat)->Shared->Prop,Q' none s'->wpAny (mZ prog w) A' (setNext a (st es.size) es.size ep) Q' E' s')->
  wpAny (mZ prog w) A.in1 (do
   let x <-newFields "set_iterator" [rawInt 0,rawInt 0,.ref a,rawInt es.size,rawInt (<-setEpoch a)]
   ret x) (λfin s'=>∃v,fin=.done (.ret v)/\∃T' r,s'.TypeIs v T'/\typeLookup (.type T') "__next__"=pure (some r)/\Q v s') E s:=by
  intro vals st xv hp h0 hx hi hn;refine wa (wpAny_setEpoch_of ho hd hf ?_);refine wa (wf ?_);refine wc ⟨_,rfl,"set_iterator",_,⟨_,qp _ rfl,rfl⟩,slot_si_next.lookup,?_⟩
  have key:=hQ (s.heap.push {cls:=.type "set_iterator",data:=.fields #[rawInt 0,rawInt 0,.ref a,rawInt es.size,rawInt ep]}) s.drawn (~~~s) [~~~s,a] vals
   (λi h=>SIt h (~~~s) (.int (st i) 0) i a es.size ep/\SAt h a es ep t) (λb o e=>qe _ e) (qv _) nofun (λb hb=>by
    rw[wy];rcases qu hb with rfl|hb
    .exact⟨Qa _,.inr (qv _)⟩
    .rw[Qu]at hb
     subst hb
     exact⟨qx hlt,.inl rfl⟩) hp (λA' hA'=>{
    sub:=λb hb=>by simp at hb;simp[hb]
    frame:=λi h h' st' hk=>⟨st'.1.at λo e=>hk _ nofun o e,st'.2.at λo e=>hk a nofun o e⟩
    item:=λi s' Q' E' hlt' st' hQ'=>by
     refine Ge st'.1 st'.2 (x:=xv i) (nx:=st (i+1)) (λA2 Q2 E2 hq=>hi s' A2 i E2 st'.2 ∅ Q2 hq) λh' hit' hs'=>?_;exact hQ' _ h' s'.toks (hx i ∅) ⟨hit',st'.2.at λo e=>hs'.extBut a o (λz=>by subst z;exact absurd hlt (Nat.lt_irrefl _)) e⟩ λb o hb e=>hs'.extBut b o (λz=>hb (by simp[z])) e
    done:=λs' Q' E' st' hQ'=>by
     rw[hlen]at st';exact Gg hA' st'.1 st'.2 (λA2 Q2 E2 hq=>hn s' A2 E2 st'.2 Q2 hq) λh' he'=>hQ' h' s'.toks λb o hb e=>he' b o (λz=>hb (by simp[z])) e
    self:=λi s' Q' E' st' hQ'=>ox st'.1 hQ' }) ⟨⟨_,qp _ rfl,rfl,by rw[h0];rfl⟩,hsa.at λo e=>qe _ e⟩ (λi s' st'=>st'.1.typeIs)
  exact key
 have hdr:∀b:Bool,(!t.plain&&decide (es.size > 1))=b->wpAny (mZ prog w) A.in1 (if (!dt w&&b)=true then do
  let first <-newTuple ((<-drawOrder es.size (List.range es.size)).map fun(i:Nat)=>rawInt i)
  let x <-newFields "set_iterator" [first,rawInt 0,.ref a,rawInt es.size,rawInt (<-setEpoch a)]
  ret x
  else do
   let x <-newFields "set_iterator" [rawInt 0,rawInt 0,.ref a,rawInt es.size,rawInt (<-setEpoch a)]
   ret x) (λfin s'=>∃v,fin=.done (.ret v)/\∃T' r,s'.TypeIs v T'/\typeLookup (.type T') "__next__"=pure (some r)/\Q v s') E s:=by
  intro b hbd
  cases hbt:dt w with
  | true=>
    rw[if_neg nofun];generalize hor:pickOrder (w.params.setOrder a ep) es=ord
    have hpm:ord.toList.Perm es.toList:=by rw[<-hor];exact wY _ _
    have hos:ord.size=es.size:=by
     have:=hpm.length_eq;simpa using this
    refine plain (ord.toList.map eC) (λ_=>0) (λi=>(ord.getD i (0,.none)).2) (by rw[<-hns];exact hpm.map eC) rfl (λi hi=>?_) (λs' A' i E' ha hi Q' hq=>?_) (λs' A' E' ha Q' hq=>?_)
    .have hi':i<ord.size:=by lia
     show(ord.toList.map eC)[i]?=some _;simp[hi',eC,Array.getD]
    .have hi':i<ord.size:=by lia
     refine oy hbt ha ?_;rw[hor,Array.getElem?_eq_getElem hi'];simp only[Array.getD,hi',dite_true]at hq;exact hq
    .refine oy hbt ha ?_
     rw[hor,Array.getElem?_eq_none ∅];exact hq
  | false=>
    have hled:=ht.1 hbt
    cases b with
    | false=>
      rw[if_neg nofun]
      have hrise:bY t.place:=by
       cases hpl:t.plain with
       | true=>exact ht.2 hpl
       | false=>
         rw[hpl]at hbd
         have h1:t.place.toList.length<=1:=by
          simp at hbd;rw[qj];lia
         unfold bY
         match t.place.toList,h1 with
         | [],_=>exact .nil
         | [x],_=>simp
      refine plain ns (fu t.place) (λi=>(es.getD i (0,.none)).2) .rfl rfl (λi hi=>?_) (λs' A' i E' ha hi Q' hq=>?_) (λs' A' E' ha Q' hq=>?_)
      .show ns[i]?=some _
       rw[<-hns];simp[hi,eC,Array.getD]
      .refine oz hbt hbd hled ha (oA hrise ∅) ?_
       have hi2:i<t.place.size:=by lia
       rw[Array.getElem?_eq_getElem hi,Array.getElem?_eq_getElem hi2];simp only[Array.getD,hi,hi2,dite_true,fu]at hq;exact hq
      .refine oz hbt hbd hled ha (oA hrise ∅) ?_
       rw[Array.getElem?_eq_none (qv _)];exact hq
    | true=>
      rw[if_pos nofun];refine wa (om es.size (List.range es.size) s _ nofun λys d' hp=>?_);simp only[newTuple]
      have hyl:ys.length=es.size:=by rw[hp.length_eq];simp
      refine wa (wf ?_ (by show(ys.map fun(i:Nat)=>rawInt i).toArray.size<=sizeLine;rw[qk,qf,hyl];exact fits_of_scanBound hb));have ho1:((s.heap.push {cls:=.type "tuple",data:=.seq (ys.map fun(i:Nat)=>rawInt i).toArray})).get? a=some o:=qe _ ho;refine wa (wpAny_setEpoch_of (s:={s with heap:=s.heap.push {cls:=.type "tuple",data:=.seq (ys.map fun(i:Nat)=>rawInt i).toArray},drawn:=d' }) ho1 hd hf ?_);refine wa (wf ?_);refine wc ⟨_,rfl,"set_iterator",_,⟨_,qp _ rfl,rfl⟩,slot_si_next.lookup,?_⟩
      have hmem:∀j∈ys,j<es.size:=λj hj=>by simpa using hp.mem_iff.mp hj
      have hvp:(ys.map λj=>eC (es.getD j (0,.none))).Perm ns:=by
       rw[<-hns];refine(hp.map _).trans ?_
       have:(List.range es.size).map (λj=>eC (es.getD j (0,.none)))=es.toList.map eC:=by
        refine List.ext_getElem nofun λi h1 h2=>?_
        have hi:i<es.size:=by simpa using h1
        simp[Array.getD,hi]
       rw[this]
      generalize hH:s.heap.push {cls:=.type "tuple",data:=.seq (ys.map fun(i:Nat)=>rawInt i).toArray}=H at ho1 ⊢
      have hHs:H.objs.size= ~~~s+1:=by rw[<-hH,wy]
      have hT0:H.IsTuple (~~~s) (ys.map fun(i:Nat)=>rawInt i).toArray:=⟨_,by rw[<-hH];exact qp _ rfl,rfl,_,rfl⟩
      have keepH:∀b o,s.heap.get? b=some o->H.get? b=some o:=λb o e=>by rw[<-hH];exact qe _ e
      have haI:a≠H.objs.size:=λz=>by rw[z,hHs]at hlt;exact absurd hlt (Nat.not_lt.mpr (Nat.le_succ _))
      have hTI:(~~~s)≠H.objs.size:=by rw[hHs];exact qm (Qa _)
      exact hQ (H.push {cls:=.type "set_iterator",data:=.fields #[.ref (~~~s),rawInt 0,.ref a,rawInt es.size,rawInt ep]}) d' H.objs.size [H.objs.size,a,~~~s] (ys.map λj=>eC (es.getD j (0,.none)))
       (λi h=>SIt h H.objs.size (.ref (~~~s)) i a es.size ep/\SAt h a es ep t/\h.IsTuple (~~~s) (ys.map fun(i:Nat)=>rawInt i).toArray) (λb o e=>qe _ (keepH b o e)) ∅ nofun (λb hb=>by
        rw[wy];simp only[List.mem_cons,List.not_mem_nil,or_false]at hb;rcases hb with rfl|rfl|rfl
        .exact⟨Qa _,.inr (by rw[hHs];exact Nat.le_succ _)⟩
        .exact⟨qx (by rw[hHs];exact qx hlt),.inl rfl⟩
        .exact⟨qx (by rw[hHs];exact Qa _),.inr (qv _)⟩) hvp (λA' hA'=>{
        sub:=λb hb=>by simp at hb;simp[hb]
        frame:=λi h h' st' hk=>⟨st'.1.at λo e=>hk _ nofun o e,st'.2.1.at λo e=>hk a nofun o e,st'.2.2.at λo e=>hk _ nofun o e⟩
        item:=λi s' Q' E' hlt' st' hQ'=>by
         have hi:i<ys.length:=by lia
         have hj:=hmem ys[i] (Qs hi);refine Gh st'.1 st'.2.1 st'.2.2 (j:=ys[i]) (tk:=0) (e:=es[ys[i]]) (by simp[hi,rawInt]) (Array.getElem?_eq_getElem hj) λh' hit' hs'=>?_;refine hQ' _ h' s'.toks ?_ ⟨hit',st'.2.1.at λo e=>hs'.extBut a o haI e,st'.2.2.at λo e=>hs'.extBut _ o hTI e⟩ λb o hb e=>hs'.extBut b o (λz=>hb (by simp[z])) e;show(ys.map λj=>eC (es.getD j (0,.none)))[i]?=some es[ys[i]].2;simp[hi,Array.getD,hj,eC]
        done:=λs' Q' E' st' hQ'=>by
         rw[hlen]at st';exact Gi hA' st'.1 st'.2.1 st'.2.2 (by simp[hyl]) λh' he'=>hQ' h' s'.toks λb o hb e=>he' b o (λz=>hb (by simp[z])) e
        self:=λi s' Q' E' st' hQ'=>ox st'.1 hQ' }) ⟨⟨_,qp _ rfl,rfl,rfl⟩,⟨o,qe _ ho1,hex,hd,hf⟩,hT0.push _⟩ (λi s' st'=>st'.1.typeIs)
 exact hdr _ rfl
theorem NJ{a:Addr}{ns:AC}(hh:A.handled=none)(S:SetV w s.heap a ns){Q:AC->Shared->Prop}(hQ:∀(h':Heap) (d':Drawn) (tk:Nat) (B:AC),~~~s<=h'.objs.size->(∀b o,s.heap.get? b=some o->h'.get? b=some o)->B.Perm ns->Q B {s with heap:=h',drawn:=d',toks:=tk}):
 wpAny (mZ prog w) A (collect (.ref a)) Q E s:=by
 obtain⟨o,es,ep,t,ho,v,hd,_⟩:=id S;have x:a< ~~~s:=ql ho;have J:=S.len;unfold collect;refine wa (wpAny_runValue (w5 F.entry_proto_collect ?_));rw[je F.plain_proto_collect _];show wpAny _ A.in1 (newList []>>=λl=>again (.builtin "list.__iadd__" ⟨[l,.ref a],[]⟩)) _ _ s;refine wa (wf ?_);refine wc ⟨jd F.plain_list_iadd _,w5 F.entry_list_iadd ?_⟩;rw[je F.plain_list_iadd _];generalize V:s.heap.push {cls:=.type "list",data:=.seq ([]:AC).toArray}=H
 have r:H.objs.size= ~~~s+1:=by rw[<-V,wy]
 have c:∀b o,s.heap.get? b=some o->H.get? b=some o:=λb o e=>by rw[<-V];exact qe _ e
 have hL:H.get? (~~~s)=some {cls:=.type "list",data:=.seq ([]:AC).toArray}:=by rw[<-V];exact qp _ rfl
 have y:=c a o ho
 have hT:Shared.TypeIs {s with heap:=H} (.ref a) "set":=⟨o,y,v.1⟩
 have D:(~~~s)≠a:=λz=>by rw[<-z]at x;exact absurd x (Nat.lt_irrefl _)
 have N:Builtin.List.listSameRef (.ref (~~~s)) (.ref a)=false:=by simp[Builtin.List.listSameRef,D]
 show wpAny _ A.in1 (Builtin.List.listExtendWith (.ref (~~~s)) (.ref a) (.ref (~~~s))) _ _ _;unfold Builtin.List.listExtendWith;refine wa (wpAny_typeOf hT ?_)
 have T:(Value.type "set"==Value.type "list")=false:=by decide
 have K:(Value.type "set"==Value.type "tuple")=false:=by decide
 simp only[N,T,K,Bool.or_false,Qo,if_false];refine wa (NI (s:={s with heap:=H}) (S.at λo e=>c a o e) λh' d' I fp k St f hI hIf X hp hW U hty=>?_);have P:=f a o y
 have n:Shared.TypeIs {s with heap:=h',drawn:=d' } (.ref a) "set":=⟨o,P,v.1⟩
 refine wa (wd ?_);unfold Builtin.List.listLengthHint;refine wa (wpAny_specialOf n F.slot_set_len.lookup ?_);refine wa (wpAny_isInstance (b:=true) n o8 ?_);show wpAny _ A.in1 (typeOf (Value.ref a)>>=_) _ _ _;refine wa (wpAny_typeOf n ?_);refine wc ?_;rw[if_pos (by decide)];refine wa (wpAny_rule ?_)
 have G:(~~~s)∉fp:=λq=>by
  rcases(X _ q).2 with z|z
  .exact D z
  .rw[show({s with heap:=H}:Shared).heap.objs.size=H.objs.size from rfl,r]at z
   exact absurd z (Nat.not_le.mpr (Qa _))
 have g:h'.get? (~~~s)=some {cls:=.type "list",data:=.seq ([]:AC).toArray}:=f _ _ hL;refine wa ?_;refine wa (wpAny_updateSeq g rfl ?_);have i:=wz (Obj.mapSeq (·.push Value.none)) g rfl;refine wpAny_updateSeq i rfl ?_;have p:=wz (Obj.mapSeq (·.pop)) i rfl
 have C:∀b o,b≠(~~~s)->h'.get? b=some o->
  ((h'.update (~~~s) (Obj.mapSeq (·.push Value.none))).update (~~~s) (Obj.mapSeq (·.pop))).get? b=some o:=
  λb o hb e=>(Heap.get?_update_other _ _ (Ne.symm hb)).trans ((Heap.get?_update_other _ _ (Ne.symm hb)).trans e)
 have W:=(hW A.in1 hh).toS
 refine wc ⟨jd F.plain_extend_loop _,codeAny_extend_loopS W (fits_of_scanBound J) _ G _ ns.length 0 _ _ _ rfl (Qh _)
  (W.frame 0 ({s with heap:=h',drawn:=d' }:Shared) _ s.toks U (qv _) λb hb o e=>C b o (λh=>G (h ▸ hb)) e) p (ItemsOf.nil _) λs' d c' q u m=>?_⟩
 show wpAny _ A (load (~~~s)>>=_) _ _ s';refine wa (wpAny_load u ?_);have Y:s'.gens=s.gens:=q.gens;have ed:s'.drawn=d':=q.drawn;have Z:s'.os=s.os:=q.os
 have O:s'={s with heap:=s'.heap,drawn:=d',toks:=s'.toks}:=by
  obtain⟨a1,a2,a3,a4,a5⟩:=s';simp only at Y ed Z;subst Y;subst ed;subst Z;rfl
 rw[O]
 have M:d.toList=k:=by
  refine List.ext_getElem (by rw[qj,m.1,hp.length_eq]) λj N T=>?_;have:=m.2 j d.toList[j] (by rw[<-Array.getElem?_toList,qr N]);have K:k[j]?=some d.toList[j]:=this;rw[qr T]at K;exact(w9 K).symm
 refine wc (hQ s'.heap d' s'.toks d.toList (Nat.le_of_lt (ql u)) (λb L e=>?_) (by rw[M];exact hp));have hb:b< ~~~s:=ql e;refine q.heap b L (λR=>?_) (C b L (qm hb) (f b L (c b L e)));rcases qu R with z|z
 .rw[z]at hb;exact absurd hb (Nat.lt_irrefl _)
 .rw[List.mem_singleton.mp z]at hb
  have:H.objs.size<=I:=hI;rw[r]at this;exact absurd (Qi hb (Qg (Nat.le_succ _) this)) (Nat.lt_irrefl _)
structure SetQ(w:World)(h:Heap)(a:Addr)(us:List (Int×Addr)):Prop where
 ex:∃o es ep t,h.get? a=some o/\o.ExactSet/\o.data=.set es ep t/\es.toList=us.map (λu=>(u.1,Value.ref u.2))/\t.fits es.size=true/\t.mask=7/\t.dummies=#[]/\t.place.toList=us.map (λu=>SetTable.bits u.1%8)/\Tab (dt w) t
def SetQ.keep{h h':Heap}{a:Addr}{us:List (Int×Addr)}(x:SetQ w h a us)(k:∀o,h.get? a=some o->h'.get? a=some o):SetQ w h' a us:=by
 obtain⟨o,c,b,t,d,r⟩:=x.ex;exact⟨o,c,b,t,k o d,r⟩
theorem SetQ.vals{h:Heap}{a:Addr}{us:List (Int×Addr)}(x:SetQ w h a us)(n:us.length<=1):SetV w h a (us.map λu=>Value.ref u.2):=by
 obtain⟨o,i,f,t,j,e,g,b,c,k,m,l,d⟩:=x.ex;refine⟨o,i,f,t,j,e,g,?_,?_,c,d⟩
 .rw[b,Qf]
  rfl
 .rw[<-qj,b,qf]
  have:scanBound=4096:=rfl;lia
theorem yH{S u:Addr}{us:List (Int×Addr)}{p:Int×Bool}{Q:Bool->Shared->Prop}(Y:SetQ w s.heap S us)(W:us.length<=1)(y:PairV s.heap u p)(x:∀q∈us,q.1≠pH p)(T:∀h' vs,Heap.SameBut S s.heap h'->SetV w h' S vs->vs.Perm ((us.map λu=>Value.ref u.2)++[.ref u])->(us=[]->SetQ w h' S [(pH p,u)])->Q true {s with heap:=h' }):wpAny (mZ prog w) A (setAddHashed S (.ref u) (pH p)) Q E s:=by
 obtain⟨o,a,ep,t,J,k,K,D,F,l,f,Z,I⟩:=Y.ex;obtain⟨ou,tk,n,N,P,O⟩:=y
 have e:a.size=us.length:=by rw[<-qj,D,qf]
 have v:t.place.size=a.size:=by
  simp only[SetTable.fits,Qe,beq_iff_eq]at F;exact F.1
 obtain⟨j,G,V,h,B⟩:∃j,t.probe (lD a) (pH p) (t.probeStart (pH p))=some (.empty j none)/\j<8/\(∀i,t.slot j≠.live i)/\(us=[]->j=SetTable.bits (pH p)%8):=by
  generalize pH p=y at x ⊢;rcases us with _|⟨q,_|⟨q2,r⟩⟩
  .have b:t.place=#[]:=Array.size_eq_zero_iff.mp (by rw[v,e];rfl)
   refine⟨_,ND l b f _ _,by lia,λi z=>?_,λ_=>rfl⟩;rw[Hn b f]at z;cases z
  .have b:t.place=#[SetTable.bits q.1%8]:=by
    apply Array.toList_inj.mp;rw[Z];rfl
   have g:a=#[(q.1,.ref q.2)]:=by
    apply Array.toList_inj.mp;rw[D];rfl
   have M:=x q qh
   obtain⟨j,U,L,R⟩:=NF l b f ∅ (hA:=lD a) (h:=y) (by
    rw[g]
    simpa [lD]using M)
   refine⟨j,U,R,λi z=>?_,λz=>by cases z⟩;rw[lC b f,if_neg L]at z;cases z
  .simp at W
 refine yF J K F l f ∅ G N P O ?_;have H:=gK J K (SetTable.insertAt a (SetTable.below t.place j) (pH p,.ref u)) {t with place:=SetTable.insertAt t.place (SetTable.below t.place j) j}
 have e1:(SetTable.insertAt a (SetTable.below t.place j) (pH p,Value.ref u)).size=us.length+1:=by
  rw[<-qj,Ys];simp;lia
 have e2:(SetTable.insertAt t.place (SetTable.below t.place j) j).size=us.length+1:=by
  rw[<-qj,Ys];simp;lia
 have d:({t with place:=SetTable.insertAt t.place (SetTable.below t.place j) j}).fits (us.length+1)=true:=by
  unfold SetTable.fits SetTable.fill;simp only[e2,l,f,Qe,beq_iff_eq,wj];exact⟨trivial,by simp;lia⟩
 have c:Tab (dt w) {t with place:=SetTable.insertAt t.place (SetTable.below t.place j) j}:=⟨I.1,λz=>F6 (I.2 z) j (F7 h)⟩
 have X:scanBound=4096:=rfl;refine T _ _ (wx ..) ⟨_,_,_,_,H,⟨k.1,k.2.1,k.2.2⟩,rfl,rfl,by rw[e1];lia,by rw[e1];exact d,c⟩ ?_ λb=>?_
 .have C:(a.toList.map eC).Perm (us.map λu=>Value.ref u.2):=by
   rw[D,Qf];exact .refl _
  have m:((SetTable.insertAt a (SetTable.below t.place j) (pH p,Value.ref u)).toList).Perm (a.toList++[(pH p,Value.ref u)]):=by
   rw[Ys];refine List.perm_middle.trans ?_;rw[List.take_append_drop];exact List.perm_append_comm (l₁:=[_])
  have:=m.map eC;rw[Qk]at this;exact this.trans (C.append_right _)
 .subst b
  have b:t.place=#[]:=Array.size_eq_zero_iff.mp (by rw[v,e];rfl);have g:a=#[]:=Array.size_eq_zero_iff.mp (by rw[e];rfl);refine⟨_,_,_,_,H,⟨k.1,k.2.1,k.2.2⟩,rfl,?_,by rw[e1];exact d,l,f,?_,c⟩
  .rw[Ys,g]
   simp
  .rw[Ys,b,B rfl]
   simp
def Hr{u:Addr}{p:Int×Bool}{Q:Bool->Shared->Prop}(b:PairV s.heap u p)(h:Q false s):wpAny (mZ prog w) A (ofAClassStatement 8 (.ref u)) Q E s:=by
 obtain⟨o,tk,n,a,c,d⟩:=b;unfold ofAClassStatement;exact wa (wpAny_typeOf (⟨o,a,c⟩) (wa (wc (wa (wpAny_seqItems a d (wc h))))))
def NK{u v:Addr}{p q:Int×Bool}{Q:Bool->Shared->Prop}(b:PairV s.heap u p)(a:PairV s.heap v q)(h:Q false s):wpAny (mZ prog w) A (searchCouldBeSeen (.ref u) [.ref v]) Q E s:=by
 unfold searchCouldBeSeen;simp[carriedByValue];by_cases e:u=v
 .rw[if_pos e]
  exact wa (wc (wa (wc (wc h))))
 .rw[if_neg e]
  exact wa (wa (wpAny_eqIsQuiet_tuple b.key (wa (wpAny_eqIsQuiet_tuple a.key (wa (Hr b (wa (Hr a (wc (wa (wc (wc h))))))))))))
def NL{t:SetTable}{h:Int}(a:t.mask=7)(d:t.place=#[SetTable.bits h%8])(c:t.dummies=#[]){hA:Nat->Int}(b:hA 0=h):∃nx,t.probe hA h (t.probeStart h)=some (.candidate (SetTable.bits h%8) 0 nx):=by
 unfold SetTable.probe;rw[a,yE a];show ∃nx,SetTable.probe.go t hA h (219+1) _=_;rw[SetTable.probe.go,lC d c,if_pos rfl];dsimp only;rw[b,if_pos nofun];exact⟨_,rfl⟩
theorem NM{S u v:Addr}{p:Int×Bool}{h:Int}{o:Obj}{a:Array (Int×Value)}{x:Nat}{t:SetTable}{nx:SetTable.Probe}{j:Nat}{Q:SetFound->Shared->Prop}(b:Nat)(q:A.units<cLine)(n:s.heap.get? S=some o)(k:o.data=.set a x t)(f:t.fits a.size=true)(z:t.mask=7)(c:a=#[(h,.ref v)])(e:t.probe (λi=>(a[i]?.map (·.1)).getD 0) h (t.probeStart h)=some (.candidate j 0 nx))(l:PairV s.heap v p)(m:PairV s.heap u p)(r:Q (.there none) s):wpAny (mZ prog w) A (setSearchFrom S (.ref u) h true (b+1) none) Q E s:=by
 refine wa (wg n k f ?_);dsimp only
 have y:t.gaveWay=false:=by unfold SetTable.gaveWay;rw[z];rfl
 rw[y];show wpAny _ _ (match t.probe (λi=>(a[i]?.map (·.1)).getD 0) h (t.probeStart h)with|some B=>_|_=>_) _ _ _;rw[e];dsimp only
 have g:((a.filter (·.1==h)).toList.map (·.2))=[Value.ref v]:=by
  rw[c];simp
 have d:a[0]?=some (h,.ref v):=by rw[c];rfl
 rw[g,d]
 cases t.led with
 | true=>
   refine wa (wd (wpAny_eqBool_tuple q l.key m.key ?_));rw[wm rfl];exact wa (wg n k f (wc r))
 | false=>
   refine wa (NK m l (wa (wd (wpAny_eqBool_tuple q l.key m.key ?_))));rw[wm rfl];exact wa (wg n k f (wc r))
def NN{S u:Addr}{h:Int}{o:Obj}{c:Array (Int×Value)}{f:Nat}{t:SetTable}{Q:Bool->Shared->Prop}(i:s.heap.get? S=some o)(g:o.data=.set c f t)(e:t.fits c.size=true)(a:∀b:SetFound->Shared->Prop,b (.there none) s->wpAny (mZ prog w) A (setSearch S (.ref u) h true) b E s)(d:Q false s):wpAny (mZ prog w) A (setAddHashed S (.ref u) h) Q E s:=by
 exact wd (wa (wg i g e (wa (a _ (wc d)))))
theorem NO{S u v:Addr}{p:Int×Bool}{d:Int}{Q:Bool->Shared->Prop}(x:A.units<cLine)(l:SetQ w s.heap S [(d,v)])(r:PairV s.heap v p)(C:PairV s.heap u p)(m:Q false s):wpAny (mZ prog w) A (setAddHashed S (.ref u) d) Q E s:=by
 obtain⟨o,g,G,t,j,F,h,z,k,f,y,B,H⟩:=l.ex
 have a:g=#[(d,.ref v)]:=by
  apply Array.toList_inj.mp;rw[z];rfl
 have n:t.place=#[SetTable.bits d%8]:=by
  apply Array.toList_inj.mp;rw[B];rfl
 obtain⟨nx,e⟩:=NL f n y (hA:=λi=>(g[i]?.map (·.1)).getD 0) (by rw[a];rfl);refine NN j h k (λD q=>?_) m;have b:100000=99999+1:=rfl;unfold setSearch;rw[b];generalize 99999=c;exact NM c x j h k f a e r C q
def b7:List Addr->List (Int×Bool)->List Addr
 | [a,c],[b,d]=>if b=d then [a]else [a,c]
 | us,_=>us
theorem NP{l I S:Addr}{us:List Addr}{ps:List (Int×Bool)}{R:Result->Shared->Prop}(hh:A.handled=none)(hu:A.units+2<cLine)(hit:s.heap.IsListIter I l 0)(hl:s.heap.IsList l (us.map Value.ref).toArray)(h2:us.length<=2)(hps:ps.length=us.length)(hp:∀(i:Nat) u p,us[i]?=some u->ps[i]?=some p->PairV s.heap u p)(hd:∀p q,ps=[p,q]->p=q\/pH p≠pH q)(hS:SetQ w s.heap S [])(hIl:l≠I)(hIS:S≠I)(hlS:l≠S)(hIu:∀u∈us,u≠I)(hSu:∀u∈us,u≠S)(hR:∀h' tk vs,SetV w h' S vs->vs.Perm ((b7 us ps).map Value.ref)->(∀b o,b≠S->b≠I->s.heap.get? b=some o->h'.get? b=some o)->R (.ok (.ret .none)) {s with heap:=h',toks:=tk}):
 codeAny (mZ prog w) A (.builtin "set.update.loop" ⟨[.ref S,.ref I],[]⟩) R s:=by
 have lk:∀{h h':Heap}{its:Array Value},h.IsList l its->(∀o,h.get? l=some o->h'.get? l=some o)->h'.IsList l its:=λx k=>let ⟨o,e,r⟩:=x;⟨o,k o e,r⟩;have ik:∀{h h':Heap}{i:Nat},h.IsListIter I l i->(∀o,h.get? I=some o->h'.get? I=some o)->h'.IsListIter I l i:=λx k=>let ⟨o,e,r⟩:=x;⟨o,k o e,r⟩;rcases us with _|⟨u1,_|⟨u2,_|⟨u3,ur⟩⟩⟩
 .refine pe hh hit hl rfl λh1 hs1=>?_
  exact hR h1 s.toks _ ((hS.keep λo e=>hs1 S o hIS e).vals nofun) (.refl _) λb o _ hb e=>hs1 b o hb e
 .rcases ps with _|⟨p1,_|⟨p2,pr⟩⟩
  .simp at hps
  .have hu1:=hp 0 u1 p1 rfl rfl
   refine yG hu hit hl rfl hu1 (hIu u1 nofun) λh1 tk1 hi1 hs1=>?_;refine yH (s:={s with heap:=h1,toks:=tk1}) (hS.keep λo e=>by rw[hs1.2 S hIS];exact e) nofun (hu1.keep λo e=>by rw[hs1.2 u1 (hIu u1 nofun)];exact e) nofun λh2' vs2 hs2 hn2 hp2 ho2=>?_;refine pe hh (ik hi1 λo e=>by rw[hs2.2 I (Ne.symm hIS)];exact e) (lk hl λo e=>by rw[hs2.2 l hlS,hs1.2 l hIl];exact e) rfl λh3 hs3=>?_;refine hR h3 tk1 _ (((ho2 rfl).keep λo e=>hs3 S o hIS e).vals nofun) (.refl _) λb o hb1 hb2 e=>hs3 b o hb2 (by rw[hs2.2 b hb1,hs1.2 b hb2];exact e)
  .simp at hps
 .rcases ps with _|⟨p1,_|⟨p2,_|⟨p3,pr⟩⟩⟩
  .simp at hps
  .simp at hps
  .have hu1:=hp 0 u1 p1 rfl rfl
   have hu2:=hp 1 u2 p2 rfl rfl;have n1:=hIu u1 nofun;have n2:=hIu u2 nofun;have m2:=hSu u2 nofun;refine yG hu hit hl rfl hu1 n1 λh1 tk1 hi1 hs1=>?_;refine yH (s:={s with heap:=h1,toks:=tk1}) (hS.keep λo e=>by rw[hs1.2 S hIS];exact e) nofun (hu1.keep λo e=>by rw[hs1.2 u1 n1];exact e) nofun λh2' vs2 hs2 hn2 hp2 ho2=>?_
   have k2:∀b o,b≠S->b≠I->s.heap.get? b=some o->h2'.get? b=some o:=λb o hb1 hb2 e=>by rw[hs2.2 b hb1,hs1.2 b hb2];exact e
   refine yG (s:={s with heap:=h2',toks:=tk1}) hu (ik hi1 λo e=>by rw[hs2.2 I (Ne.symm hIS)];exact e) (lk hl λo e=>k2 l o hlS hIl e) rfl (hu2.keep λo e=>k2 u2 o m2 n2 e) n2 λh3 tk3 hi3 hs3=>?_
   have k3:∀b o,b≠S->b≠I->s.heap.get? b=some o->h3.get? b=some o:=λb o hb1 hb2 e=>by rw[hs3.2 b hb2];exact k2 b o hb1 hb2 e
   by_cases hpq:p1=p2
   .subst hpq
    refine NO (s:={s with heap:=h3,toks:=tk3}) (v:=u1) (p:=p1) (by show _+1<cLine;lia) ((ho2 rfl).keep λo e=>by rw[hs3.2 S hIS];exact e) (hu1.keep λo e=>k3 u1 o (hSu u1 nofun) n1 e) (hu2.keep λo e=>k3 u2 o m2 n2 e) ?_;refine pe (s:={s with heap:=h3,toks:=tk3}) hh hi3 (lk hl λo e=>k3 l o hlS hIl e) rfl λh5 hs5=>?_;refine hR h5 tk3 _ (((ho2 rfl).keep λo e=>hs5 S o hIS (by rw[hs3.2 S hIS];exact e)).vals nofun) ?_ λb o hb1 hb2 e=>hs5 b o hb2 (k3 b o hb1 hb2 e);rw[b7,if_pos rfl];exact .refl _
   .have hdp:pH p1≠pH p2:=by
     rcases hd p1 p2 rfl with z|z
     .exact absurd z hpq
     .exact z
    refine yH (s:={s with heap:=h3,toks:=tk3}) ((ho2 rfl).keep λo e=>by rw[hs3.2 S hIS];exact e) nofun (hu2.keep λo e=>k3 u2 o m2 n2 e) (λq hq=>?_) λh4 vs4 hs4 hn4 hp4 _=>?_
    .simp only[Qu]at hq
     rw[hq];exact hdp
    .refine pe (s:={s with heap:=h4,toks:=tk3}) hh (ik hi3 λo e=>by rw[hs4.2 I (Ne.symm hIS)];exact e) (lk hl λo e=>by rw[hs4.2 l hlS];exact k3 l o hlS hIl e) rfl λh5 hs5=>?_
     refine hR h5 tk3 vs4 (hn4.at λo e=>hs5 S o hIS e) ?_ λb o hb1 hb2 e=>hs5 b o hb2 (by rw[hs4.2 b hb1];exact k3 b o hb1 hb2 e);rw[b7,if_neg hpq];exact hp4
  .simp at hps
 .simp at h2
theorem NQ{l:Addr}{us:List Addr}{ps:List (Int×Bool)}{Q:AA}(W:A.handled=none)(hu:A.units+8<cLine)(N:s.heap.IsList l (us.map Value.ref).toArray)(Y:us.length<=2)(I:ps.length=us.length)(S:∀(i:Nat) u p,us[i]?=some u->ps[i]?=some p->PairV s.heap u p)(X:∀p q,ps=[p,q]->p=q\/pH p≠pH q)(h:∀(h':Heap) (tk:Nat) vs,SetV w h' (~~~s) vs->vs.Perm ((b7 us ps).map Value.ref)->(∀b o,s.heap.get? b=some o->h'.get? b=some o)->Q (.ref (~~~s)) {s with heap:=h',toks:=tk}):
 wpAny (mZ prog w) A (call (.type "set") [.ref l]) Q E s:=by
 refine wV (Q₁:=λx f=>x=.ref (~~~s)/\f={s with heap:=s.heap.push (bW w)}) F.called_set (F.typeCall_set_1 _) F.entry_set_init (wW _ ⟨rfl,rfl⟩) ?_;rintro x f ⟨rfl,rfl⟩;have M:(s.heap.push (bW w)).get? (~~~s)=some (bW w):=qp _ rfl
 have T:Shared.TypeIs {s with heap:=s.heap.push (bW w)} (.ref (~~~s)) "set":=⟨_,M,rfl⟩
 refine⟨T,λA' E' Q' V=>check_set_init_1 T V,?_⟩
 have r:∀u∈us,u< ~~~s:=λu y=>by
  obtain⟨i,C,e⟩:=List.getElem_of_mem y
  have L:i<ps.length:=by lia
  obtain⟨o,_,_,Z,_⟩:=S i u ps[i] (by rw[qr C,e]) (qr L);exact ql Z
 generalize n:(us.map Value.ref).toArray=a at N;obtain⟨ol,t,m,U,v⟩:=N;obtain⟨O,j,H,d⟩:=ol;simp only at m v;subst m;subst v;have B:(s.heap.push (bW w)).get? l=some {cls:=.type "list",dict:=j,data:=.seq a U,slots:=d}:=qe _ t;have P:=F.sub_list_set;have R:=F.sub_list_frozenset
 have hne:(Value.type "list"==Value.type "dict")=false:=by decide
 have z:(s.heap.push (bW w)).IsList l a:=⟨_,B,rfl,U,rfl⟩
 unfold Builtin.«set.__init__» noKeywords Builtin.Frozenset.updateFrom;generalize J:pyIter=PI
 wp_walk
 subst J;refine wpAny_pyIter_list z ?_;refine wa (wpAny_runValue ?_);have k:l< ~~~s:=ql t;have c:(s.heap.push (bW w)).objs.size= ~~~s+1:=wy ..;have g:((s.heap.push (bW w)).push {cls:=.type "list_iterator",data:=.fields #[.ref l,.int 0 0]}).IsList l a:=z.push _;rw[<-n]at g;refine NP (us:=us) (ps:=ps) (by simp[W]) (by show _+2<cLine;simp;lia) ⟨_,qp _ rfl,rfl,rfl⟩ g Y I (λi u p C D=>(S i u p C D).keep λo e=>qe _ (qe _ e)) X ?_ ?_ ?_ ?_ ?_ ?_ ?_
 .exact⟨bW w,#[],0,_,qe _ M,⟨rfl,rfl,rfl⟩,rfl,rfl,rfl,rfl,rfl,rfl,.fresh⟩
 .rw[c];exact qm (qx k)
 .rw[c];exact qm (Qa _)
 .exact qm k
 .intro u y;rw[c];exact qm (qx (r u y))
 .intro u y;exact qm (r u y)
 .intro h' tk vs hN G K
  show wpAny _ _ _ _ _ _;refine wc ?_;show wpAny _ _ (ret Value.none) _ _ _;refine wc ⟨rfl,h h' tk vs hN G λb o e=>?_⟩;have hb:=ql e;exact K b o (qm hb) (by rw[c];exact qm (qx hb)) (qe _ (qe _ e))
theorem Ht{L:Addr}{vs:AC}{Q:Fin->Shared->Prop}(a:s.heap.get? L=some (seqObj "list" vs.toArray 0))(l:vs.length<2)(k:∀h' e,(∀b o,b≠L->s.heap.get? b=some o->h'.get? b=some o)->h'.get? L=some (seqObj "list" vs.toArray e)->Q (.done (.ret .none)) {s with heap:=h' }):
 wpAny (mZ prog w) A (Builtin.«list.sort» ⟨[.ref L],[]⟩) Q E s:=by
 rw[list_sort_plain];have j:=ql a;refine wa (listItems_at a rfl ?_);refine wa (listUpdate_at a rfl ?_ (by rw[qk,ji];lia) (Qh _))
 obtain⟨e1,f⟩:∃e1,(s.heap.update L (Obj.mapSeq λ_=>#[])).get? L=some (seqObj "list" #[] e1):=⟨_,get?_update_seq a (λ_=>#[])⟩
 refine wa (seqEpoch_at f rfl ?_);refine wa (wpAny_newTuple ?_ (by rw[ji];lia));refine wa (wpAny_newList ?_ (Qh _));refine wd ?_
 have c:(((s.heap.update L (Obj.mapSeq λ_=>#[])).push (seqObj "tuple" vs.toArray 0)).push (seqObj "list" #[] 0)).get? L=some (seqObj "list" #[] e1):=by
  rw[Heap.get?_push_ne _ _ _ (by rw[size_push',Heap.size_update];exact qm (qx j)),Heap.get?_push_ne _ _ _ (by rw[Heap.size_update];exact qm j)];exact f
 have d:∀b o,b≠L->s.heap.get? b=some o->(((s.heap.update L (Obj.mapSeq λ_=>#[])).push (seqObj "tuple" vs.toArray 0)).push (seqObj "list" #[] 0)).get? b=some o:=λb o hb q=>by
  refine qe _ (qe _ ?_);rw[Heap.get?_update_ne _ _ _ _ hb];exact q
 have h:vs.toArray.size<2:=by exact l
 rw[if_pos h,if_pos h];refine wa (wc ?_);refine wa (wc ?_);dsimp only;refine wa (seqEpoch_at c rfl ?_);refine wa (listUpdate_at c rfl ?_ (hsz2:=by rw[Array.size_map];show(PyProof.Rows.pairsOf vs).size<=_;rw[pairsOf_size];lia));simp only[bne_self_eq_false,Qo]
 have i:=by
  show(vs.toArray.zip vs.toArray).map (·.2)=vs.toArray;simp[List.map_snd_zip]
 refine wc ?_;rw[i];exact k _ _ (λb o hb q=>by rw[Heap.get?_update_ne _ _ _ _ hb];exact d b o hb q) (get?_update_seq c (λ_=>vs.toArray))
theorem Hu{L b c:Addr}{i j:Int}{p q:Bool}{t u:Tok}{Q:Fin->Shared->Prop}(f:s.heap.get? L=some (seqObj "list" #[.ref b,.ref c] 0))(hb:IsTup s.heap b #[.int i t,.bool p])(Z:IsTup s.heap c #[.int j u,.bool q])(J:b≠L)(K:c≠L)(T:∀h' e,(∀b o,b≠L->s.heap.get? b=some o->h'.get? b=some o)->h'.get? L=some (seqObj "list" (if bX j q i p=true then #[.ref c,.ref b]else #[.ref b,.ref c]) e)->Q (.done (.ret .none)) {s with heap:=h' }):
 wpAny (mZ prog w) A (Builtin.«list.sort» ⟨[.ref L],[]⟩) Q E s:=by
 obtain⟨vs,g⟩:∃vs,[Value.ref b,Value.ref c]=vs:=⟨_,rfl⟩
 have G:vs.length=2:=by rw[<-g];rfl
 have f:s.heap.get? L=some (seqObj "list" vs.toArray 0):=by rw[<-g];exact f
 rw[list_sort_plain];have O:=ql f;refine wa (listItems_at f rfl ?_);refine wa (listUpdate_at f rfl ?_ (by rw[qk,ji];lia) (Qh _))
 obtain⟨e1,C⟩:∃e1,(s.heap.update L (Obj.mapSeq λ_=>#[])).get? L=some (seqObj "list" #[] e1):=⟨_,get?_update_seq f (λ_=>#[])⟩
 refine wa (seqEpoch_at C rfl ?_);refine wa (wpAny_newTuple ?_ (by rw[ji];lia));refine wa (wpAny_newList ?_ (Qh _));refine wd ?_
 have z:(((s.heap.update L (Obj.mapSeq λ_=>#[])).push (seqObj "tuple" vs.toArray 0)).push (seqObj "list" #[] 0)).get? L=some (seqObj "list" #[] e1):=by
  rw[Heap.get?_push_ne _ _ _ (by rw[size_push',Heap.size_update];exact qm (qx O)),Heap.get?_push_ne _ _ _ (by rw[Heap.size_update];exact qm O)];exact C
 have a:∀b o,b≠L->s.heap.get? b=some o->(((s.heap.update L (Obj.mapSeq λ_=>#[])).push (seqObj "tuple" vs.toArray 0)).push (seqObj "list" #[] 0)).get? b=some o:=λb o hb q=>by
  refine qe _ (qe _ ?_);rw[Heap.get?_update_ne _ _ _ _ hb];exact q
 generalize ((s.heap.update L (Obj.mapSeq λ_=>#[])).push (seqObj "tuple" vs.toArray 0)).push (seqObj "list" #[] 0)=h6 at z a ⊢;generalize l:({s with heap:=h6})=m
 have r:m.heap.get? L=some (seqObj "list" #[] e1):=by rw[<-l];exact z
 have M:IsTup m.heap b #[.int i t,.bool p]:=by
  obtain⟨o,I,D⟩:=hb;exact⟨o,by rw[<-l];exact a b o J I,D⟩
 have N:IsTup m.heap c #[.int j u,.bool q]:=by
  obtain⟨o,I,D⟩:=Z;exact⟨o,by rw[<-l];exact a c o K I,D⟩
 dsimp only
 have F:¬vs.toArray.size<2:=by rw[qk];lia
 rw[if_neg F,if_neg F]
 have R:W.KatTups m.heap vs [.int i t,.int j u]:=by
  obtain⟨ob,b1,b2,n1,b3⟩:=M;obtain⟨oc,U,c2,n2,S⟩:=N;rw[<-g];exact .cons b1 b2 b3 rfl (.cons U c2 S rfl .nil)
 refine wa (W.kat_kind (T:=.type "int") R (qx (Qa 0)) (λv y=>?_) (by decide) ?_)
 .rcases qu y with rfl|y
  .exact .of_pure rfl
  .rcases qu y with rfl|y
   .exact .of_pure rfl
   .cases y
 have H:wpAny (mZ prog w) A (keyLt' (tuples' true) (vs.getD 1 Value.none) (vs.getD 0 Value.none)) (λk s'=>k=bX j q i p/\s'=m) (λ_ _=>False) m:=by
  rw[<-g];exact GN M N ⟨rfl,rfl⟩
 refine wa (w6 (W.kat_run (ks:=vs) (vs:=vs) (G:=λP s'=>s'=m/\P=if bX j q i p=true then #[1,0]else #[0,1])
  (Q:=λh s'=>s'=m/\failedOf h=none/\(arrOf h).map (·.2)=if bX j q i p=true then #[.ref c,.ref b]else #[.ref b,.ref c]) rfl ∅ ∅ (λP h s' I D V X=>?_) ?_) ?_ λ_ _ e=>e)
 .obtain⟨rfl,rfl⟩:=X
  refine⟨rfl,V,?_⟩;rw[W.kat_snds rfl D,<-g];cases bX j q i p<;>rfl
 .rw[G]
  refine GO ?_;refine w6 H (λk s' Y=>?_) λ_ _ x=>x;obtain⟨rfl,rfl⟩:=Y;cases bX j q i p
  .exact⟨rfl,rfl⟩
  .exact⟨rfl,rfl⟩
 rintro⟨⟨⟩,h⟩ s' ⟨rfl,d,n⟩;dsimp only;refine wa (seqEpoch_at r rfl ?_);refine wa (listUpdate_at r rfl ?_ (Qh _) (by rw[n,ji];cases bX j q i p<;>exact(by decide:2<=16777216+1)));rw[d];simp only[bne_self_eq_false,Qo,if_false];refine wc ?_;rw[n];have B:=get?_update_seq r (λ_=>if bX j q i p=true then #[Value.ref c,Value.ref b]else #[Value.ref b,Value.ref c]);subst l;exact T _ _ (λb o hb q=>by rw[Heap.get?_update_ne _ _ _ _ hb];exact a b o hb q) B
def c9:List Addr->List (Int×Bool)->List Addr
 | [b,c],[a,d]=>if bX d.1 d.2 a.1 a.2=true then [c,b]else [b,c]
 | us,_=>us
theorem NR{d a:Int×Bool}(h:d≠a):bX d.1 d.2 a.1 a.2=!bX a.1 a.2 d.1 d.2:=by
 obtain⟨i,b⟩:=d;obtain⟨j,c⟩:=a;unfold bX;dsimp only;by_cases e:i=j
 .subst e
  have f:b≠c:=λz=>h (by rw[z]);rw[if_pos rfl,if_pos rfl]
  cases b<;>cases c<;>first|rfl|exact absurd rfl f
 .rw[if_neg e,if_neg (λz=>e z.symm)]
  by_cases k:i<j
  .have g:¬j<i:=by lia
   simp[k,g]
  .have g:j<i:=by lia
   simp[k,g]
def PairV.tup{h:Heap}{u:Addr}{p:Int×Bool}(x:PairV h u p):∃tk,IsTup h u #[.int p.1 tk,.bool p.2]:=by
 obtain⟨o,tk,n,a,c,b⟩:=x;exact⟨tk,o,a,c,n,b⟩
theorem NS{L:Addr}{a:AC}{us:List Addr}{ps:List (Int×Bool)}{Q:Fin->Shared->Prop}(d:s.heap.get? L=some (seqObj "list" a.toArray 0))(c:a.Perm (us.map Value.ref))(K:us.length<=2)(h:ps.length=us.length)(J:∀(i:Nat) u p,us[i]?=some u->ps[i]?=some p->PairV s.heap u p)(D:∀p q,ps=[p,q]->p≠q)(G:∀u∈us,u≠L)(B:∀h' e,(∀b o,b≠L->s.heap.get? b=some o->h'.get? b=some o)->h'.get? L=some (seqObj "list" ((c9 us ps).map Value.ref).toArray e)->Q (.done (.ret .none)) {s with heap:=h' }):
 wpAny (mZ prog w) A (Builtin.«list.sort» ⟨[.ref L],[]⟩) Q E s:=by
 rcases us with _|⟨l,_|⟨m,_|⟨R,M⟩⟩⟩
 .have e:=List.perm_nil.mp c
  subst e;refine Ht d nofun λh' e f g=>B h' e f ?_;rw[g];rfl
 .have e:=List.perm_singleton.mp c
  subst e;refine Ht d nofun λh' e f g=>B h' e f ?_;rw[g];rfl
 .rcases ps with _|⟨k,_|⟨j,_|⟨O,P⟩⟩⟩
  .simp at h
  .simp at h
  .obtain⟨N,n⟩:=(J 0 l k rfl rfl).tup
   obtain⟨S,v⟩:=(J 1 m j rfl rfl).tup;have F:=G l nofun;have I:=G m nofun
   have t:a=[.ref l,.ref m]\/a=[.ref m,.ref l]:=by
    have C:a.length=2:=c.length_eq
    obtain⟨x,y,rfl⟩:∃x y,a=[x,y]:=by
     rcases a with _|⟨x,_|⟨y,_|⟨z,r⟩⟩⟩
     .simp at C
     .simp at C
     .exact⟨x,y,rfl⟩
     .simp at C
    have H:x∈[Value.ref l,Value.ref m]:=c.mem_iff.mp nofun;simp [or_false]at H;rcases H with rfl|rfl
    .left
     have:=c.cons_inv;rw[List.perm_singleton.mp this]
    .right
     have:=(c.trans (.swap _ _ _)).cons_inv;rw[List.perm_singleton.mp this]
   rcases t with rfl|rfl
   .refine Hu d n v F I λh' e f g=>B h' e f ?_
    rw[g,c9];cases bX j.1 j.2 k.1 k.2<;>rfl
   .refine Hu d v n I F λh' e f g=>B h' e f ?_
    rw[g,c9,NR (D k j rfl)];cases bX j.1 j.2 k.1 k.2<;>rfl
  .simp at h
 .simp at K
theorem NT{a:Addr}{vs:AC}{us:List Addr}{ps:List (Int×Bool)}(D:A.handled=none)(H:SetV w s.heap a vs)(m:vs.Perm (us.map Value.ref))(B:us.length<=2)(v:ps.length=us.length)(z:∀(i:Nat) u p,us[i]?=some u->ps[i]?=some p->PairV s.heap u p)(k:∀p q,ps=[p,q]->p≠q){Q:AA}(G:∀(h':Heap) (d':Drawn) (tk e:Nat) (p:Addr),(∀b o,s.heap.get? b=some o->h'.get? b=some o)->(~~~s)<=p->h'.get? p=some (seqObj "list" ((c9 us ps).map Value.ref).toArray e)->Q (.ref p) {s with heap:=h',drawn:=d',toks:=tk}):
 wpAny (mZ prog w) A (call (.builtin "sorted") [.ref a]) Q E s:=by
 refine Calls.call_function_entry kind_sorted plain_sorted entry_sorted (args_sorted1 _) (wa (wc (wa (NJ (A:=A.in1) D H λh' d' tk d g keep r=>?_))));have h:=r.trans m
 have J:d.length<=2:=by rw[h.length_eq,qf];exact B
 refine wa (wpAny_newList ?_ (by rw[ji];lia));have f:(h'.push (seqObj "list" d.toArray 0)).get? h'.objs.size=some (seqObj "list" d.toArray 0):=qp _ rfl
 have j:∀u∈us,u< ~~~s:=λu x=>by
  obtain⟨i,n,e⟩:=List.getElem_of_mem x
  have c:i<ps.length:=by lia
  obtain⟨o,_,_,F,_⟩:=z i u ps[i] (by rw[qr n,e]) (qr c);exact ql F
 exact wa (wd (we slot_list_sort ⟨_,f,rfl⟩ entry_list_sort (NS f h B v (λi u p n c=>(z i u p n c).keep λo e=>qe _ (keep u o e)) k (λu x=>qm (Qi (j u x) g)) λt e I C=>⟨_,rfl,(wc ⟨_,rfl,G t d' tk e h'.objs.size (λb o y=>(I b o (qm (ql (keep b o y))) (qe _ (keep b o y)))) g C⟩)⟩) (args_list_sort _)))
end
def dP:AR->Option (List (Int×Bool))
 | []=>some []
 | d::l=>(jP d).bind λx=>(dP l).map (x::·)
def yI{K:W7}{G:Hp}{d:D}{p:Int×Bool}{x:V}(h:jP d=some p)(e:Rp K G d x):∃b,x=.ref b/\G b=some (.tup [.int p.1,.bl p.2]):=by
 rw[xV h]at e;obtain⟨b,ys,rfl,hb,a⟩:=e;obtain⟨k,g,rfl,f,a⟩:=a;obtain⟨j,g,rfl,i,a⟩:=a;subst a;subst f;subst i;exact⟨b,rfl,hb⟩
def NU{d:D}{l:AR}{ps:List (Int×Bool)}(e:dP (d::l)=some ps):∃p a,ps=p::a/\jP d=some p/\dP l=some a:=by
 obtain⟨x,b,g⟩:=qa e;obtain⟨y,f,c⟩:=qc g;exact⟨x,y,c.symm,b,f⟩
def gj(w:World)(p:Addr)(vs:AC):HO:=.ext λh=>SetV w h p vs
def yJ{P:P7}{w:World}{H:Hp}{h:Heap}{p:Addr}{vs:AC}(x:SetV w h p vs):ObjOk P w H h p (gj w p vs):=by
 refine⟨x,?_,λc b e k=>e.at k⟩;obtain⟨o,_,_,_,a,_⟩:=x;exact⟨o,a⟩
def PrsA(H:Hp)(c:List Addr)(a:List (Int×Bool)):Prop:=a.length=c.length/\∀(i:Nat) b q,c[i]?=some b->a[i]?=some q->H b=some (.tup [.int q.1,.bl q.2])
def dz:List (Int×Bool)->List (Int×Bool)
 | [a,b]=>if a=b then [a]else [a,b]
 | ps=>ps
theorem PrsA.once{H:Hp}{c:List Addr}{a:List (Int×Bool)}(x:PrsA H c a)(j:a.length<=2):PrsA H (b7 c a) (dz a)/\(b7 c a).length<=2/\∀p q,dz a=[p,q]->p≠q:=by
 obtain⟨d,f⟩:=x;rcases a with _|⟨k,_|⟨l,_|⟨n,o⟩⟩⟩
 .rcases c with _|⟨b1,g⟩
  .exact⟨⟨rfl,λi b q h=>by simp[b7]at h⟩,by simp[b7],λp q z=>by simp[dz]at z⟩
  .simp at d
 .rcases c with _|⟨b1,_|⟨b2,g⟩⟩
  .simp at d
  .exact⟨⟨rfl,f⟩,by simp[b7],λp q z=>by simp[dz]at z⟩
  .simp at d
 .rcases c with _|⟨b1,_|⟨b2,_|⟨b3,g⟩⟩⟩
  .simp at d
  .simp at d
  .by_cases e:k=l
   .subst e
    simp only[b7,dz,if_true];refine⟨⟨rfl,λi b q hb m=>?_⟩,by simp,λp q z=>by simp at z⟩
    cases i with
    | zero=>exact f 0 b q hb m
    | succ i=>simp at hb
   .simp only[b7,dz,if_neg e]
    refine⟨⟨rfl,f⟩,by simp,λp q z=>?_⟩;simp at z;rw[<-z.1,<-z.2];exact e
  .simp at d
 .simp at j
def yK(K:W7)(w:World):AQ->Hp->VK->Prop:=λxs H Q=>∃a d b,xs=[.ref a]/\SqL K H a (d.map V.ref)/\PrsA H d b/\b.length<=2/\(∀p q,b=[p,q]->p=q\/pH p≠pH q)/\
 ∀p vs,H p=none->vs.Perm ((b7 d b).map Value.ref)->Q (.ref p) (upd H p (gj w p vs))
def yL(w:World):AQ->Hp->VK->Prop:=λxs H Q=>∃a vs b c,xs=[.ref a]/\H a=some (gj w a vs)/\vs.Perm (b.map Value.ref)/\PrsA H b c/\b.length<=2/\(∀p q,c=[p,q]->p≠q)/\
 ∀p,H p=none->Q (.ref p) (upd H p (.lst ((c9 b c).map V.ref)))
def Hv{pins:AB}{s:Shared}{σ:L2.St}{H:Hp}(I:Inv X pins σ H s){a:List Addr}{c:List (Int×Bool)}(x:PrsA H a c)(i:Nat)(u:Addr)(p:Int×Bool)(h:a[i]?=some u)(d:c[i]?=some p):PairV s.heap u p:=by
 obtain⟨b,f,⟨o,e,j,n,l⟩,_⟩:=I.tuple (.of (x.2 i u p h d))
 cases f with
 | cons k q=>
   cases q with
   | cons m g=>
     cases g;obtain⟨t,rfl⟩:=k;cases m;exact⟨o,t,n,e,j,l⟩
theorem Hw:∀{a:List Addr}{its:AC},Vals (a.map V.ref) its->its=a.map Value.ref
 | [],_,r=>by cases r;rfl
 | b::a,_,r=>by
   cases r with
   | cons c d=>
     cases c;rw[Hw d];rfl
theorem Hx:∀a:List Addr,Vals (a.map V.ref) (a.map Value.ref)
 | []=>.nil
 | b::a=>.cons rfl (Hx a)
theorem NV(g:X.calm=true)(p:X.A.units+64<cLine):dn X (.type "set") (yK X.K X.w):=by
 intro pins s σ H xs us Q I r h;obtain⟨a,n,o,rfl,j,b,k,i,q⟩:=h;obtain⟨u,rfl,e⟩:=eB r;cases e;obtain⟨its,f,pl,m⟩:=I.list j;cases Hw f
 exact NQ (I.ok.hd g) ∅ pl.isList (by rw[<-b.1];exact k) b.1 (Hv I b) i λh' tk vs d c l=>(⟨.ref (~~~s),_,I.laid l (qv _) (yJ d),rfl,q _ vs (I.hok.fresh (qv _)) c⟩)
theorem NW(o:X.calm=true):dn X (.builtin "sorted") (yL X.w):=by
 intro pins s σ H xs us Q I r h;obtain⟨a,vs,g,i,rfl,l,f,c,j,d,q⟩:=h;obtain⟨u,rfl,m⟩:=eB r;cases m
 refine NT (I.ok.hd o) ((I.hok a _ l).1) f j c.1 (Hv I c) d λh' d' tk e p b k n=>(⟨.ref p,_,Inv.laid (I.dr d') b k (show ObjOk X.prog X.w _ _ _ (.lst ((c9 g i).map V.ref)) from⟨?_,_,e,Hx _,n⟩),rfl,q _ (I.hok.fresh k)⟩)
 have:(c9 g i).length<=2:=by
  unfold c9
  split
  .split<;>simp
  .exact j
 rw[qf,ji];lia
def iN(l:AR):Option AR:=(dP l).bind λps=>match l,ps with
 | [],[]=>some []
 | [d],[_]=>some [d]
 | [c,e],[b,a]=>if b=a then some [c]else if pH b≠pH a then some (if bX a.1 a.2 b.1 b.2=true then [e,c]else [c,e])else none
 | _,_=>none
theorem Hy{K:W7}{G H:Hp}(s:Same G H):∀{l:AR}{ps:List (Int×Bool)}{xs:AQ},dP l=some ps->RpL K G l xs->∃a,xs=a.map V.ref/\PrsA H a ps
 | [],ps,xs,e,r=>by
   cases e;subst r;exact⟨[],rfl,rfl,λi b q h=>by simp at h⟩
 | d::l,ps,xs,e,r=>by
   obtain⟨p,t,rfl,h0,u⟩:=NU e;obtain⟨x,w,rfl,o,v⟩:=r;obtain⟨a,rfl,m,n⟩:=Hy s u v;obtain⟨b,rfl,hb⟩:=yI h0 o;refine⟨b::a,rfl,by simp[m],λj c q g f=>?_⟩
   cases j with
   | zero=>
     simp at g f;subst g f;exact s _ _ hb
   | succ j=>exact n j c q (by simpa using g) (by simpa using f)
theorem NX{K:W7}{G:Hp}{l j:AR}{a:List Addr}{ps:List (Int×Bool)}(h:iN l=some j)(d:dP l=some ps)(r:RpL K G l (a.map V.ref)):
 ps.length<=2/\(∀p q,ps=[p,q]->p=q\/pH p≠pH q)/\RpL K G j ((c9 (b7 a ps) (dz ps)).map V.ref):=by
 unfold iN at h;rw[d,qd]at h
 split at h
 .cases h
  rcases a with _|⟨b1,g⟩
  .exact⟨by simp,λp q z=>by simp at z,r⟩
  .have:=r.length
   simp at this
 .cases h
  rcases a with _|⟨b1,_|⟨b2,g⟩⟩
  .have:=r.length
   simp at this
  .exact⟨by simp,λp q z=>by simp at z,r⟩
  .have:=r.length
   simp at this
 .rename_i s w o m
  rcases a with _|⟨b1,_|⟨b2,_|⟨b3,g⟩⟩⟩
  .have:=r.length
   simp at this
  .have:=r.length
   simp at this
  .have b:=r
   obtain⟨u,v,e1,c,b⟩:=b;obtain⟨t,k,e2,i,b⟩:=b;cases e1;cases e2;by_cases e:o=m
   .rw[if_pos e]at h
    cases h;refine⟨by simp,λp q z=>?_,?_⟩
    .simp at z
     exact .inl (by rw[<-z.1,<-z.2];exact e)
    .simp [b7,if_pos e]
     exact .one c
   .rw[if_neg e]at h
    split at h
    case isFalse=>cases h
    rename_i n;cases h;refine⟨by simp,λp q z=>?_,?_⟩
    .simp at z
     exact .inr (by rw[<-z.1,<-z.2];exact n)
    .simp [b7,dz,if_neg e,c9]
     split
     .exact .cons i (.one c)
     .exact .cons c (.one i)
  .have:=r.length
   simp at this
 .cases h
section
variable {e:Expr}{f:AW}{p p2:Pos}
def gk:D->Option AR
 | .lst l=>some l
 | _=>none
def yM(f:AW):AX:=λρ=>(b1 f gk ρ).bind iN
@[simp] theorem gQ{ρ:Ro}:yM f ρ=((f ρ).bind gk).bind iN:=lA rfl
@[simp] theorem lG(l:AR):gk (.lst l)=some l:=lA rfl
end
def yN(mask:Nat)(p:SetTable.Probe):SetTable.Probe:=SetTable.advance {mask:=mask,place:=#[],dummies:=#[],finger:=0,led:=false,moves:=0,plain:=false} p
def yO(mask:Nat):Nat->SetTable.Probe->SetTable.Probe
 | 0,p=>p
 | k+1,p=>yO mask k (yN mask p)
def NY(mask i perturb:Nat):SetTable.Probe:={j:=i,more:=SetTable.runEnd mask i-i,i,perturb,dummy:=none}
def NZ(mask:Nat)(a:Nat->Prop)(p:SetTable.Probe)(j:Nat):Prop:=∃k,(yO mask k p).j=j/\∀m,m<k->a (yO mask m p).j
abbrev N0(mask:Nat)(h:Int):SetTable.Probe:=NY mask (SetTable.bits h%(mask+1)) (SetTable.bits h)
section
variable {t:SetTable}{hA:Nat->Int}{h:Int}
structure lH(t:SetTable)(n:Nat):Prop where
 hs:t.mask+1∈sizes
 dm:t.dummies=#[]
 rise:bY t.place
 le:∀j∈t.place.toList,j<=t.mask
 sz:t.place.size=n
 room:n<=t.mask
end
def bI(b:Bool):Int:=if b then 1 else 0
def bH(a:AH):Int:=ir (a.map bI)
def yP(h:Heap)(u:Addr)(a:AH):Prop:=a.length<=4/\∃o n,h.get? u=some o/\o.cls=.type "tuple"/\o.data=.seq (a.map .bool).toArray n
structure N1(w:World)(h:Heap)(S:Addr)(us:List (Addr×AH)):Prop where
 ex:∃o es ep t,h.get? S=some o/\o.ExactSet/\o.data=.set es ep t/\es.toList.Perm (us.map λu=>(bH u.2,Value.ref u.1))/\t.fits es.size=true/\lH t es.size/\Tab (dt w) t/\es.size*5<t.mask*3/\∀q∈es.toList.zip t.place.toList,NZ t.mask (·∈t.place.toList) (N0 t.mask q.1.1) q.2
 keys:(us.map (·.2)).Nodup
 tups:∀u∈us,yP h u.1 u.2
 few:us.length<=24
section
variable {n:Nat}{key:Nat->Nat}{cmp:Nat->Nat->(Bool->Shared->Prop)->Shared->Prop}
variable (hinj:∀i j,i<n->j<n->key i=key j->i=j)(hc:∀i j (C:Bool->Shared->Prop),i<n->j<n->C (decide (key i<key j)) s->cmp i j C s)
include hinj hc
omit hinj hc in
omit hinj hc in
omit hinj hc in
end
section
variable {e:Expr}{f:AW}{p p2:Pos}
def iO(f:AW):AT:=λa=>(f a).map λ_=>.nx a
@[simp] theorem pf{ρ:Ro}:iO f ρ=(f ρ).map λ_=>.nx ρ:=lA rfl
end
structure ZE(X:Cx)(e:Expr)(f:AW):Prop where
 un:ME X e f
structure ZC(X:Cx)(e:Expr)(f:AW):Prop where
 un:MC X e f
structure gR(X:Cx)(es:AL)(f:AX):Prop where
 un:oE X es f
structure ZF(X:Cx)(e:Expr)(f:AX):Prop where
 un:MF X e f
structure ZT(X:Cx)(e:Expr)(f:AV):Prop where
 un:MT X e f
structure ZW(X:Cx)(e:Expr)(f:AV):Prop where
 un:MW X e f
structure ZA(X:Cx)(es:AL)(f:AX):Prop where
 un:MA X es f
structure ZI(X:Cx)(tg iter:Expr)(f:AX):Prop where
 un:MI X tg iter f
structure ZS(X:Cx)(st:Stmt)(f:AT):Prop where
 un:MS X st f
structure ZB(X:Cx)(sts:List Stmt)(f:AT):Prop where
 un:MB X sts f
structure ZG(X:Cx)(tg:Expr)(gt:AU):Prop where
 un:MG X tg gt
structure fB(X:Cx)(K:W7)(ifs:AL)(f:AV):Prop where
 un:dJ X ifs (tTof K f)
structure ZO(X:Cx)(e:Option Expr)(f:Option AW):Prop where
 un:PO X e (tO X.K f)
structure ZP(X:Cx)(pos:Pos)(keys:List (Option Expr))(values:AL)(ks:AK)(fs:List AW):Prop where
 un:MP X pos keys values ks fs
section
variable {H G:Hp}{σ:L2.St}{ρ:Ro}{a b c e:Expr}{fb fc f:AW}{ga:AX}
def yQ(h:ZE X e f):ZC X e f:=⟨ME.mc h.un⟩
theorem lI(i:Nat)(n:X.N[i]?=some x:=by rfl)(k:eZ X.env.scope x:=by trivial)(l:cj x:=by decide)(g:fM x:=by decide):ZE X (.Name x pos) (ab i):=⟨
 PE.imp (fU n k l g) λc H Q j=>by
  obtain⟨f,d,b,a,G,e,s,h⟩:=j;obtain⟨v,o,m⟩:=s.sh i d (Mv e)
  exact⟨v,o,h v H G (.refl s.seen) m⟩⟩
theorem ph(i:Nat)(r:X.N[i]?=some x:=by rfl)(w:eZ X.env.scope x:=by trivial)(z:cj x:=by decide)(m:fM x:=by decide):ZC X (.Name x pos) (aa i):=⟨
 PE.imp (fU r w z m) λD H Q o=>by
  obtain⟨E,d,F,B,G,e,s,h⟩:=o;unfold aa at e
  split at e
  .rename_i C k
   cases e;obtain⟨v,g,j⟩:=s.sh i _ k;exact⟨v,g,h v H G (.refl s.seen) (.of s.seen j)⟩
  .rename_i l n
   cases e;obtain⟨a,c,g,j,y,p,q⟩:=s.ow i l n;exact⟨_,g,h _ H G (.refl s.seen) (⟨a,c,rfl,.inl p,q⟩)⟩
  .rename_i t f b n
   cases e;obtain⟨a,u,A,g,j,y,p,q⟩:=s.od i t f b n;exact⟨_,g,h _ H G (.refl s.seen) (by rw[Ct];symm)⟩
  .cases e⟩
def yR{j}:ZE X (.Constant (.int i) j pos) (Zb i):=⟨xb⟩
def yS{j}:ZE X (.Constant (.bool k) j pos) (kD (.bl k)):=⟨xc⟩
def yT{j}:ZE X (.Constant .none j pos) (kD .non):=⟨xf⟩
theorem yU{j}(g:PyData.strOk x=true:=by decide +kernel):ZE X (.Constant (.str x) j pos) (kD (.str x)):=⟨k8 tV (λ_ _ _ q=>q) λ_=>by rw[Rp];symm⟩
def Hz(d:ZC X a fa)(c:ZC X b fb):ZE X (.BinOp a .Sub b pos) (b2 fa fb cY):=⟨have d:=d.un;have c:=c.un;jL vp Gp d c⟩
def yV(d:ZC X a fa)(c:ZC X b fb):ZE X (.BinOp a .Mult b pos) (b2 fa fb d_):=⟨have d:=d.un;have c:=c.un;jL vq (oN λi j h=>by
 simp only[Bool.or_eq_true,Qe,wj]at h
 exact h) d c⟩
def yW(d:ZC X a fa)(c:ZC X b fb):ZE X (.BinOp a .FloorDiv b pos) (b2 fa fb bp):=⟨have d:=d.un;have c:=c.un;jL vt (oN λi j h=>by
 simp [wj]at h
 exact h) d c⟩
def yX(d:ZC X a fa)(c:ZC X b fb):ZE X (.BinOp a .Mod b pos) (b2 fa fb az):=⟨have d:=d.un;have c:=c.un;jL vu (oN λi j h=>wu h) d c⟩
def yY(d:ZC X a fa)(hb:ZC X b fb):ZE X (.Compare a [.Lt] [b] pos) (mB (b2 fa fb fZ)):=⟨have d:=d.un;have hb:=hb.un;iu h9 iw d hb (eH _)⟩
def yZ(ha:ZC X a fa)(hb:ZC X b fb):ZE X (.Compare a [.Gt] [b] pos) (mB (b2 fa fb ix)):=⟨have ha:=ha.un;have hb:=hb.un;iu kK iw ha hb (eH _)⟩
def y_(d:ZC X a fa)(c:ZC X b fb):ZE X (.Compare a [.GtE] [b] pos) (mB (b2 fa fb xi)):=⟨have d:=d.un;have c:=c.un;iu vy iw d c (eH _)⟩
def za(d:ZC X a fa)(c:ZC X b fb):ZT X (.Compare a [.Lt] [b] pos) (b2 fa fb fZ):=⟨have d:=d.un;have c:=c.un;fY h9 iw d c (eH _)⟩
def zb(d:ZC X a fa)(c:ZC X b fb):ZT X (.Compare a [.Gt] [b] pos) (b2 fa fb ix):=⟨have d:=d.un;have c:=c.un;fY kK iw d c (eH _)⟩
def zc(g:X.A.units+64<cLine)(d:ZC X a fa)(c:ZC X b fb):ZE X (.Compare a [.Eq] [b] pos) (mB (b2 fa fb (au false))):=⟨have d:=d.un;have c:=c.un;iu (Gs g) oO d c (eH _)⟩
def zd(g:X.A.units+64<cLine)(d:ZC X a fa)(c:ZC X b fb):ZE X (.Compare a [.NotEq] [b] pos) (mB (b2 fa fb (au true))):=⟨have d:=d.un;have c:=c.un;iu (Gu g) oO d c (eH _)⟩
def ze(g:X.A.units+64<cLine)(d:ZC X a fa)(c:ZC X b fb):ZT X (.Compare a [.Eq] [b] pos) (b2 fa fb (au false)):=⟨have d:=d.un;have c:=c.un;fY (Gs g) oO d c (eH _)⟩
def zf(g:X.A.units+64<cLine)(d:ZC X a fa)(c:ZC X b fb):ZT X (.Compare a [.NotEq] [b] pos) (b2 fa fb (au true)):=⟨have d:=d.un;have c:=c.un;fY (Gu g) oO d c (eH _)⟩
def zg(g:X.A.units+64<cLine)(d:ZC X a fa)(c:ZC X b fb)(h:behindInMarks .In b=false:=by with_unfolding_all rfl):ZE X (.Compare a [.In] [b] pos) (mB (b2 fa fb (cG false))):=⟨have d:=d.un;have c:=c.un;iu (Gv g) xm d c h⟩
def zh(g:X.A.units+64<cLine)(d:ZC X a fa)(c:ZC X b fb)(h:behindInMarks .In b=false:=by with_unfolding_all rfl):ZT X (.Compare a [.In] [b] pos) (b2 fa fb (cG false)):=⟨have d:=d.un;have c:=c.un;fY (Gv g) xm d c h⟩
def zi(g:X.A.units+64<cLine)(d:ZC X a fa)(c:ZC X b fb)(h:behindInMarks .NotIn b=false:=by with_unfolding_all rfl):ZT X (.Compare a [.NotIn] [b] pos) (b2 fa fb (cG true)):=⟨have d:=d.un;have c:=c.un;fY (Mx g) xm d c h⟩
end
section
variable {a b c e:Expr}{fb f fe:AW}{fc:AV}{ga:AX}{p pt:Pos}{x:Str}{id T:String}{r:AQ->Hp->VK->Prop}{g:AR->Option D}{gf:AR->Option AR}{fs gs:AT}{N:AK}{src:List AN}{gt:AU}{P:P7}{w:World}
def zj(j:ZC X a fa)(o:∀i,isTrue a X.env i=(do let v <-i;standAt a.pos;holding [v] (truthy v)):=by intro _;rfl):ZT X a (b1 fa aN):=⟨have j:=j.un;
 PT.imp (LD j o) λc H Q l=>by
  obtain⟨b,k,A,B,G,e,s,h⟩:=l;obtain⟨d,t,u⟩:=dM e
  exact tCof.at t s λv y m n q z=>⟨k,xn u q,h y m n⟩⟩
def N2(d:ZT X a fc):ZW X (.BoolOp .And [a] pos) fc:=⟨have d:=d.un;t4 d⟩
def zk(d:ZT X a fc):ZW X (.BoolOp .Or [a] pos) fc:=⟨have d:=d.un;t5 d⟩
def zl(d:ZT X a fc)(c:ZW X (.BoolOp .And (b::rest) pos) fd):ZW X (.BoolOp .And (a::b::rest) pos) (cM fc fd):=⟨have d:=d.un;have c:=c.un;PW.imp (t6 d c) λ_ _ _ h=>xo h⟩
def zm(d:ZT X a fc)(c:ZW X (.BoolOp .Or (b::rest) pos) fd):ZW X (.BoolOp .Or (a::b::rest) pos) (ec fc fd):=⟨have d:=d.un;have c:=c.un;PW.imp (t7 d c) λ_ _ _ h=>xp h⟩
def zo(i:ZT X a fc):ZT X (.UnaryOp .Not a pos) (bL fc):=⟨have i:=i.un;PT.imp (t8 i) λc H Q d=>by
 obtain⟨b,k,t,q,G,e,s,h⟩:=d;obtain⟨o,j,rfl⟩:=qc e
 exact tTof.at j s λm n l _=>h m n l⟩
def N3(d:ZE X a fa):ZE X (.BoolOp .And [a] pos) fa:=⟨have d:=d.un;uA d⟩
def zp(j:ZE X a fa)(c:ZE X (.BoolOp .And (b::rest) pos) fb):ZE X (.BoolOp .And (a::b::rest) pos) (b_ fa fb):=⟨have j:=j.un;have c:=c.un;PE.imp (uB j c) λg H Q i=>by
 obtain⟨f,d,F,I,G,e,s,h⟩:=i;obtain⟨k,A,e⟩:=qa e;obtain⟨E,y,q⟩:=dM A;cases Gw q
 refine tOf.at y s λv C m l t n=>⟨k,t,?_⟩
 cases k with
 | true=>
   exact tOf.at e n λw u B z o _=>h w u B (l.trans z) o
 | false=>
   cases e
   exact h _ C m l (by rw[Rp])⟩
def zq(j:ZE X a fa):ZE X (.UnaryOp .Not a pos) (cZ fa):=⟨have j:=j.un;PE.imp (uC j) λc H Q i=>by
 obtain⟨b,d,y,B,G,e,s,h⟩:=i;obtain⟨k,u,rfl⟩:=qc e;obtain⟨A,q,m⟩:=dM u;cases Gw m
 exact tOf.at q s λv t l n o z=>⟨k,o,h _ t l n (by rw[Rp])⟩⟩
def zr(m:ZT X c fc)(i:ZE X a fa)(f:ZE X b fb):ZE X (.IfExp c a b pos) (iC fc fa fb):=⟨have m:=m.un;have i:=i.un;have f:=f.un;PE.imp (Lp m i f) λp H Q q=>by
 obtain⟨g,d,y,B,G,e,s,h⟩:=q;obtain⟨k,v,e⟩:=qa e;refine tTof.at v s λz A u t=>?_
 cases k with
 | true=>
   exact tOf.at e t λw j n o l _=>h w j n (u.trans o) l
 | false=>
   exact tOf.at e t λw j n o l _=>h w j n (u.trans o) l⟩
def N4(d:ZC X a fa)(c:ZC X b fb):ZE X (.Compare a [.IsNot] [b] pos) (mB (b2 fa fb (cw true))):=⟨have d:=d.un;have c:=c.un;iu Fx Gy d c (eH _)⟩
def zt(d:ZC X a fa)(c:ZC X b fb):ZT X (.Compare a [.Is] [b] pos) (b2 fa fb (cw false)):=⟨have d:=d.un;have c:=c.un;fY vz xq d c (eH _)⟩
def N5(d:ZC X a fa)(c:ZC X b fb):ZT X (.Compare a [.IsNot] [b] pos) (b2 fa fb (cw true)):=⟨have d:=d.un;have c:=c.un;fY Fx Gy d c (eH _)⟩
def N6(d:ZC X a fa)(hb:ZC X b fb)(hs:v7 b:=by intro _ _;rfl):ZE X (.Subscript a b pos) (b2 fa fb ai):=⟨have d:=d.un;have hb:=hb.un;xh v_ xu d hb hs⟩
def HA{lo A:Option Expr}(y:ZC X a fa)(k:ZO X lo fl)(o:ZO X A fh):ZF X (.Subscript a (.Slice lo A none p2) pos) (iD fa fl fh):=⟨have y:=y.un;have k:=k.un;have o:=o.un;
 PE.imp (FS FW y k o) λD H Q m=>by
  obtain⟨c,l,f,U,G,e,s,h⟩:=m;obtain⟨W,L,e⟩:=qa e;obtain⟨i,O,e⟩:=qa e;obtain⟨j,F,e⟩:=qa e;cases e;obtain⟨d,J,S⟩:=dM L;refine tCof.at J s λv w Y B R E=>oR O E λZ r t M=>oR F M λx I u C=>?_;obtain⟨p,b,rfl,g,z⟩:=My S ((R.grow t).grow u);refine⟨p,b,rfl,g,λq n=>h q _ _ I (((B.trans t).trans u).trans (.hid C.seen n _)) (B.h.free (t.h.free (u.h.free n))) (C.seen.free n) Yi ?_⟩;unfold bB d8;rw[z.length]
  exact(z.drop _).take _⟩
def zu :ZO X none none:=⟨xw⟩
def zv(h:ZC X e f):ZO X (some e) (some f):=⟨have h:=h.un;vY h⟩
def zw{g:AX}(h:ZF X e g):ZE X e (lF g):=⟨MF.me h.un⟩
def zx :ZA X [] ae:=⟨Gz⟩
def iP(d:ZE X e f)(h:ZA X es ga)(hs:Zc X e es:=by rfl):ZA X (e::es) (Yb f ga):=⟨GA d.un h.un hs⟩
def N7 :gR X [] ae:=⟨k_⟩
def N8(d:ZC X e f)(h:gR X es ga)(hs:Zc X e es:=by rfl):gR X (e::es) (Yb f ga):=⟨lb d.un h.un hs⟩
theorem zy{x1}(h:ZA X es ga):ZE X (.Tuple es x1 pos) (aD ga):=⟨have h:=h.un;PE.imp (vP h) λb H Q i=>by
 obtain⟨c,d,u,t,G,e,s,h⟩:=i;obtain⟨l,n,e⟩:=qa e
 split at e
 .cases e
  exact tAof.at n s λa q v o j k=>⟨by rw[j.length];exact iE (by assumption),λp m=>h _ _ _ (o.trans (.new k.seen m _)) (⟨p,a,rfl,Yi,j.mono (Gr.new k.seen m _).g⟩)⟩
 .cases e⟩
theorem zz(h:ZA X es ga):ZF X (.List es pos) (aX ga):=⟨have h:=h.un;PE.imp (FI h) λσ H Q j=>by
 obtain⟨ρ,d,u,v,G,e,s,h⟩:=j;obtain⟨l,o,e⟩:=qa e
 split at e
 .cases e
  exact tAof.at o s λvs t q k n m=>⟨by rw[n.length];exact iE (by assumption),λp i=>(h p vs _ q (k.trans (.hid m.seen i (.lst vs))) (k.h.free i) (m.seen.free i) Yi n)⟩
 .cases e⟩
theorem pj(l:dn X (.builtin id) r)(q:cX X.K r g)(m:Gl X x)(n:X.mg x=none)(k:bootBuiltins x=some (.builtin id))(j:gR X (e::es) ga)(o:x≠"__name__":=by decide)(d:cj x:=by decide)(s:Zc X e es:=by rfl)(i:Zd X pos es:=by rfl):ZE X (.Call (.Name x p) (e::es) [] pos) (cC ga g):=⟨have j:=j.un;
 PE.imp (jH l m n k j o d s i) λ_ _ _ h=>GB q h⟩
theorem N9(l:dn X (.builtin id) r)(q:fv X.K r gf)(m:Gl X x)(n:X.mg x=none)(k:bootBuiltins x=some (.builtin id))(j:gR X (e::es) ga)(o:x≠"__name__":=by decide)(d:cj x:=by decide)(s:Zc X e es:=by rfl)(i:Zd X pos es:=by rfl):ZF X (.Call (.Name x p) (e::es) [] pos) (cF ga gf):=⟨have j:=j.un;
 PE.imp (jH l m n k j o d s i) λ_ _ _ h=>GC q h⟩
theorem HB(l:dn X (.type T) r)(q:cX X.K r g)(m:Gl X x)(n:X.mg x=none)(k:bootBuiltins x=some (.type T))(j:gR X (e::es) ga)(o:x≠"__name__":=by decide)(d:cj x:=by decide)(s:Zc X e es:=by rfl)(i:Zd X pos es:=by rfl):ZE X (.Call (.Name x p) (e::es) [] pos) (cC ga g):=⟨have j:=j.un;
 PE.imp (jI l m n k j o d s i) λ_ _ _ h=>GB q h⟩
theorem N_(l:dn X (.type T) r)(q:fv X.K r gf)(m:Gl X x)(n:X.mg x=none)(k:bootBuiltins x=some (.type T))(j:gR X (e::es) ga)(o:x≠"__name__":=by decide)(d:cj x:=by decide)(s:Zc X e es:=by rfl)(i:Zd X pos es:=by rfl):ZF X (.Call (.Name x p) (e::es) [] pos) (cF ga gf):=⟨have j:=j.un;
 PE.imp (jI l m n k j o d s i) λ_ _ _ h=>GC q h⟩
def zA :ZB X [] ao:=⟨xC⟩
def Oa(l:ZS X st fs)(m:ZB X sts gs):ZB X (st::sts) (ag fs gs):=⟨have l:=l.un;have m:=m.un;PSs.imp (Fj l m) λF r H n=>by
 obtain⟨b,c,i,j,G,e,s,h⟩:=n;obtain⟨o,k,e⟩:=qa e
 cases o with
 | nx a=>exact⟨b,.nx a,i,j,G,k,s,λf q p g=>⟨a,c,i,j,p,e,g,h⟩⟩
 | rt d=>cases e;exact⟨b,.rt d,i,j,G,k,s,h⟩
 | bk a=>cases e;exact⟨b,.bk a,i,j,G,k,s,h⟩
 | ct a=>cases e;exact⟨b,.ct a,i,j,G,k,s,h⟩⟩
def zB(d:ZS X st fs):ZB X [st] fs:=⟨have d:=d.un;uF d⟩
def zC(i:AF)(h:ZS X st fs):ZS X st (wF i fs):=⟨have h:=h.un;PS.imp h λF g H d=>by
 obtain⟨b,a,k,j,G,e,s,h⟩:=d;obtain⟨f,c⟩:=SR.frz i s
 exact⟨frz i b,a,k,j,f,e,c,h⟩⟩
theorem zD(i:Nat)(j:X.N.Nodup)(d:ZE X e f)(k:X.N[i]?=some x:=by rfl)(m:eG X.env.scope x:=by trivial)(hs:swapsWith e (some (.Name x pos')) pos.line X.env=pure false:=by rfl)(l:Zf X x:=by trivial):ZS X (.Assign [.Name x pos'] e pos) (aw i f):=⟨have d:=d.un;PS.imp (uT j k m d hs l) λ_ _ _ h=>xD h⟩
theorem zE(i:Nat)(j:X.N.Nodup)(d:ZF X e gl)(k:X.N[i]?=some x:=by rfl)(m:eG X.env.scope x:=by trivial)(hs:swapsWith e (some (.Name x pos')) pos.line X.env=pure false:=by rfl)(l:Zf X x:=by trivial):ZS X (.Assign [.Name x pos'] e pos) (aW i gl):=⟨have d:=d.un;PS.imp (uT j k m d hs l) λ_ _ _ h=>xE h⟩
def zF(j:ZE X e f):ZS X (.Return (some e) pos) (ah f):=⟨have j:=j.un;PS.imp (uJ j) λF c H i=>by
 obtain⟨b,a,q,u,G,e,s,h⟩:=i;obtain⟨d,l,rfl⟩:=qc e
 exact tOf.at l s λv o k t n m=>h v o k m.gr n⟩
def Ob :ZS X (.Pass pos) ao:=⟨xF⟩
def zG{a b:List Stmt}(d:ZT X c fc)(i:ZB X a fs)(g:ZB X b gs):ZS X (.If c a b pos) (aI fc fs gs):=⟨have d:=d.un;have i:=i.un;have g:=g.un;PS.imp (kF d i g) λF r H j=>by
 obtain⟨p,f,l,n,G,e,s,h⟩:=j;obtain⟨k,q,e⟩:=qa e;refine tTof.at q s λt o u m=>?_
 cases k with
 | true=>
   exact⟨p,f,l,n,o,e,m,h⟩
 | false=>
   exact⟨p,f,l,n,o,e,m,h⟩⟩
abbrev zH(X:Cx)(c:Pos)(l:AL):Prop:=((backTo c (starEach l X.env)).all (λx=>!x.1)&&(backToKw c (keywordEach [] X.env)).all (λx=>x.1.isSome)&&decide (l.length+([]:List Keyword).length+(if ([]:List Keyword).isEmpty then 0 else 1)<30))=true
theorem Oc(i:Nat){o k j:Pos}(y:ZE X e f)(W:X.N[i]?=some x:=by rfl)(S:eZ X.env.scope x:=by trivial)(Q:cj x:=by decide)(A:fM x:=by decide)(z:swapsWith (.Call (.Attribute (.Name x o) "append" k) [e] [] j) none pos.line X.env=pure false:=by rfl)(hs:Ze X e:=by rfl)(q:zH X j [e]:=by rfl)(n:(k.endLine==j.line)=true:=by rfl)(m:attributeBase (.Name x o) "append" X.env (eval (.Name x o) X.env)=eval (.Name x o) X.env:=by rfl):ZS X (.Expr (.Call (.Attribute (.Name x o) "append" k) [e] [] j) pos) (bZ i f bc):=⟨have y:=y.un;
 PS.imp (kE (ia PySem.F.plainAttrs_list PySem.F.slot_list_append PySem.F.type_list_append wG (fU W S Q A) (fm y fj hs) m q n hs rfl) z) λF g H u=>by
  obtain⟨K,p,D,r,G,e,s,h⟩:=u;obtain⟨l,C,e⟩:=qa e;obtain⟨d,R,e⟩:=qa e;obtain⟨w,t,rfl⟩:=qc e;unfold bc at t
  split at t
  .rename_i U
   cases t;obtain⟨a,c,E,I,B,Y⟩:=xG s C;refine⟨_,E,.inl ⟨rfl,c,.of I⟩,tOf.at R s λv Z O J M L=>⟨a,c,v,rfl,rfl,J.h _ _ I,?_,h g _ O (L.mut (oH C) E ((B.mono J.g).append (.one M)))⟩⟩;rw[B.length];exact Qi U (iE (qv _))
  .cases t⟩
theorem HC(C:ZE X l f):ZI X tg l (b1 f Yc):=⟨have C:=C.un;PI.imp (xI C) λK H R F=>by
 obtain⟨D,N,Q,S,G,e,s,h⟩:=F;obtain⟨c,M,O⟩:=dM e;refine tOf.at M s λv B o z A E=>?_;rcases Yt O with rfl|rfl|⟨w,rfl,rfl⟩
 .obtain⟨p,r,rfl,g,j⟩:=A
  refine⟨p,r,rfl,.inr ⟨.inl (.inl (E.seen _ _ g)),λu=>h _ B o z (oT (by rwa [<-j.length]) λi L J a b=>⟨λd n=>?_,λt=>⟨r,.inl (.inl (b _ _ (a _ _ g))),by rwa [j.length]⟩⟩)⟩⟩;obtain⟨x,k,m⟩:=j.get n;refine⟨⟨r,x,.inl (.inl (b _ _ (a _ _ g))),k⟩,λy I q=>⟨q.1,?_⟩⟩;have:=q.2 r (.inl (.inl (b _ _ (a _ _ g))));rw[k]at this;cases this;exact m.mono a
 .obtain⟨p,r,rfl,g,j⟩:=A
  refine⟨p,r,rfl,.inl ⟨.inl (dv E.seen g),λu=>h _ B o z (oT (by rwa [<-j.length]) λi L J a b=>⟨λd n=>?_,λt=>⟨r,.inl (dv b (dv a g)),by rwa [j.length]⟩⟩)⟩⟩;obtain⟨x,k,m⟩:=j.get n;refine⟨⟨r,x,.inl (dv b (dv a g)),k⟩,λy I q=>⟨q.1,?_⟩⟩;have:=q.2 r (.inl (dv b (dv a g)));rw[k]at this;cases this;exact m.mono a
 .obtain⟨p,rfl,g⟩:=A
  have j:RpL X.K o _ _:=.ints w;refine⟨p,_,rfl,.inl ⟨E.seen.seq g,λu=>h _ B o z (oT (by ext) λi L J a b=>⟨λd n=>?_,λt=>⟨_,b.seq (a.seq g),by ext⟩⟩)⟩⟩;obtain⟨x,k,m⟩:=j.get n;refine⟨⟨_,x,b.seq (a.seq g),k⟩,λy I q=>⟨q.1,?_⟩⟩;have:=q.2 _ (b.seq (a.seq g));rw[k]at this;cases this
  exact m.mono a⟩
theorem Od(q:Gl X "range")(z:X.mg "range"=none)(i:ZA X [a] ga)(hs:Ze X a:=by rfl):ZI X tg (.Call (.Name "range" p) [a] [] pos) (cF ga cD):=⟨have i:=i.un;
 PI.imp (Lv q z i hs) λg H R d=>by
  obtain⟨b,c,F,E,G,e,s,h⟩:=d;obtain⟨l,t,y⟩:=qa e;refine tAof.at t s λf k j o u C=>?_;obtain⟨n,rfl,A,B,rfl⟩:=MH y;obtain⟨v,rfl,m⟩:=iF u;subst m;have:=h _ k j o (GF (iE (by unfold bC;ext)))
  ext<;>lia⟩
theorem Oe(v:Gl X "range")(A:X.mg "range"=none)(i:ZA X [a,b] ga)(hs:starEach [a,b] X.env=[(false,eval a X.env),(false,eval b X.env)]:=by rfl)(d:Ze X b:=by rfl):ZI X tg (.Call (.Name "range" p) [a,b] [] pos) (cF ga ck):=⟨have i:=i.un;
 PI.imp (Lx v A i hs d) λw H R k=>by
  obtain⟨c,f,J,I,G,e,s,h⟩:=k;obtain⟨l,u,m⟩:=qa e;refine tAof.at u s λg o z t j L=>?_;obtain⟨a,n,rfl,E,M,F,C,rfl⟩:=GH m;obtain⟨x,r,rfl,q,j⟩:=j;obtain⟨y,rfl,B⟩:=iF j;subst q B
  exact⟨a,n,rfl,⟨by lia,by lia,by lia,by lia⟩,h _ o z t (GF (Qg (by ext<;>lia:(n-a).toNat<=2000000) (by decide)))⟩⟩
theorem HE(i:Nat)(m:X.N.Nodup)(l:X.N[i]?=some x:=by rfl)(n:eG X.env.scope x:=by trivial)(k:Zf X x:=by trivial):ZG X (.Name x pos) (ak i):=⟨
 PG.imp (uL m l n k) λv c H Q j=>by
  obtain⟨d,b,a,q,o,G,e,s,r,h⟩:=j;cases e
  exact h _ (s.set_sh i r)⟩
theorem Of(i j:Nat){x y:Str}{px B:Pos}{k:Nat}(E:X.calm=true)(q:X.N.Nodup)(I:X.N[i]?=some x:=by rfl)(C:X.N[j]?=some y:=by rfl)(z:eG X.env.scope x:=by trivial)(t:eG X.env.scope y:=by trivial)(A:Zf X x:=by trivial)(n:Zf X y:=by trivial):ZG X (.Tuple [.Name x px,.Name y B] k pos) (eT i j):=⟨
 PG.imp (uQ (n:=2) E (Fl (uL q I z A) (Fl (uL q C t n) uO))) λv M H Q o=>by
  obtain⟨d,f,c,J,L,G,e,s,r,h⟩:=o
  match d,e,r with
  | .tup [a,b],e,r=>
    cases e;obtain⟨p,D,rfl,g,l⟩:=r;obtain⟨u,K,rfl,F,l⟩:=l;obtain⟨w,rfl,m⟩:=iF l
    exact⟨p,[u,w],rfl,.inl (.inl (s.seen _ _ g)),rfl,u,[w],rfl,w,[],rfl,rfl,h _ ((s.set_sh i F).set_sh j m)⟩⟩
theorem zI(K:PassesOwn (mZ X.prog X.w) X.A X.env X.xe)(hc:X.calm=true)(O:ZI X tg iter gl)(R:ZG X tg gt)(w:ZB X C fs)(hs:∀x,foldedSetIterable iter X.env x=pure x:=by intro _;rfl):ZS X (.For tg iter C [] pos) (bM gl gt fs):=⟨have O:=O.un;have R:=R.un;have w:=w.un;
 PS.imp (Fu K hc O R w hs) λF σ H Q=>by
  obtain⟨D,p,H0,G0,G,e,s,h⟩:=Q;obtain⟨c,N,h2⟩:=qa e;refine⟨D,c,H0,G0,G,N,s,λJ H1 E g1 wk=>?_⟩;obtain⟨M,Z,k⟩:=(s.grow g1).rebase;refine⟨λi m b f=>m=c.length-i/\i<=c.length/\∃a g,SR X.K M E b f g a/\forM gt fs (c.drop i) a=some p,⟨_,rfl,Qh _,D,E,Z,h2⟩,?_⟩;rintro i m b f ⟨rfl,O,a,g,r,j⟩;have W:=wk.2 i f g r.gr.g r.seen;by_cases u:i<c.length
  .obtain⟨go,T⟩:=W.1 _ (qr u)
   rw[List.drop_eq_getElem_cons u]at j;obtain⟨L,e1,j⟩:=qa j;obtain⟨o,e2,j⟩:=qa j;refine .inr ⟨go,λb f=>i+1<=c.length/\∃a g,SR X.K M E b f g a/\forM gt fs _ a=some p,λY U q=>⟨c.length-(i+1),by symm,rfl,q.1,q.2⟩,λx U y=>?_⟩;obtain⟨S,g2,r2⟩:=T x U y;refine⟨_,a,L,M,E,S,e1,r.grow g2,r2,λσ3 s3=>⟨L,o,M,E,S,e2,s3,?_⟩⟩
   cases o with
   | nx n=>exact λA B z I=>⟨u,n,z,I,j⟩
   | ct n=>exact λA B z I=>⟨u,n,z,I,j⟩
   | bk n=>
     cases j;exact λA B z I=>h A B z (k _ _ _ _ I)
   | rt d=>
     cases j;refine λv B z g4 V=>h v B z ?_ V;have:=(k [] B z [] (.mkSh g4 rfl (λi d e=>by simp at e) (λi l e=>by simp at e) (λi t ks vs e=>by simp at e))).gr;exact this
  .have ei:i=c.length:=by lia
   subst ei;rw[List.drop_length]at j;cases j
   exact .inl ⟨W.2 (qv _),h b f g (k _ _ _ _ r)⟩⟩
def HF :fB X X.K [] tY:=⟨xK⟩
def HG(S:fN X.N X.env.scope N src scope)(o:X.calm=true)(l:ZI X tg iter gl)(m:∀h C i s H,ZG (Yw X scope N h C i s H) tg gt)(q:∀h C i s H,fB (Yw X scope N h C i s H) X.K ifs fc)(n:∀h C i s H,ZE (Yw X scope N h C i s H) elt fe)(k:∀ρ d j,gt d (ar src ρ)=some j->Le (ar src ρ) j)(hs:∀x,foldedSetIterable iter X.env x=pure x:=by intro _;rfl):ZF X (.ListComp elt [⟨tg,iter,ifs,0⟩] scope pos) (Yv gl src gt fc fe):=⟨xM S o l.un (λh C i s H=>(m h C i s H).un) (λh C i s H=>(q h C i s H).un) (λh C i s H=>(n h C i s H).un) k hs⟩
theorem Og(i:Nat){q k:Pos}(F:X.N.Nodup)(S:fN X.N X.env.scope N src scope)(v:X.calm=true)(n:ZI X tg iter gl)(z:∀j C h s H,ZG (Yw X scope N j C h s H) tg gt)(B:∀j C h s H,fB (Yw X scope N j C h s H) X.K ifs fc)(A:∀j C h s H,ZE (Yw X scope N j C h s H) elt fe)(o:∀ρ d l,gt d (ar src ρ)=some l->Le (ar src ρ) l)(m:swapsWith (.ListComp elt [⟨tg,iter,ifs,0⟩] scope pos) (some (.Name y q)) k.line X.env=pure true:=by rfl)(u:X.N[i]?=some y:=by rfl)(t:eG X.env.scope y:=by trivial)(E:Zf X y:=by trivial)(hs:∀x,foldedSetIterable iter X.env x=pure x:=by intro _;rfl):ZS X (.Assign [.Name y q] (.ListComp elt [⟨tg,iter,ifs,0⟩] scope pos) k) (aW i (Yv gl src gt fc fe)):=⟨xN i F S v n.un (λj C h s H=>(z j C h s H).un) (λj C h s H=>(B j C h s H).un) (λj C h s H=>(A j C h s H).un) o m u t E hs⟩
def zJ{f:Addr}{fd:FuncData}{fb:AT}(F:Fun K x i st f fd)(S:b9 N ps (aBa st))(l:N.length=n)(o:ps.length=m)(b:∀(h:Value) (A:Around) (d:List Env) (s:Shared) (H:Hp) (E:XK),Room k (A.deeper (envOfC i (aBa st) (~~~s) f h))->ZB (bR bK P w K mg base N i (aBa st) f h A d s H E).nox (aDa st) fb):FnOk P w K mg base bK (k+1) f fd ps (bu K m (aq m n fb)):=MK F S l o (λh A d s H E j=>(b h A d s H E j).un)
theorem pk(c:aM X.prog X.w X.K X.mg X.base j n x ps v)(s:Room k X.A)(q:Gl X x)(h:ZA X (e::es) ga)(u:∀ρ l,ga ρ=some l->l.length=n)(o:j<=k:=by first|exact qv _|lia)(d:cj x:=by decide)(m:Zc X e es:=by rfl)(i:Zd X pos es:=by rfl):ZE X (.Call (.Name x p) (e::es) [] pos) (cC ga v):=⟨have h:=h.un;by
 obtain⟨a,g,F,b,t,y⟩:=c
 exact xx F (s.mono o) q y t b h d m i u⟩
def zK(d:ZC X a fa)(c:ZC X b fb):ZE X (.BinOp a .Add b pos) (b2 fa fb bS):=⟨have d:=d.un;have c:=c.un;jL vo Gp d c⟩
def zL(j:ZC X a fa):ZE X (.UnaryOp .USub a pos) (b1 fa bz):=⟨have j:=j.un;PE.imp (u_ vw j) λc H Q i=>by
 obtain⟨b,d,u,y,G,e,s,h⟩:=i;obtain⟨x,o,k⟩:=dM e;refine tCof.at o s λv n l q m t=>?_;cases x<;>simp[bz]at k;subst k
 exact⟨_,m,h _ n l q (by rw[Rp])⟩⟩
def zM(n:ZC X a fa)(c:ZC X b fb):ZF X (.BinOp a .Add b pos) (b2 fa fb bD):=⟨have n:=n.un;have c:=c.un;PE.imp (hY xQ n c) λr H Q k=>by
 obtain⟨g,l,W,Z,G,e,s,h⟩:=k;obtain⟨R,S,L,J,d⟩:=oG e;refine tCof.at L s λv w Y z E A=>tCof.at J A λu U M j B y=>?_;unfold bD at d
 split at d
 .split at d
  .rename_i C
   cases d;obtain⟨p,f,rfl,F,t⟩:=E.grow j;obtain⟨q,O,rfl,I,o⟩:=B;exact⟨p,q,f,O,rfl,rfl,F,I,by rw[t.length,o.length];exact iE C,λm i=>h m _ _ M ((z.trans j).trans (.hid y.seen i _)) (z.h.free (j.h.free i)) (y.seen.free i) Yi (t.append o)⟩
  .cases d
 .cases d⟩
theorem zN(A:ZC X a fa)(J:Gl X "isinstance")(t:Gl X i)(b:X.mg "isinstance"=none)(u:X.mg i=none)(y:bootBuiltins i=some (.type T))(I:xS T)(S:bootBuiltins "isinstance"=some (.builtin "isinstance"):=by decide +kernel)(o:i≠"__name__":=by decide)(q:(i==("__debug__":Str))=false:=by decide)(hs:starEach [a,.Name i j] X.env=(false,eval a X.env)::starEach [.Name i j] X.env:=by rfl)(B:starEach [.Name i j] X.env=(false,eval (.Name i j) X.env)::starEach [] X.env:=by rfl)(z:(backTo pos (starEach [.Name i j] X.env)).any (·.1)=false:=by rfl):ZE X (.Call (.Name "isinstance" p) [a,.Name i j] [] pos) (mB (b1 fa (fx T))):=⟨have A:=A.un;
 PE.imp (jH (ML I) J b S (fm A (fm (tX t u y (v:=.ty T) rfl o q) fj B) hs) (by decide) (by decide) hs z) λc H Q n=>by
  obtain⟨f,d,U,Y,G,e,s,h⟩:=n;obtain⟨k,E,rfl⟩:=oJ e;obtain⟨x,O,m⟩:=dM E;unfold fx at m
  split at m
  .cases m
   exact tCof.at O s λv F C R L W=>⟨v,x,C,rfl,by assumption,L,h _ F C R (by rw[Rp])⟩
  .cases m⟩
theorem Oh(i:Nat){x:Str}{ie:Expr}{p2 p3:Pos}(hb:ZC X ie fb)(he:ZE X e f)(hN:X.N[i]?=some x:=by rfl)(hv:eZ X.env.scope x:=by trivial)(hd:cj x:=by decide)(hcd:fM x:=by decide)(ha:∀v,assign (.Subscript (.Name x p2) ie p3) X.env v=(do
 let ov <-holding [v] (eval (.Name x p2) X.env)
 let iv <-holding [v,ov] (eval ie X.env)
 standAt p3
 holding [v,ov,iv] (setItem ov iv v)
 release [v,ov,iv] []):=by intro _;rfl)(hs:swapsWithSole [.Subscript (.Name x p2) ie p3] e pos.line X.env=pure false:=by rfl)(hw:swappedStores [.Subscript (.Name x p2) ie p3] e X.env=pure none:=by rfl)(h1:(assignEach [.Subscript (.Name x p2) ie p3] X.env).map (·.2)=[assign (.Subscript (.Name x p2) ie p3) X.env]:=by rfl):ZS X (.Assign [.Subscript (.Name x p2) ie p3] e pos) (oV i fb f fA):=⟨have hb:=hb.un;have he:=he.un;
 PS.imp (Fm he (uS (fU hN hv hd hcd) hb L3 ha) hs hw h1) λF σ H hx_=>by
  obtain⟨ρ,out,H0,G0,G,e,s,h⟩:=hx_;unfold oV at e;obtain⟨d,h1,e⟩:=qa e;obtain⟨l,h2,e⟩:=qa e;obtain⟨k,h3,e⟩:=qa e;obtain⟨l',h4,rfl⟩:=qc e;unfold fA at h4;obtain⟨n,h5,h4⟩:=qa h4;obtain⟨j,h6,rfl⟩:=qc h4;refine tOf.at h1 s λv H1 G1 g1 r1 s1=>?_;obtain⟨a,xs,ha,hH,hr,hG⟩:=xG s1 h2;refine⟨_,ha,tCof.at h3 s1 λu H2 G2 g2 r2 s2=>?_⟩;cases k<;>simp[eJ]at h5;subst h5;rw[Ct]at r2;subst r2;refine⟨a,xs,_,j,rfl,rfl,g2.h _ _ hH,by rw[hr.length];exact h6,?_⟩
  exact h σ _ G2 (s2.mut (oH h2) ha ((hr.mono g2.g).set j (r1.mono g2.g)))⟩
theorem Oi(W:Gl X "enumerate")(D:X.mg "enumerate"=none)(L:ZE X l f)(hs:Ze X l:=by rfl):ZI X (.Tuple elts x1 pt) (.Call (.Name "enumerate" p) [l] [] pos) (b1 f oW):=⟨have L:=L.un;
 PI.imp (x_ W D (GA L Gz hs) hs) λσ H R F=>by
  obtain⟨V,ds,H0,G0,G,e,s,h⟩:=F;obtain⟨c,Y,K⟩:=dM e;obtain⟨l,N,rfl⟩:=qc K;refine tAof.at (show Yb f _ V=some [c] by simp[Yb,ae,Y]) s λvs C B J Z I=>?_;obtain⟨v,rfl,E⟩:=iF Z;rcases Yt N with rfl|rfl|⟨T,rfl,rfl⟩
  .obtain⟨p,r,rfl,g,j⟩:=E
   refine⟨p,r,rfl,.inr ⟨.inl (.inl (I.seen _ _ g)),λo=>h _ C B J ⟨by rw[jT,<-j.length];exact o,λi U O b a=>⟨λd A=>?_,λt=>⟨r,.inl (.inl (a _ _ (b _ _ g))),by rw[j.length,<-jT l];exact t⟩⟩⟩⟩⟩;obtain⟨w,k,rfl⟩:=ya A;obtain⟨x,m,u⟩:=j.get k;refine⟨⟨r,x,.inl (.inl (a _ _ (b _ _ g))),m⟩,λy Q q=>?_⟩;obtain⟨M,S,z,n,rfl,rfl⟩:=q;have:=z r (.inl (.inl (a _ _ (b _ _ g))));rw[m]at this;cases this;exact Gr.newTup a n i (u.mono b)
  .obtain⟨p,r,rfl,g,j⟩:=E
   refine⟨p,r,rfl,.inl ⟨.inl (dv I.seen g),λo=>h _ C B J ⟨by rw[jT,<-j.length];exact o,λi U O b a=>⟨λd A=>?_,λt=>⟨r,.inl (dv a (dv b g)),by rw[j.length,<-jT l];exact t⟩⟩⟩⟩⟩;obtain⟨w,k,rfl⟩:=ya A;obtain⟨x,m,u⟩:=j.get k;refine⟨⟨r,x,.inl (dv a (dv b g)),m⟩,λy Q q=>?_⟩;obtain⟨M,S,z,n,rfl,rfl⟩:=q;have:=z r (.inl (dv a (dv b g)));rw[m]at this;cases this;exact Gr.newTup a n i (u.mono b)
  .obtain⟨p,rfl,g⟩:=E
   have j:RpL X.K B _ _:=.ints T;refine⟨p,_,rfl,.inl ⟨I.seen.seq g,λo=>h _ C B J ⟨by rw[jT,<-j.length];exact o,λi U O b a=>⟨λd A=>?_,λt=>⟨_,a.seq (b.seq g),by rw[j.length,<-jT];exact t⟩⟩⟩⟩⟩;obtain⟨w,k,rfl⟩:=ya A;obtain⟨x,m,u⟩:=j.get k;refine⟨⟨_,x,a.seq (b.seq g),m⟩,λy Q q=>?_⟩;obtain⟨M,S,z,n,rfl,rfl⟩:=q;have:=z _ (a.seq (b.seq g));rw[m]at this;cases this
   exact Gr.newTup a n i (u.mono b)⟩
theorem Oj(i:Nat){t k j:Pos}(z:ZE X e f)(r:X.N[i]?=some x:=by rfl)(U:eZ X.env.scope x:=by trivial)(W:cj x:=by decide)(A:fM x:=by decide)(u:swapsWith (.Call (.Attribute (.Name x t) "extend" k) [e] [] j) none pos.line X.env=pure false:=by rfl)(hs:Ze X e:=by rfl)(q:zH X j [e]:=by rfl)(n:(k.endLine==j.line)=true:=by rfl)(m:attributeBase (.Name x t) "extend" X.env (eval (.Name x t) X.env)=eval (.Name x t) X.env:=by rfl):ZS X (.Expr (.Call (.Attribute (.Name x t) "extend" k) [e] [] j) pos) (bZ i f gh):=⟨have z:=z.un;
 PS.imp (kE (ia PySem.F.plainAttrs_list PySem.F.slot_list_extend PySem.F.type_list_extend yd (fU r U W A) (fm z fj hs) m q n hs rfl) u) λF p H y=>by
  obtain⟨V,w,T,D,G,e,s,h⟩:=y;obtain⟨l,C,e⟩:=qa e;obtain⟨d,Q,e⟩:=qa e;obtain⟨N,o,rfl⟩:=qc e;unfold gh at o
  split at o
  .split at o
   .rename_i Y
    cases o;obtain⟨a,g,L,B,I,K⟩:=xG s C;refine⟨_,L,.inl ⟨rfl,g,.of B⟩,tOf.at Q s λv H1 S M R J=>?_⟩;obtain⟨b,Z,rfl,O,E⟩:=R;refine⟨a,b,g,Z,rfl,rfl,M.h _ _ B,dv J.seen O,?_,h p _ S (J.mut (oH C) L ((I.mono M.g).append E))⟩;rw[I.length,E.length];exact iE Y
   .cases o
  .cases o⟩
theorem Ol(g:GD X.K X.w X.mg x j)(J:Gl X x)(z:ZC X ke fk)(hs:kQ ke:=by intro _ _;rfl)(Y:cj x:=by decide):ZE X (.Subscript (.Name x px) ke pos) (b1 fk (oY j)):=⟨have z:=z.un;by
 obtain⟨p,o,c,M,K,L,A,n,i⟩:=g;intro b s T H Q I ⟨ρ,d,H0,V,G,e,D,h⟩;obtain⟨dk,W,l⟩:=dM e;refine vV PySem.F.slot_dict_getitem.lookup hs (n3 I J K (aF (z _ s T H (λR f=>∃k r,R=.str k/\j.lookup k=some r/\Q (.str r) f) I (tCof.at W D λv U O N F s1=>?_)) λiv s2 S=>?_) Y)
 .unfold oY at l
  split at l
  .rename_i k
   obtain⟨r,m,rfl⟩:=qc l;exact⟨k,r,F.1,m,h _ U O N (⟨rfl,lu i m⟩)⟩
  .cases l
 .obtain⟨y,Z,C,E,k,r,rfl,m,q⟩:=S
  obtain⟨t,rfl⟩:=E;have B:=C.kIn p o L;obtain⟨e',w,f1,f2⟩:=GY (P:=X.prog) i m;refine⟨⟨o,B,A.1⟩,wpAny_getItem_of (knd:=PySem.strKind _ X.w) (k:=k) (by simp[PySem.strKind,Value.isStrOf]) ⟨o,c,M,B,A,n,?_,λ_=>rfl⟩ ?_ ⟨.str r,Z,C.tok _,⟨w,rfl⟩,q⟩⟩
  .intro u he
   exact GZ i u ⋯
  .show(c.find? _).map _=_
   ext⟩
def Om{i:Int}(g:GI X.mg x i)(j:Gl X x)(h:cj x:=by decide):ZE X (.Name x px) (Zb i):=⟨by
 obtain⟨t,d⟩:=g
 exact k8 (tW (v:=.int i) j d ⟨t,rfl⟩ h) (λ_ _ _ q=>q) λ_=>by rw[Rp]⟩
end
section
variable {a b c e:Expr}{fb fc:AW}
theorem On(N:bV X (compareOp E) r)(J:eR X.K r g)(A:bV X (compareOp i) T)(p:eR X.K T g')(t:ZC X a fa)(l:ZC X b fb)(q:ZC X c fc)(R:lastMarks [E,i] [b,c]=false:=by with_unfolding_all rfl):ZE X (.Compare a [E,i] [b,c] pos) (mB (o4 fa fb fc g g')):=⟨have t:=t.un;have l:=l.un;have q:=q.un;
 PE.imp (LB N A t l q R) λσ H Q h=>by
  obtain⟨ρ,d,H0,G0,G,e,s,h⟩:=h;obtain⟨k,U,rfl⟩:=oJ e;obtain⟨x,y,M,Z,f⟩:=Nc U;refine tCof.at M s λv H1 G1 K F L=>tCof.at Z L λu B m j n o=>?_;rcases f with⟨f,rfl⟩|⟨f,z,S,O⟩
  .exact J v u x y _ B m _ f o.seen (F.grow j) n ⟨false,rfl,h _ B m (K.trans j) (by rw[Rp])⟩
  .exact J v u x y _ B m _ f o.seen (F.grow j) n ⟨true,rfl,tCof.at S o λw D I C r3 Y=>p u w y z k D I _ O Y.seen (n.grow C) r3 (h _ D I ((K.trans j).trans C) (by rw[Rp]))⟩⟩
def Oo :ZS X st nS:=⟨Nd⟩
end
section
variable {e a b:Expr}{f fb:AW}{fc:AV}
def Oq(is:AF)(h:ZT X e fc):ZT X e (o6 is fc):=⟨have h:=h.un;PT.imp h λσ H Q hx_=>by
 obtain⟨ρ,d,H0,G0,G,e,s,h⟩:=hx_;obtain⟨G',s'⟩:=SR.frz is s
 exact⟨frz is ρ,d,H0,G0,G',e,s',λH1 G1 g=>h H1 G (.back s.seen g)⟩⟩
def Os(d:ZC X a fa)(c:ZC X b fb):ZT X (.Compare a [.IsNot] [b] pos) (b2 fa fb (iH true)):=⟨have d:=d.un;have c:=c.un;fY yg yi d c (eH _)⟩
def Ot{lo u:Option Expr}(r:ZC X a fa)(m:ZO X lo fl)(t:ZO X u fh):ZE X (.Subscript a (.Slice lo u none O) pos) (ly fa fl fh):=⟨have r:=r.un;have m:=m.un;have t:=t.un;
 PE.imp (FS (.or FW (.or v3 Nj)) r m t) λY H Q o=>by
  obtain⟨V,d,R,Z,G,e,s,h⟩:=o;obtain⟨M,A,e⟩:=qa e;obtain⟨i,J,e⟩:=qa e;obtain⟨j,C,e⟩:=qa e;refine tCof.at A s λv T S I B z=>oR J z λN U y K=>oR C K λE D x l=>?_;have w:=(B.grow y).grow x;have n:=(I.trans y).trans x;unfold gi at e
  split at e
  .cases e
   obtain⟨p,b,rfl,g,c⟩:=w;refine .inl ⟨p,b,rfl,.inl g,λq f=>h _ _ _ (n.trans (.new l.seen f _)) (⟨q,_,rfl,.inl Yi,?_⟩)⟩;unfold bB d8;rw[c.length];exact((c.drop _).take _).mono (Gr.new l.seen f _).g
  .cases e
   obtain⟨p,b,rfl,⟨g,F⟩,c⟩:=w;by_cases k:HT.sIx b.length 0 i=0/\HT.sIx b.length b.length j=b.length
   .refine .inr (.inr ⟨p,b,rfl,.of g,k.1,k.2,h _ E D n (⟨p,b,rfl,F,?_⟩)⟩)
    unfold bB
    rwa [<-c.length,k.1,k.2,List.drop_zero,Nat.sub_zero,c.length,List.take_length]
   .refine .inr (.inl ⟨p,b,rfl,.of g,k,λq f=>h _ _ _ (n.trans (.new l.seen f _)) (⟨q,_,rfl,Yi,?_⟩)⟩)
    unfold bB d8;rw[c.length];exact((c.drop _).take _).mono (Gr.new l.seen f _).g
  .cases e⟩
end
def Ou(h:ZT X c f):fB X X.K [c] f:=⟨have h:=h.un;λb s d H Q I a=>wpAny_tests_one (h _ s d H Q I a)⟩
def zO(h:ZW X e f):ZT X e f:=⟨PW.pt h.un⟩
section
variable {e:Expr}{f:AW}{p p2:Pos}
theorem Ov(A:X.calm=true)(V:Gl X "sorted")(E:X.mg "sorted"=none)(k:Gl X "set")(i:X.mg "set"=none)(t:ZC X e f)(hs:Ze X e:=by rfl)(y:starEach [.Call (.Name "set" p2) [e] [] pos2] X.env=[(false,eval (.Call (.Name "set" p2) [e] [] pos2) X.env)]:=by rfl)(g:(backTo pos2 (starEach [] X.env)).any (·.1)=false:=by rfl)(a:(backTo pos (starEach [] X.env)).any (·.1)=false:=by rfl):ZF X (.Call (.Name "sorted" p) [.Call (.Name "set" p2) [e] [] pos2] [] pos) (gO f):=⟨have t:=t.un;
 PE.imp (jH (G_ A) V E boot_sorted (fm (jI (yr A) k i boot_set (lb t k_ hs) (by decide) (by decide) hs g) fj y) (by decide) (by decide) y a) λZ H Q b=>by
  obtain⟨D,l,S,T,G,e,s,h⟩:=b;obtain⟨R,I,e⟩:=qa e;obtain⟨d,N,P⟩:=dM I;refine tCAof.at (show Yb f _ D=some [d] by simp[Yb,ae,N]) s λY U O B L u=>?_;obtain⟨v,rfl,J⟩:=eS L;obtain⟨q,xs,rfl,F,K⟩:=lh P J;unfold iJ at e
  split at e
  .rename_i M n
   split at e
   .rename_i z
    cases e;cases jR n;cases jS K;refine⟨q,M,rfl,F,z.1,λm w j C=>?_⟩;have c:=Gr.hid u.seen j (c7 X.prog X.w m w);have x:=u.grow c;refine⟨m,w,rfl,Yi,by rw[C.length_eq];exact z.2,λr o=>?_⟩;rw[Hc C];refine h r _ _ O ((B.trans c).trans (.hid x.seen o _)) ((B.trans c).h.free o) (x.seen.free o) Yi (.ints _)
   .cases e
  .cases e⟩
theorem Ow(B:X.calm=true)(hg:Gl X "sorted")(hm:X.mg "sorted"=none)(o:Gl X "set")(t:X.mg "set"=none)(C:ZC X e f)(g:ZC X e2 f2)(hs:starEach [e] X.env=[(false,eval e X.env)]:=by rfl)(u:starEach [e2] X.env=[(false,eval e2 X.env)]:=by rfl)(W:starEach [.BinOp (.Call (.Name "set" p2) [e] [] pos2) .BitXor (.Call (.Name "set" p3) [e2] [] pos3) pos4] X.env=[(false,eval (.BinOp (.Call (.Name "set" p2) [e] [] pos2) .BitXor (.Call (.Name "set" p3) [e2] [] pos3) pos4) X.env)]:=by rfl)(N:(backTo pos2 (starEach [] X.env)).any (·.1)=false:=by rfl)(i:(backTo pos3 (starEach [] X.env)).any (·.1)=false:=by rfl)(j:(backTo pos (starEach [] X.env)).any (·.1)=false:=by rfl):ZF X (.Call (.Name "sorted" p) [.BinOp (.Call (.Name "set" p2) [e] [] pos2) .BitXor (.Call (.Name "set" p3) [e2] [] pos3) pos4] [] pos) (yD f f2):=⟨have C:=C.un;have g:=g.un;
 PE.imp (jH (G_ B) hg hm boot_sorted (fm (hY op_xor (jI (yr B) o t boot_set (lb C k_ hs) (by decide) (by decide) hs N) (jI (yr B) o t boot_set (lb g k_ u) (by decide) (by decide) u i)) fj W) (by decide) (by decide) W j) λσ H Q T=>by
  obtain⟨ρ,l,H0,G0,G,e,s,h⟩:=T;obtain⟨l1,h1,e⟩:=qa e;obtain⟨l2,h2,e⟩:=qa e;obtain⟨d1,i1,j1⟩:=dM h1;obtain⟨d2,i2,j2⟩:=dM h2;obtain⟨a,ea,e⟩:=qa e;obtain⟨b,eb,e⟩:=qa e
  split at e
  case isFalse=>cases e
  rename_i hl;obtain⟨R,S,b3,b4,b5,b6⟩:=hl;cases e;cases jR ea;cases jR eb;refine tCAof.at (show Yb f ae ρ=some [d1] by simp[Yb,ae,i1]) s λvs H1 G1 g1 r1 U=>?_;obtain⟨v,rfl,rv⟩:=eS r1;obtain⟨q,xs,rfl,T,rl⟩:=lh j1 rv;cases jS rl;refine⟨q,a,rfl,T,R,λm ns K hp=>?_⟩;have M:=Gr.hid U.seen K (c7 X.prog X.w m ns);have s2:=U.grow M;refine tCAof.at (show Yb f2 ae ρ=some [d2] by simp[Yb,ae,i2]) s2 λvs2 H3 G3 D r3 Y=>?_;obtain⟨v2,rfl,A⟩:=eS r3;obtain⟨q2,xs2,rfl,E,I⟩:=lh j2 A;cases jS I;refine⟨q2,b,rfl,E,S,λm2 ms n d=>?_⟩;have y:=Gr.hid Y.seen n (c7 X.prog X.w m2 ms);have V:=Y.grow y;have O:=y.h _ _ (D.h _ _ Yi);refine⟨m,m2,ns,ms,rfl,rfl,O,Yi,λk hk=>?_,by rw[d.length_eq];exact b4,by rw[hp.length_eq];exact b3,λr Z hr L w=>?_⟩
  .have hk':k∈b:=by
    have:=d.mem_iff.mp hk;rw[ef]at this;symm
   ext
  have F:=Gr.hid V.seen hr (c7 X.prog X.w r Z);have s5:=V.grow F
  have c:=(List.perm_ext_iff_of_nodup L (yC a b)).mpr λx=>by
   rw[w,Hl,hp.mem_iff,d.mem_iff,ef,ef];simp
  refine⟨r,Z,rfl,Yi,by rw[c.length_eq];exact b6,λz J=>?_⟩;rw[Hc c]
  exact h z _ _ G3 (((((g1.trans M).trans D).trans y).trans F).trans (.hid s5.seen J _)) (((((g1.trans M).trans D).trans y).trans F).h.free J) (s5.seen.free J) Yi (.ints _)⟩
theorem Ox(hc:X.calm=true)(S:X.A.units+64<cLine)(U:Gl X "sorted")(hm:X.mg "sorted"=none)(u:Gl X "set")(z:X.mg "set"=none)(w:ZC X e f)(hs:Ze X e:=by rfl)(L:starEach [.Call (.Name "set" p2) [e] [] pos2] X.env=[(false,eval (.Call (.Name "set" p2) [e] [] pos2) X.env)]:=by rfl)(A:(backTo pos2 (starEach [] X.env)).any (·.1)=false:=by rfl)(j:(backTo pos (starEach [] X.env)).any (·.1)=false:=by rfl):ZF X (.Call (.Name "sorted" p) [.Call (.Name "set" p2) [e] [] pos2] [] pos) (yM f):=⟨have w:=w.un;
 PE.imp (jH (NW hc) U hm boot_sorted (fm (jI (NV hc S) u z boot_set (lb w k_ hs) (by decide) (by decide) hs A) fj L) (by decide) (by decide) L j) λσ H Q x=>by
  obtain⟨ρ,l,H0,G0,G,e,s,h⟩:=x;obtain⟨V,W,e⟩:=qa e;obtain⟨d,h2,n⟩:=dM W;refine tCAof.at (show Yb f ae ρ=some [d] by simp[Yb,ae,h2]) s λvs H1 Z K O y=>?_;obtain⟨v,rfl,Y⟩:=eS O;unfold gk at n
  split at n
  case h_2=>cases n
  cases n;obtain⟨a,xs,rfl,R,I⟩:=Y
  obtain⟨ps,c⟩:∃ps,dP V=some ps:=by
   obtain⟨ps,P,_⟩:=qa e;exact⟨ps,P⟩
  obtain⟨F,rfl,hA⟩:=Hy y.seen c I;obtain⟨J,k2,T⟩:=NX e c I;obtain⟨B,o2,o3⟩:=hA.once J;refine⟨a,F,ps,rfl,.inl R,hA,J,k2,λm C g N=>?_⟩;have o:=Gr.hid y.seen g (gj X.w m C);have E:=y.grow o;refine⟨m,C,b7 F ps,dz ps,rfl,Yi,N,⟨B.1,λi b q hb k=>?_⟩,o2,o3,λr t=>?_⟩
  .rw[Yh (Yl (B.2 i b q hb k) g)]
   exact B.2 i b q hb k
  .refine h r _ _ Z ((K.trans o).trans (.hid E.seen t _)) ((K.trans o).h.free t) (E.seen.free t) Yi T⟩
def Oy(a:ZE X e f)(b:swapsWith e none pos.line X.env=pure false:=by rfl):ZS X (.Expr e pos) (iO f):=⟨have a:=a.un;PS.imp (kE a b) λF p H c=>by
 obtain⟨r,q,m,o,G,e,s,h⟩:=c;obtain⟨d,i,rfl⟩:=qc e
 exact tOf.at i s λv k g n l j=>h p k g j⟩
end
def wo(H:Hp)(p:Addr):Hp:=λa=>if a=p then none else H a
def zP(K:W7)(j:Nat)(x:Option (Option V))(b a:Hp)(F:Ends):Out->Prop
 | .nx d=>∀c e f,SR K b a c e f d->c[j]?=x->F.nx c e
 | .rt _=>False
 | .bk d=>∀c e f,SR K b a c e f d->c[j]?=x->F.bk c e
 | .ct d=>∀c e f,SR K b a c e f d->c[j]?=x->F.ct c e
def lJ(K:W7)(j:Nat)(f:AT):TS:=λF d H=>∃e c b a G,f e=some c/\SR K b a d H G e/\zP K j d[j]? b a F c
structure KS(j:Nat)(X:Cx)(st:Stmt)(f:AT):Prop where
 un:PS X st (lJ X.K j f)
structure KB(j:Nat)(X:Cx)(sts:List Stmt)(f:AT):Prop where
 un:PSs X sts (lJ X.K j f)
def zQ(K:W7)(j r:Nat)(fb:AT):TS:=λF h H=>∃f c l d b a G,fb f=some (.nx c)/\cL j c=some l/\ab r (frz [r] c)=some d/\SR K b a h H G f/\
 ∀v e g i,SR K b a e g i (frz [r] c)->e[j]?=h[j]?->Rp K i d v->F.rt v g
structure KR(j r:Nat)(X:Cx)(sts:List Stmt)(f:AT):Prop where
 un:PSs X sts (zQ X.K j r f)
def Oz(K:W7)(fn:D->AR->D->Option (D×AR)):Sp:=λvs H Q _=>∃v0 p v2 d0 l d2 d l' G xs,vs=[v0,V.ref p,v2]/\Same G H/\Rp K G d0 v0/\Rp K G d2 v2/\G p=none/\H p=some (.lst xs)/\RpL K G l xs/\fn d0 l d2=some (d,l')/\
 ∀v H' G' xs',Gr (wo H p) G H' G'->G' p=none->H' p=some (.lst xs')->RpL K G' l' xs'->Rp K G' d v->Q v H'
def OkW(P:P7)(w:World)(K:W7)(mg:AE)(base:Heap)(k:Nat)(x:Str)(ps:AK)(fn:D->AR->D->Option (D×AR)):Prop:=
 ∃a fd,FnOk P w K mg base bK k a fd ps (Oz K fn)/\Binds K fd ps []/\W.keepIn K (.ref a)=true/\mg x=some (.ref a)
def zR(K:W7)(n:Nat)(fn:AR->Option AR):Sp:=λvs H Q _=>vs.length=n/\∃ds l G,Same G H/\RpL K G ds vs/\fn ds=some l/\∀p xs H' G',Gr H G H' G'->H p=none->G' p=none->H' p=some (.lst xs)->RpL K G' l xs->Q (.ref p) H'
def pq(P:P7)(w:World)(K:W7)(mg:AE)(base:Heap)(k n:Nat)(x:Str)(ps:AK)(fn:AR->Option AR):Prop:=
 ∃a fd,FnOk P w K mg base bK k a fd ps (zR K n fn)/\Binds K fd ps []/\W.keepIn K (.ref a)=true/\mg x=some (.ref a)
def zS{P:P7}{w:World}{K:W7}{mg:AE}{base:Heap}{k n:Nat}{x q:Str}{ps:AK}{fn:AR->Option AR}{st:Stmt}{a:Addr}{fd:FuncData}(F:Fun K x q st a fd)(b:Binds K fd ps [])(hm:mg x=some (.ref a))(h:FnOk P w K mg base bK k a fd ps (zR K n fn)):pq P w K mg base k n x ps fn:=⟨a,fd,h,b,F.kp,hm⟩
def zT(K:W7)(c:AX)(fb:AT):TS:=λF i H=>∃g d l a b G,fb g=some (.nx d)/\c d=some l/\SR K a b i H G g/\
 ∀p h e f,Gr a b e f->a p=none->f p=none->e p=some (.lst h)->RpL K f l h->F.rt (.ref p) e
structure KL(gl:AX)(X:Cx)(sts:List Stmt)(f:AT):Prop where
 un:PSs X sts (zT X.K gl f)
def gm(m n:Nat)(fb:AT)(gl:AX)(ds:AR):Option AR:=if ds.length=m then (fb (Yd n ds)).bind fun
 | .nx ρ=>gl ρ
 | _=>none
 else none
section
variable {fs gs:AT}{e:Expr}{ga:AX}{P:P7}{w:World}
def zU(he:ZF X e gl):KL gl X [.Return (some e) pos] ao:=
 ⟨uF (PS.imp (uJ he.un) λF σ H hx_=>by
  obtain⟨ρ,ρ',l,H0,G0,G,e,hg,s,h⟩:=hx_;cases e
  exact⟨ρ,l,H0,G0,G,hg,s,λp xs H' G' g hp gp e' r=>h p xs H' G' (s.gr.trans g) (s.gr.h.free hp) gp e' r⟩)⟩
theorem OA{j k n:Nat}{x:Str}{p:Pos}{ps:AK}{fn:AR->Option AR}(c:pq X.prog X.w X.K X.mg X.base j n x ps fn)(hr:Room k X.A)(hg:Gl X x)(ha:ZA X (e::es) ga)(hl:∀ρ l,ga ρ=some l->l.length=n)(hj:j<=k:=by first|exact qv _|lia)(hdb:cj x:=by decide)(he:Zc X e es:=by rfl)(hpl:Zd X pos es:=by rfl):
 ZF X (.Call (.Name x p) (e::es) [] pos) (cF ga fn):=by
 obtain⟨a,fd,F,hb,hk,hm⟩:=c;refine⟨PE.imp (vS (E:=E0) F (hr.mono hj) hg hm hk hb .nil ig ha.un hdb he hpl) λσ H Q hx_=>?_⟩;obtain⟨ρ,d,H0,G0,G,e,s,h⟩:=hx_;unfold cF at e;obtain⟨l,h1,h2⟩:=qa e;refine tAof.at h1 s λvs H1 G1 g1 r1 s1=>?_;rw[ja];exact⟨by rw[r1.length];exact hl ρ l h1,l,d,G1,s1.seen,r1,h2,λq xs H' G' g2 hp gp e' r2=>h q xs H' G' (g1.trans g2) (g1.h.free hp) gp e' r2⟩
def OB{x qual:Str}{st:Stmt}{f:Addr}{fd:FuncData}{N ps:AK}{k n m:Nat}{fb:AT}{gl:AX}(F:Fun K x qual st f fd)(S:b9 N ps (aBa st))(hn:N.length=n)(hm:ps.length=m)(hb:∀(cdv:Value) (A:Around) (outer:List Env) (s:Shared) (H:Hp) (E:XK),Room k (A.deeper (envOfC qual (aBa st) (~~~s) f cdv))->KL gl (bR bK P w K mg base N qual (aBa st) f cdv A outer s H E).nox (aDa st) fb):
 FnOk P w K mg base bK (k+1) f fd ps (zR K m (gm m n fb gl)):=by
 refine F.ok S (λvs H Q E h=>by rw[h.1,hm]) λcdv A outer s H vs Q E hr h=>?_;obtain⟨hl,ds,l,G,sm,r,e,q⟩:=h;refine⟨_,(hb cdv A outer s H E hr).un,?_⟩;unfold gm at e
 split at e
 .obtain⟨o,h1,h2⟩:=qa e
  cases o with
  | nx ρ=>exact⟨Yd n ds,ρ,l,H,G,G,h1,h2,by rw[<-hn];exact SR.start sm r,q⟩
  | rt d=>cases h2
  | bk ρ=>cases h2
  | ct ρ=>cases h2
 .cases e
end
def eL{us:AC}(h:us.length=1):∃a,us=[a]:=List.length_eq_one_iff.mp h
theorem dQ{us:AC}(h:us.length=2):∃c b,us=[c,b]:=by
 cases us with
 | nil=>cases h
 | cons a us=>
   obtain⟨d,rfl⟩:=eL (Nat.succ.inj h);symm
theorem dA{us:AC}(h:us.length=3):∃c b d,us=[c,b,d]:=by
 cases us with
 | nil=>cases h
 | cons a us=>
   obtain⟨e,b1,rfl⟩:=dQ (Nat.succ.inj h);symm
theorem fC{us:AC}(h:us.length=4):∃c b e d,us=[c,b,e,d]:=by
 cases us with
 | nil=>cases h
 | cons a us=>
   obtain⟨f,b1,b2,rfl⟩:=dA (Nat.succ.inj h);symm
theorem fD{us:AC}(h:us.length=5):∃c e f d b,us=[c,e,f,d,b]:=by
 cases us with
 | nil=>cases h
 | cons a us=>
   obtain⟨g,b1,b2,b3,rfl⟩:=fC (Nat.succ.inj h);symm
theorem fE{us:AC}(h:us.length=6):∃e d g f b c,us=[e,d,g,f,b,c]:=by
 cases us with
 | nil=>cases h
 | cons a us=>
   obtain⟨j,b1,b2,b3,i,rfl⟩:=fD (Nat.succ.inj h);symm
theorem lK{us:AC}(h:us.length=7):∃c g i f b e d,us=[c,g,i,f,b,e,d]:=by
 cases us with
 | nil=>cases h
 | cons a us=>
   obtain⟨l,b1,b2,b3,k,j,rfl⟩:=fE (Nat.succ.inj h);symm
end M
namespace M
variable {prog:P7}{s:Shared}{K:W7}{H0 G0:Hp}{X:Cx}{es rest ifs elts:AL}{fa fk f2 fo:AW}{pos pos' px pos2 p3 pos3 pos4 apos p1 cpos np:Pos}{pins:AB}{fd:AV}{gl:AX}{st:Stmt}{sts:List Stmt}{tg elt iter ie ke e2:Expr}{scope:Scope}{mg:AE}{base:Heap}{x1:Nat}
open PySem L2
def nr{c:Sort _}{a b:c}(h:a=b):a=b:=h
section
variable {ρ:Ro}
@[simp] def iQ(a fb:AW)(g:D->D->Option b):b2 a fb g ρ=(a ρ).bind λx=>(fb ρ).bind λy=>g x y:=nr rfl
@[simp] def iR(a:AW)(g:D->Option b):b1 a g ρ=(a ρ).bind g:=nr rfl
@[simp] def zV(d:D):kD d ρ=some d:=nr rfl
@[simp] def HI(f:AV):mB f ρ=(f ρ).map D.bl:=nr rfl
@[simp] def pv(f g:AV):cM f g ρ=(f ρ).bind λk=>if k=true then g ρ else some false:=nr rfl
@[simp] def zW(f g:AV):ec f g ρ=(f ρ).bind λk=>if k=true then some true else g ρ:=nr rfl
@[simp] def pz(f:AV):bL f ρ=(f ρ).map (!·):=nr rfl
@[simp] def pA(f g:AW):b_ f g ρ=((f ρ).bind iB).bind λk=>if k=true then g ρ else some (.bl false):=nr rfl
@[simp] def pB(f:AW):cZ f ρ=((f ρ).bind iB).map λk=>.bl (!k):=nr rfl
@[simp] def zX(c:AV)(f g:AW):iC c f g ρ=(c ρ).bind λk=>if k=true then f ρ else g ρ:=nr rfl
@[simp] def HJ(f:AX):lF f ρ=(f ρ).map D.lst:=nr rfl
@[simp] def pC:ae ρ=some []:=nr rfl
@[simp] def lL(f:AW)(g:AX):Yb f g ρ=(f ρ).bind λd=>(g ρ).map (d::·):=nr rfl
@[simp] def pD(f:AX):aD f ρ=(f ρ).bind λl=>if l.length<=bC then some (.tup l)else none:=nr rfl
@[simp] def pE(f:AX):aX f ρ=(f ρ).bind λl=>if l.length<=bC then some l else none:=nr rfl
@[simp] def HK(f:AX)(g:AR->Option D):cC f g ρ=(f ρ).bind g:=nr rfl
@[simp] def HL(f:AX)(g:AR->Option AR):cF f g ρ=(f ρ).bind g:=nr rfl
@[simp] def zY(f:AW)(a b:Option AW):iD f a b ρ=((f ρ).bind gb).bind λl=>(cS a ρ).bind λi=>(cS b ρ).bind λj=>some (bB l i j):=nr rfl
@[simp] def pF:cS none ρ=some none:=nr rfl
@[simp] def pG(f:AW):cS (some f) ρ=((f ρ).bind eJ).map some:=nr rfl
@[simp] def pI:ao ρ=some (.nx ρ):=nr rfl
@[simp] def pJ(i:Nat)(f:AW):aw i f ρ=(f ρ).map λd=>.nx (ρ.set i (↑d)):=nr rfl
@[simp] def pK(i:Nat)(f:AX):aW i f ρ=(f ρ).map λl=>.nx (ρ.set i (some (.ow l))):=nr rfl
@[simp] def pL(f:AW):ah f ρ=(f ρ).map .rt:=nr rfl
@[simp] def zZ(c:AV)(f g:AT):aI c f g ρ=(c ρ).bind λk=>if k=true then f ρ else g ρ:=nr rfl
@[simp] def pM(i:Nat)(f:AW)(g:AR->D->Option AR):bZ i f g ρ=(cL i ρ).bind λl=>(f ρ).bind λd=>(g l d).map λa=>.nx (ρ.set i (some (.ow a))):=nr rfl
@[simp] def pN(a:AX)(gt:AU)(fb:AT):bM a gt fb ρ=(a ρ).bind λb=>forM gt fb b ρ:=nr rfl
@[simp] def lM(a:AX)(b:List AN)(gt:AU)(fc:AV)(fe:AW):Yv a b gt fc fe ρ=(a ρ).bind λc=>dN gt fc fe (ar b ρ) c:=nr rfl
@[simp] def HM(a:AF)(f:AT):wF a f ρ=f (frz a ρ):=nr rfl
@[simp] def z6(i:Nat)(d:D):ak i d ρ=some (ρ.set i (↑d)):=nr rfl
def iS(g:AT):Out->Option Out
 | .nx a=>g a
 | o=>some o
@[simp] def lN(g:AT)(ρ':Ro):iS g (.nx ρ')=g ρ':=nr rfl
@[simp] def lO(g:AT)(d:D):iS g (.rt d)=some (.rt d):=nr rfl
@[simp] def lP(f g:AT):ag f g ρ=(f ρ).bind (iS g):=nr rfl
def iT:Out->Option D
 | .rt d=>some d
 | .nx _=>some .non
 | _=>none
@[simp] def pO(d:D):iT (.rt d)=some d:=nr rfl
@[simp] def pP(ρ:Ro):iT (.nx ρ)=some .non:=nr rfl
def Yj(h:a.length=k):aq k n fb a=(fb (Yd n a)).bind iT:=by
 unfold aq;rw[if_pos h];rfl
@[simp] def lQ(is:AF)(f:AV):o6 is f ρ=f (frz is ρ):=nr rfl
@[simp] def z_(b fb fc:AW)(g a:D->D->Option Bool):o4 b fb fc g a ρ=(b ρ).bind λx=>(fb ρ).bind λy=>(g x y).bind λk=>if k=true then (fc ρ).bind λz=>a y z else some false:=nr rfl
@[simp] def pQ:frz [] ρ=ρ:=nr rfl
@[simp] def lR(i:Nat)(a:AF):frz (i::a) ρ=frz a (frz1 i ρ):=nr rfl
end
@[simp] def lS(i j:Int):bS (.int i) (.int j)=some (.int (i+j)):=nr rfl
@[simp] def lT(i j:Int):cY (.int i) (.int j)=some (.int (i-j)):=nr rfl
def HN(h:-(2^64)<i/\i<2^64):d_ (.int i) (.int j)=some (.int (i*j)):=by
 simp only[d_,i2];rw[if_pos];simp only[Bool.or_eq_true,Qe,wj];exact .inl h
@[simp] theorem HP(h:0<j)(a:j<1073741824):bp (.int i) (.int j)=some (.int (i/j)):=by
 simp only[bp,i2];rw[if_pos];simp [wj];exact⟨h,a⟩
@[simp] theorem lU(h:0<j):az (.int i) (.int j)=some (.int (i%j)):=by
 simp only[az,i2];rw[if_pos];simp [wj];exact h
@[simp] def pR(i j:Int):fZ (.int i) (.int j)=some (decide (i<j)):=nr rfl
@[simp] def pS(i j:Int):Gq (.int i) (.int j)=some (decide (i<=j)):=nr rfl
@[simp] def pT(i j:Int):ix (.int i) (.int j)=some (decide (j<i)):=nr rfl
@[simp] def pU(i j:Int):xi (.int i) (.int j)=some (decide (j<=i)):=nr rfl
@[simp] def Aa(b:Bool):iB (.bl b)=some b:=nr rfl
@[simp] def pV(b:Bool):aN (.bl b)=some b:=nr rfl
@[simp] def lV(l:AR):aN (.lst l)=some (!l.isEmpty):=nr rfl
@[simp] def lW(l:AR):aN (.tup l)=some (!l.isEmpty):=nr rfl
@[simp] def gS(l:AR):Yc (.tup l)=some l:=nr rfl
@[simp] def gT(l:AR):Yc (.lst l)=some l:=nr rfl
@[simp] def gU(ns:AG):Yc (.scr ns)=some (ns.map D.int):=nr rfl
@[simp] def lX(c:D):ay [c]=(Yc c).map λl=>.int l.length:=nr rfl
@[simp] def lY(c:D):aL [c]=(Yc c).map D.tup:=nr rfl
@[simp] def jV(c:D):gc [c]=Yc c:=nr rfl
@[simp] def pW(b:Bool):eK [.bl b]=some (.int (if b then 1 else 0)):=nr rfl
@[simp] def HQ(c:D)(i:Int):ai c (.int i)=(Yc c).bind λl=>bj l i:=nr rfl
@[simp] def lZ(ns:AG):gb (.scr ns)=some (ns.map D.int):=nr rfl
@[simp] def OC(i:Int):eJ (.int i)=some i:=nr rfl
@[simp] def l0(i:Int):bz (.int i)=some (.int (-i)):=nr rfl
@[simp] theorem Ab(i j:Int):bx (.int i) (.int j)=(i==j):=by simp[bx,aE,PyData.eqv]
@[simp] theorem Ac(i j:Bool):bx (.bl i) (.bl j)=(i==j):=by simp[bx,aE,PyData.eqv]
@[simp] theorem HR(i j:Str):bx (.str i) (.str j)=(i==j):=by simp[bx,aE,PyData.eqv]
@[simp] theorem pX(l m:AR):bx (.tup l) (.tup m)=d9 l m:=by simp[bx,d9,aE,PyData.eqv]
@[simp] theorem pY(l m:AR):bx (.lst l) (.lst m)=d9 l m:=by simp[bx,d9,aE,PyData.eqv]
@[simp] theorem pZ:d9 [] []=true:=by simp[d9,cW,PyData.eqvAll]
@[simp] theorem OD(a b:D)(l m:AR):d9 (a::l) (b::m)=(bx a b&&d9 l m):=by simp[d9,bx,cW,PyData.eqvAll]
@[simp] theorem Ad(b:D)(m:AR):d9 [] (b::m)=false:=by simp[d9,cW,PyData.eqvAll]
@[simp] theorem Ae(b:D)(m:AR):d9 (b::m) []=false:=by simp[d9,cW,PyData.eqvAll]
@[simp] theorem p_(i:Int):br (.int i)=0:=by simp[br]
@[simp] theorem Af(i:Bool):br (.bl i)=0:=by simp[br]
@[simp] theorem qb(i:Str):br (.str i)=0:=by simp[br]
@[simp] theorem qs:br .non=0:=by simp[br]
@[simp] theorem qA(l:AR):br (.tup l)=bA l+1:=by simp[br]
@[simp] theorem qC(l:AR):br (.lst l)=bA l+1:=by simp[br]
@[simp] theorem l4:bA []=0:=by simp[bA]
@[simp] theorem jW(d:D)(l:AR):bA (d::l)=max (br d) (bA l):=by simp[bA]
theorem ej(h:br d<=60)(b:br e<=60):au a d e=some (if a then !bx d e else bx d e):=by
 unfold au;symm
theorem Ag(b:Yc c=some l)(h:br d<=60)(e:bA l<=60):cG a d c=some (if a then !fO d l else fO d l):=by
 unfold cG
 ext
theorem qD{d:Type}(enc:d->D)(p:d->Bool)(f:d->D):∀(l:List d),(∀a∈l,∃c,gt (enc a) ρ=some c/\fc c=some (p a)/\(p a=true->fe c=some (f a)))->
 dN gt fc fe ρ (l.map enc)=some ((l.filter p).map f)
 | [],_=>rfl
 | a::l,h=>by
   obtain⟨c,e,i,g⟩:=h a qh;have j:=qD enc p f l λb k=>h b (qg _ k);rw[Qd,dN];symm
@[simp] theorem l5(a:b)(l:List b):bj (a::l) 0=some a:=by
 have:=og (xs:=a::l) (j:=0) rfl;simpa using this
@[simp] theorem qE(a b:c)(l:List c):bj (a::b::l) 1=some b:=by
 have:=og (xs:=a::b::l) (j:=1) rfl;simpa using this
def HU{j:Nat}(a:i=(j:Int))(h:l[j]?=some v):bj l i=some v:=by
 subst a;exact og h
theorem fF{g:Type}(enc:g->D)(I:List g->Ro->Prop):∀(l c:List g) (ρ:Ro),I c ρ->
 (∀q a r ρ,c++l=q++a::r->I q ρ->∃f d,gt (enc a) ρ=some f/\fb f=some (.nx d)/\I (q++[a]) d)->∃ρ',M.forM gt fb (l.map enc) ρ=some (.nx ρ')/\I (c++l) ρ'
 | [],c,ρ,n,_=>⟨ρ,rfl,by ext⟩
 | a::l,c,ρ,n,m=>by
   obtain⟨f,d,o,p,j⟩:=m c a l ρ rfl n;obtain⟨ρ',h,k⟩:=fF enc I l _ d j λq b r ρ e i=>m q b r ρ (by ext) i;refine⟨ρ',?_,by ext⟩
   rwa [Qd,M.forM,o,qd,p]
def HV{gt:AU}{fb:AT}{α:Type}(enc:α->D)(p:α->Bool)(d:D)(I:Ro->Prop):∀(l:List α) (ρ:Ro),I ρ->
 (∀a∈l,∀ρ,I ρ->∃ρ1,gt (enc a) ρ=some ρ1/\((p a=true/\∃ρ2,fb ρ1=some (.nx ρ2)/\I ρ2)\/(p a=false/\fb ρ1=some (.rt d))))->
 (l.all p=true/\∃ρ',M.forM gt fb (l.map enc) ρ=some (.nx ρ')/\I ρ')\/(l.all p=false/\M.forM gt fb (l.map enc) ρ=some (.rt d))
 | [],ρ,h0,_=>.inl ⟨rfl,ρ,rfl,h0⟩
 | a::l,ρ,h0,hs=>by
   obtain⟨ρ1,e1,h⟩:=hs a qh ρ h0;rw[Qd,M.forM,e1,qd,List.all_cons];rcases h with⟨hp,ρ2,e2,h2⟩|⟨hp,e2⟩
   .rw[e2,qd,hp,Bool.true_and]
    exact HV enc p d I l ρ2 h2 λb hb=>hs b (qg _ hb)
   .rw[e2,qd,hp,Bool.false_and]
    exact .inr ⟨rfl,rfl⟩
def gW(a n:Int):cT a n=(List.range (n-a).toNat).map λi=>D.int (a+(i:Nat)):=rfl
theorem qF(h:-1000000<=n)(b:n<=1000000):cD [.int n]=some (cT 0 n):=by
 have a:bC=1000000:=by decide
 simp only[cD];rw[if_pos];simp only[Qe]
 ext
theorem qG(h:-1000000<=n)(e:n<=1000000)(d:-1000000<=a)(c:a<=1000000):ck [.int a,.int n]=some (cT a n):=by
 have b:bC=1000000:=by decide
 simp only[ck]
 ext
theorem Ah(h0:0<=i)(h:i<(l.length:Int)):∃v,v∈l/\bj l i=some v:=by
 have hk:i.toNat<l.length:=by lia
 exact⟨l[i.toNat],Qs hk,HU (j:=i.toNat) ∅ (qr hk)⟩
def eU{i:Nat}(h:i<l.length):bj l (i:Int)=some l[i]:=og (qr h)
theorem eD(f:a->b)(l:List a)(i:Int):bj (l.map f) i=(bj l i).map f:=by
 unfold bj;rw[qf]
 cases dZ _ i with
 | none=>rfl
 | some j=>
   ext
@[simp] theorem iU(x b:Nat):((x:Int)=(b:Int))↔x=b:=by lia
@[simp] theorem qH(a:Bool)(i j:Int):au a (.int i) (.int j)=some (if a then !decide (i=j)else decide (i=j)):=by
 rfl
@[simp] theorem Ai(a:Bool)(i j:Bool):au a (.bl i) (.bl j)=some (if a then !(i==j)else i==j):=by
 rw[ej nofun nofun,Ac]
@[simp] theorem qI(a:Bool):cw a .non .non=some (if a then false else true):=by cases a<;>rfl
@[simp] theorem qJ(a:Bool)(i:Int):cw a (.int i) .non=some (if a then true else false):=by cases a<;>rfl
@[simp] theorem Aj(a:Bool)(l:Bool):cw a (.bl l) .non=some (if a then true else false):=by cases a<;>rfl
@[simp] theorem l6{b:Type}(f:b->Bool):∀l:List b,bE (l.map λa=>.bl (f a))=some (l.map f)
 | []=>rfl
 | a::l=>by rw[Qd,bE,l6 f l];rfl
@[simp] theorem HX{b:Type}(f:b->Int):∀l:List b,c5 (l.map λa=>.int (f a))=some (l.map f)
 | []=>rfl
 | a::l=>by rw[Qd,c5,HX f l];rfl
@[simp] theorem HY(l:AG):c5 (l.map D.int)=some l:=by simpa using HX id l
@[simp] def l7(l:AR):dw [.lst l]=(bE l).map λa=>.bl (a.any id):=nr rfl
@[simp] def l8(l:AR):c6 [.lst l]=(bE l).map λa=>.bl (a.all id):=nr rfl
@[simp] def l9(l:AR):gg [.lst l]=(c5 l).map λns=>.int ns.sum:=nr rfl
@[simp] def l_(i:Nat)(fi f:AW)(g:AR->D->D->Option AR):oV i fi f g ρ=(f ρ).bind λd=>(cL i ρ).bind λl=>(fi ρ).bind λk=>(g l k d).map λl'=>.nx (ρ.set i (some (.ow l'))):=nr rfl
@[simp] def ma(c:D):oW c=(Yc c).map fP:=nr rfl
@[simp] def qK:bC=1000000:=nr rfl
@[simp] def Ak(d:D)(r:Ro):ab 0 (some (.sh d)::r)=some d:=nr rfl
@[simp] def HZ(d:D)(r:Ro):aa 0 (some (.sh d)::r)=some d:=nr rfl
@[simp] def OE(l:AR)(r:Ro):aa 0 (some (.ow l)::r)=some (.lst l):=nr rfl
@[simp] def WE(l:AR)(r:Ro):cL 0 (some (.ow l)::r)=some l:=nr rfl
@[simp] theorem WG(n:Nat)(b:AS)(r:Ro):ab (n+1) (b::r)=ab n r:=by simp[ab]
@[simp] theorem H8(n:Nat)(b:AS)(r:Ro):aa (n+1) (b::r)=aa n r:=by simp[aa]
@[simp] theorem WI(n:Nat)(b:AS)(r:Ro):cL (n+1) (b::r)=cL n r:=by simp[cL]
@[simp] def H_(l:AR)(r:Ro):frz1 0 (some (.ow l)::r)=some (.sh (.lst l))::r:=nr rfl
@[simp] def Ia(d:D)(r:Ro):frz1 0 (some (.sh d)::r)=some (.sh d)::r:=nr rfl
@[simp] theorem Ib(n:Nat)(b:AS)(r:Ro):frz1 (n+1) (b::r)=b::frz1 n r:=by
 unfold frz1;rw[List.getElem?_cons_succ]
 cases h:r[n]? with
 | none=>rfl
 | some o=>
   cases o with
   | none=>rfl
   | some b=>cases b<;>rfl
def fG(h:a.length+b.length<=1000000):bD (.lst a) (.lst b)=some (a++b):=if_pos h
def iV(h:l.length<1000000):bc l d=some (l++[d]):=if_pos h
def di{r:Ro}{b:Type}{enc:b->D}(f:b->D){l:List b}(h:∀a∈l,fe (some (.sh (enc a))::r)=some (f a)):dN (ak 0) tY fe (none::r) (l.map enc)=some (l.map f):=by
 have:=qD (gt:=ak 0) (fc:=tY) (ρ:=none::r) enc _ f l λa c=>⟨_,rfl,rfl,λ_=>h a c⟩
 rwa [List.filter_eq_self.mpr (λ_ _=>rfl)]at this
def ek{r:Ro}{b:Type}{enc:b->D}(p:b->Bool)(f:b->D){l:List b}(e:∀a∈l,fc (some (.sh (enc a))::r)=some (p a))(d:∀a∈l,p a=true->fe (some (.sh (enc a))::r)=some (f a)):
 dN (ak 0) fc fe (none::r) (l.map enc)=some ((l.filter p).map f):=
 qD enc p f l λa c=>⟨_,rfl,e a c,d a c⟩
def Al{fc:AV}{fe:AW}{r:Ro}{b:Type}{e1 e2:b->D}(p:b->Bool)(f:b->D){l:List b}(e:∀a∈l,fc (some (.sh (e1 a))::some (.sh (e2 a))::r)=some (p a))(d:∀a∈l,p a=true->fe (some (.sh (e1 a))::some (.sh (e2 a))::r)=some (f a)):
 dN (eT 0 1) fc fe (none::none::r) (l.map λa=>.tup [e1 a,e2 a])=some ((l.filter p).map f):=
 qD _ p f l λa c=>⟨_,rfl,e a c,d a c⟩
def Ic{a:Type}(enc:a->D)(d:a)(l:List a):fP (l.map enc)=(List.range l.length).map λi=>.tup [.int i,enc (l.getD i d)]:=by
 unfold fP;rw[qf];refine Qq λi b=>?_;simp[Qb b]
end M
namespace Bk
open PySem L2 M
abbrev bh:=Nat×Bool
abbrev AZ:=List bh
abbrev AY:=List AZ
inductive Kd where
 | e|s|i|n
 deriving DecidableEq
inductive Rl where
 | ei (l:AZ)
 | su (b:AF) (o:Bool)
 | im (b:AF) (h:AN)
 deriving DecidableEq
def kS:Kd->Str
 | .e=>.ofString "eithers"
 | .s=>.ofString "sums"
 | .i=>.ofString "ifs"
 | .n=>.ofString "nots"
def aJ(k:Kd):D:=.str (kS k)
abbrev nD(n:Nat):D:=.int n
def af(s:bh):D:=.tup [.int s.1,.bl s.2]
def aj:AN->D
 | none=>.non
 | some n=>.int n
def aA:Rl->D
 | .ei l=>.tup (l.map af)
 | .su b o=>.tup [.tup (b.map nD),.bl o]
 | .im b h=>.tup [.tup (b.map nD),aj h]
def Yk(k:Kd)(R:List Rl):D:=.tup [aJ k,.tup (R.map aA)]
@[simp] theorem Am(k:Kd):br (aJ k)=0:=by simp[aJ]
@[simp] theorem qL(s:bh):br (af s)=1:=by simp[af]
@[simp] theorem qM(h:AN):br (aj h)=0:=by cases h<;>simp[aj]
theorem An:∀{k j:Kd},kS k=kS j->k=j:=by
 intro k j
 cases k<;>cases j<;>first|symm|(exact λh=>absurd h (by decide +kernel))
@[simp] theorem md(k j:Kd):bx (aJ k) (aJ j)=decide (k=j):=by
 rw[aJ,aJ];by_cases h:k=j
 .simp[h]
 .have a:¬_:=λe=>h (An e)
  simp[h,a]
def qN(a:Bool)(k j:Kd):au a (aJ k) (aJ j)=some (if a then !decide (k=j)else decide (k=j)):=by
 rw[ej nofun nofun,md]
@[simp] theorem Ie(a:Bool)(k:Kd):au a (aJ k) (.str (Str.ofString "eithers"))=some (if a then !decide (k=.e)else decide (k=.e)):=qN a k .e
@[simp] theorem Ig(a:Bool)(k:Kd):au a (aJ k) (.str (Str.ofString "sums"))=some (if a then !decide (k=.s)else decide (k=.s)):=qN a k .s
@[simp] theorem Ih(a:Bool)(k:Kd):au a (aJ k) (.str (Str.ofString "ifs"))=some (if a then !decide (k=.i)else decide (k=.i)):=qN a k .i
@[simp] theorem Ii(a:Bool)(k:Kd):au a (aJ k) (.str (Str.ofString "nots"))=some (if a then !decide (k=.n)else decide (k=.n)):=qN a k .n
@[simp] theorem iW(a b:Nat):bx (nD a) (nD b)=decide (a=b):=by
 rw[Ab];symm
@[simp] theorem Ij(s t:bh):bx (af s) (af t)=decide (s=t):=by
 obtain⟨a,p⟩:=s;obtain⟨b,q⟩:=t;have:=iW a b;simp [af,this];by_cases d:a=b<;>by_cases c:p=q<;>simp[c]
theorem Ao{c:Type}[DecidableEq c]{enc:c->D}(e:∀a b,bx (enc a) (enc b)=decide (a=b))(s:c):∀l:List c,fO (enc s) (l.map enc)=decide (s∈l)
 | []=>by simp[fO]
 | t::l=>by
   have d:=Ao e s l;unfold fO at d ⊢;symm
theorem qO:∀{l:AR},(∀d∈l,br d<=n)->bA l<=n
 | [],_=>by simp
 | d::l,h=>Nat.max_le.mpr ⟨h d qh,qO λe a=>h e (qg _ a)⟩
theorem Ik{c:Type}[DecidableEq c]{enc:c->D}(d:∀a b,bx (enc a) (enc b)=decide (a=b)):∀l m:List c,d9 (l.map enc) (m.map enc)=decide (l=m)
 | [],[]=>by simp
 | [],b::m=>by simp
 | a::l,[]=>by simp
 | a::l,b::m=>by
   rw[Qd,Qd,OD,d,Ik d l m];by_cases e:a=b<;>by_cases f:l=m<;>simp[e]
def Ap{b:Type}{enc:b->D}{n:Nat}(h:∀a,br (enc a)<=n)(l:List b):bA (l.map enc)<=n:=qO λd c=>by
 obtain⟨x,_,rfl⟩:=qy c;exact h x
theorem qP(s:bh)(l:AZ)(a:Bool)(e:Yc c=some (l.map af)):cG a (af s) c=some (if a then !decide (s∈l)else decide (s∈l)):=by
 rw[Ag e nofun (qO λd b=>by obtain⟨x,_,rfl⟩:=qy b;simp),Ao Ij];symm
def c_(s:Nat)(l:AF)(a:Bool)(e:Yc c=some (l.map nD)):cG a (nD s) c=some (if a then !decide (s∈l)else decide (s∈l)):=by
 rw[Ag e nofun (qO λd b=>by obtain⟨x,_,rfl⟩:=qy b;simp),Ao iW]
@[simp] theorem qQ(s:bh):(Yc (af s)).bind (λl=>bj l 0)=some (.int s.1):=by simp[af]
@[simp] theorem qR(s:bh):(Yc (af s)).bind (λl=>bj l 1)=some (.bl s.2):=by simp[af]
@[simp] def mf(l:AZ):Yc (aA (.ei l))=some (l.map af):=nr rfl
@[simp] def mh(b:AF)(o:Bool):Yc (aA (.su b o))=some [.tup (b.map nD),.bl o]:=nr rfl
@[simp] def mi(b:AF)(h:AN):Yc (aA (.im b h))=some [.tup (b.map nD),aj h]:=nr rfl
@[simp] def iX(k:Kd)(R:List Rl):Yc (Yk k R)=some [aJ k,.tup (R.map aA)]:=nr rfl
def aC(ev:AH)(n:Nat):Bool:=ev.getD n false
def fR{ev:AH}(h:n<ev.length):bj (ev.map D.bl) (n:Int)=some (.bl (aC ev n)):=by
 rw[eD,eU h];simp[aC,h]
def In(k:Kd)(n:Nat):Rl->Prop
 | .ei l=>k=.e/\∀s∈l,s.1<n
 | .su b _=>k=.s/\∀x∈b,x<n
 | .im b h=>(k=.i\/k=.n)/\(∀x∈b,x<n)/\∀x,h=some x->x<n
def gn(s t:bh):Prop:=s.1<t.1\/(s.1=t.1/\s.2=false/\t.2=true)
def dR:Rl->Prop
 | .ei l=>l.length<=2/\l.Pairwise gn
 | .su b _=>b.Pairwise (·<·)
 | .im b _=>b.Pairwise (·<·)
def hd(ev:AH)(w:Bool):AN->Bool
 | none=>false
 | some x=>aC ev x==w
def gq(R:List Rl)(i:Nat):Rl:=R.getD i (.ei [])
def Aq{R:List Rl}{i:Nat}(h:i<R.length):gq R i∈R:=by simp[gq,h]
def Ar(R:List Rl):fP (R.map aA)=(List.range R.length).map λi:Nat=>.tup [.int (i:Int),aA (gq R i)]:=Ic aA _ R
def so(k:Kd)(ev:AH):Rl->Bool
 | .ei l=>l.any λs=>aC ev s.1==s.2
 | .su b o=>decide ((b.filter (aC ev)).length%2=1)==o
 | .im b h=>(b.any λx=>aC ev x != decide (k=.i))||hd ev (decide (k=.i)) h
end Bk
namespace Bk
def brk(k:Kd)(ev:AH)(R:List Rl):AF:=(List.range R.length).filter λi=>!so k ev (gq R i)
end Bk
namespace Bk
open PySem L2 M
def wo(b:Nat)(l:AF):AF:=l.filter λx=>!decide (x=b)
def iY(b:Nat)(l:AZ):AZ:=l.filter λs=>!decide (s.1=b)
def OF(k:Kd)(R:List Rl):D.tup [aJ k,.tup (R.map aA)]=Yk k R:=rfl
def Il(l:AZ):D.tup (l.map af)=aA (.ei l):=rfl
def Im(l:AF)(h:AN):D.tup [.tup (l.map nD),aj h]=aA (.im l h):=rfl
def OG(l:AF):D.tup [.tup (l.map nD),.non]=aA (.im l none):=rfl
def cH(k:Kd)(b:Nat)(a:Bool):Rl->Option Rl
 | .ei l=>if (b,a)∈l then none else some (.ei (iY b l))
 | .su l o=>if b∈l then (if wo b l=[]/\o=a then none else some (.su (wo b l) (o != a)))else some (.su l o)
 | .im l h=>if (h=some b/\a=decide (k=.i))\/(b∈l/\¬a=decide (k=.i))then none else some (.im (wo b l) (if h=some b then none else h))
def bT:Option Rl->D
 | none=>.non
 | some r=>aA r
@[simp] theorem As(a:Bool)(r:Rl):cw a (aA r) .non=some (if a then true else false):=by cases r<;>cases a<;>rfl
@[simp] theorem qS(a:Bool)(h:AN)(b:Nat):au a (aj h) (.int (b:Int))=some (if a then !decide (h=some b)else decide (h=some b)):=by
 cases h with
 | none=>
   rw[ej nofun nofun]
   have:bx (aj none) (.int b)=false:=by simp[aj,bx,aE,PyData.eqv]
   rw[this];simp
 | some x=>
   show au a (.int x) _=_;simp
theorem iZ:∀Q:List (Option Rl),((Q.filter λo=>o.isSome).map bT)=(Q.filterMap id).map aA
 | []=>rfl
 | none::Q=>by
   have:=iZ Q;simpa using this
 | some r::Q=>by
   have:=iZ Q;simp[this,bT]
def sz:Rl->Nat
 | .ei l=>l.length
 | .su b _=>b.length
 | .im b _=>b.length
theorem Io{n:Nat}:∀{l:AF}{a:Nat},l.Pairwise (·<·)->(∀x∈l,a<=x/\x<n)->l.length<=n-a
 | [],_,_,_=>Qh _
 | x::l,a,h,d=>by
   have e:=d x qh;have c:=List.pairwise_cons.mp h
   have f:=Io c.2 λy b=>⟨c.1 y b,(d y (qg _ b)).2⟩
   rw[qt];lia
def qT{n:Nat}{l:AF}(h:l.Pairwise (·<·))(a:∀x∈l,x<n):l.length<=n:=Io h λx b=>⟨Qh _,a x b⟩
theorem mj{k:Kd}{n:Nat}{r:Rl}(a:In k n r)(hs:dR r):sz r<=n+2:=by
 cases r with
 | ei l=>exact Qg hs.1 ∅
 | su b o=>exact Qg (qT hs a.2) ∅
 | im b o=>exact Qg (qT hs a.2.1) ∅
end Bk
namespace Bk
def cx:Rl->AF
 | .ei l=>l.map (·.1)
 | .su b _=>b
 | .im b none=>b
 | .im b (some x)=>b++[x]
def Au{b:Nat}{l:AF}(h:b∉l):wo b l=l:=List.filter_eq_self.mpr λx a=>by
 have:¬x=b:=λe=>h (e ▸ a);simp[this]
theorem OH{k:Kd}{b:Nat}{d:Bool}{r:Rl}(h:b∉cx r):cH k b d r=some r:=by
 cases r with
 | ei l=>
   have a:_∉l:=λe=>h (List.mem_map.mpr ⟨(b,d),e,rfl⟩)
   have c:iY b l=l:=List.filter_eq_self.mpr λs f=>by
    have:¬_:=λe=>h (List.mem_map.mpr ⟨s,f,e⟩);simp[this]
   simp[cH,a,c]
 | su l o=>simp[cH,show b∉l from h]
 | im l o=>
   cases o with
   | none=>
     have a:b∉l:=h;simp[cH,a,Au a]
   | some x=>
     have a:b∉l:=λe=>h (by simp[cx,e]);have c:¬x=b:=λe=>h (by simp[cx,e]);simp[cH,a,c,Au a]
end Bk
namespace Bk
open PySem L2 M
def mem_wo{b x:Nat}{l:AF}:x∈wo b l↔x∈l/\x≠b:=by simp[wo]
def mem_woS{b:Nat}{s:bh}{l:AZ}:s∈iY b l↔s∈l/\s.1≠b:=by simp[iY]
def Ip{k:Kd}{n:Nat}{r:Rl}(h:In k n r):∀x∈cx r,x<n:=by
 cases r with
 | ei l=>
   intro x a;obtain⟨s,c,rfl⟩:=qy a;exact h.2 s c
 | su b o=>exact h.2
 | im b o=>
   intro x a
   cases o with
   | none=>exact h.2.1 x a
   | some y=>
     rcases qw a with a|a
     .exact h.2.1 x a
     .rw[List.mem_singleton.mp a];exact h.2.2 y rfl
theorem Iq{b:Nat}{ev:AH}:∀{l:AF},l.Pairwise (·<·)->b∈l->(l.filter (aC ev)).length=((wo b l).filter (aC ev)).length+if aC ev b=true then 1 else 0
 | [],_,h=>by cases h
 | a::l,i,h=>by
   have d:=List.pairwise_cons.mp i;by_cases e:a=b
   .subst e
    have g:wo a (a::l)=l:=by
     have:=Au (λf=>Nat.lt_irrefl _ (d.1 a f));simpa [wo]using this
    rw[g];cases c:aC ev a<;>simp[c]
   .have f:b∈l:=by
     rcases qu h with z|z
     .exact absurd z.symm e
     .exact z
    have g:wo b (a::l)=a::wo b l:=by simp[wo,e]
    rw[g];cases c:aC ev a<;>simp[c,Iq d.2 f];lia
theorem OI{k:Kd}{n:Nat}{ev:AH}{b:Nat}{r q:Rl}(i:In k n r)(hs:dR r)(h:cH k b (aC ev b) r=some q):
 so k ev q=so k ev r/\(∀x∈cx q,x∈cx r/\x≠b)/\(r≠.su [] false->q≠.su [] false)/\In k n q/\dR q/\sz q<=sz r:=by
 cases r with
 | ei l=>
   rw[cH]at h
   split at h
   .cases h
   .rename_i t
    cases h;refine⟨?_,λx a=>?_,λ_ z=>(by cases z),⟨i.1,λs g=>i.2 s (mem_woS.mp g).1⟩,⟨Qg (Qn _ _) hs.1,hs.2.filter _⟩,Qn _ _⟩
    .rw[so,so,Bool.eq_iff_iff,List.any_eq_true,List.any_eq_true]
     refine⟨λ⟨s,f,c⟩=>⟨s,(mem_woS.mp f).1,c⟩,λ⟨s,f,c⟩=>⟨s,mem_woS.mpr ⟨f,λe=>t ?_⟩,c⟩⟩
     have:aC ev b=s.2:=by rw[<-e];simpa using c
     rw[this,<-e];exact f
    .obtain⟨s,g,rfl⟩:=qy a
     exact⟨List.mem_map.mpr ⟨s,(mem_woS.mp g).1,rfl⟩,(mem_woS.mp g).2⟩
 | su l o=>
   rw[cH]at h
   split at h
   .rename_i t
    split at h
    .cases h
    .rename_i u
     cases h;have v:l.Pairwise (·<·):=hs;have p:=Iq (ev:=ev) v t;refine⟨?_,λx a=>mem_wo.mp a,λ_ z=>u ?_,⟨i.1,λx a=>i.2 x (mem_wo.mp a).1⟩,v.filter _,Qn _ _⟩
     .rw[so,so,p]
      generalize ((wo b l).filter (aC ev)).length=m
      cases aC ev b with
      | false=>cases o<;>simp
      | true=>
        by_cases C:m%2=1
        .have c:¬(m+1)%2=1:=by lia
         cases o<;>simp[C,c]
        .have c:(m+1)%2=1:=by lia
         have E:m%2=0:=by ext
         cases o<;>simp[E,c]
     .injection z with D F
      exact⟨D,by cases o<;>cases w:aC ev b<;>simp[w]at F ⊢⟩
   .rename_i t
    cases h;exact⟨rfl,λx a=>⟨a,λe=>t (e ▸ a)⟩,λz=>z,i,hs,qv _⟩
 | im l o=>
   rw[cH]at h
   split at h
   .cases h
   .rename_i u
    cases h;have v:l.Pairwise (·<·):=hs;have A:=λe z=>u (.inl ⟨e,z⟩);have B:=λe=>Classical.byContradiction λz=>u (.inr ⟨e,z⟩);refine⟨?_,λx a=>?_,λ_ z=>(by cases z),⟨i.1,λx a=>i.2.1 x (mem_wo.mp a).1,λx a=>?_⟩,v.filter _,Qn _ _⟩
    .rw[so,so]
     have H:((wo b l).any λx=>aC ev x != decide (k=.i))=l.any λx=>aC ev x != decide (k=.i):=by
      rw[Bool.eq_iff_iff,List.any_eq_true,List.any_eq_true];refine⟨λ⟨x,f,c⟩=>⟨x,(mem_wo.mp f).1,c⟩,λ⟨x,f,c⟩=>⟨x,mem_wo.mpr ⟨f,λe=>?_⟩,c⟩⟩;rw[e]at f c;rw[B f]at c;simp at c
     rw[H];by_cases d:o=some b
     .have:=A d
      rw[if_pos d,d,hd,hd]
      have:(aC ev b==decide (k=.i))=false:=by simpa using this
      rw[this]
     .rw[if_neg d]
    .have G:x∈wo b l\/(o≠some b/\o=some x):=by
      by_cases d:o=some b
      .rw[if_pos d]at a
       exact .inl a
      .rw[if_neg d]at a
       cases o with
       | none=>exact .inl a
       | some y=>
         rcases qw a with a|a
         .exact .inl a
         .rw[List.mem_singleton.mp a];exact .inr ⟨d,rfl⟩
     rcases G with a|⟨d,a⟩
     .have:=mem_wo.mp a
      refine⟨?_,this.2⟩
      cases o with
      | none=>exact this.1
      | some y=>exact List.mem_append_left _ this.1
     .subst a
      exact⟨Qr _ qh,λe=>d (by rw[e])⟩
    .split at a
     .cases a
     .exact i.2.2 x a
def vd:Kd->Rl
 | .e=>.ei []
 | .s=>.su [] true
 | _=>.im [] none
end Bk
namespace M
variable {prog:P7}{s:Shared}{K:W7}{H0 G0:Hp}{X:Cx}{es rest ifs elts:AL}{fa fk f2 fo:AW}{pos pos' px pos2 p3 pos3 pos4 apos p1 cpos np:Pos}{pins:AB}{fd:AV}{gl:AX}{st:Stmt}{sts:List Stmt}{tg elt iter ie ke e2:Expr}{scope:Scope}{mg:AE}{base:Heap}{x1:Nat}
open PySem PySem.Spec PyProof.Rows L2
def fH(f:AW)(gt:AU):AT:=λρ=>(f ρ).bind λd=>(gt d ρ).map Out.nx
@[simp] theorem qU{ρ:Ro}(f:AW)(gt:AU):fH f gt ρ=(f ρ).bind λd=>(gt d ρ).map Out.nx:=ye rfl
theorem Av{a e:Expr}{f:AW}{gt:AU}(b:ZG X a gt)(c:ZE X e f)(hs:swapsWithSole [a] e pos.line X.env=pure false:=by rfl)(n:swappedStores [a] e X.env=pure none:=by rfl)(g:(assignEach [a] X.env).map (·.2)=[assign a X.env]:=by rfl):ZS X (.Assign [a] e pos) (fH f gt):=⟨have b:=b.un;have c:=c.un;PS.imp (Fm c b hs n g) λF σ H i=>by
 obtain⟨ρ,out,q,r,G,e,s,h⟩:=i;obtain⟨d,g,e⟩:=qa e;obtain⟨ρ',m,rfl⟩:=qc e
 exact tOf.at g s λv o j p l k=>⟨d,ρ,ρ',_,_,j,m,k,l,λσ' s'=>h _ o j s'⟩⟩
section
open Sem (wp)
section
variable {w:World}{A:Around}{E:AA}{p p2:Pos}{a b:Expr}
theorem OJ{Q:AC->Shared->Prop}{r:Addr}{a b c:Int}{t u v:Tok}{n:Nat}(hh:A.handled=none)(hr:IsRange s.heap r a b c t u v)(hsmall:Builtin.Range.small a b c=true)(hn:Builtin.Range.rangeSize a b c=n)(hlen:n<=2^24)(hQ:∀(h':Heap) tk acc,(∀b o,s.heap.get? b=some o->h'.get? b=some o)->ItemsOf (λi v=>∃t,v=.int (a+i*c) t) acc n->Q acc.toList {s with heap:=h',toks:=tk}):wpAny (mZ prog w) A (collect (.ref r)) Q E s:=by
 unfold collect;refine wa (wpAny_runValue (w5 F.entry_proto_collect ?_));rw[je F.plain_proto_collect _];show wpAny _ A.in1 (newList []>>=λl=>again (.builtin "list.__iadd__" ⟨[l,.ref r],[]⟩)) _ _ s;refine wa (wf ?_);refine wc ⟨jd F.plain_list_iadd _,w5 F.entry_list_iadd ?_⟩;rw[je F.plain_list_iadd _];have hS₁:(s.heap.push {cls:=.type "list",data:=.seq ([]:AC).toArray}).get? (~~~s)=some {cls:=.type "list",data:=.seq ([]:AC).toArray}:=qp _ rfl;have hr₁:IsRange (s.heap.push {cls:=.type "list",data:=.seq ([]:AC).toArray}) r a b c t u v:=qe _ hr;show wpAny _ A.in1 (Builtin.List.listExtendWith (.ref (~~~s)) (.ref r) (.ref (~~~s))) _ _ _
 refine w6 (wpAny_extend_range (A:=A) (R:=λx s'=>x=.ok (.ret (.ref (~~~s)))/\∃(h':Heap) (tk:Nat) (acc':Array Value) (c':Nat),(∀b o,s.heap.get? b=some o->h'.get? b=some o)/\h'.get? (~~~s)=some {cls:=.type "list",dict:=none,data:=.seq acc' c',slots:=#[]}/\ItemsOf (λi v=>∃t,v=.int (a+i*c) t) acc' n/\s'={s with heap:=h',toks:=tk})
  hh hr₁ hsmall hn hlen _ _ 0 hS₁ (λh' tk acc' c' k1 k2 k3=>⟨rfl,h',tk,acc',c',λb o e=>k1 b o (qm (ql e)) (qe _ e),k2,k3,rfl⟩)) (λfin s' h=>?_) (λe s' h=>?_)
 .have fin':∀s':Shared,(∃(h':Heap) (tk:Nat) (acc':Array Value) (c':Nat),(∀b o,s.heap.get? b=some o->h'.get? b=some o)/\h'.get? (~~~s)=some {cls:=.type "list",dict:=none,data:=.seq acc' c',slots:=#[]}/\ItemsOf (λi v=>∃t,v=.int (a+i*c) t) acc' n/\s'={s with heap:=h',toks:=tk})->
   wpAny (mZ prog w) A (match Value.ref (~~~s) with
    | Value.ref a=>do
      match (<-load a).data with
       | Data.seq xs _=>pure xs.toList
       | _=>unsupported "internal:collect"
    | _=>unsupported "internal:collect") Q E s':=λs' hx=>by
   obtain⟨h',tk,acc',c',k1,k2,k3,rfl⟩:=hx;show wpAny _ A (load (~~~s)>>=_) _ _ _;refine wa (wpAny_load k2 ?_);exact wc (hQ h' tk acc' k1 k3)
  cases fin with
  | done f=>
    obtain⟨e,hx⟩:=h;cases e;exact fin' _ hx
  | again c'=>exact⟨h.1,codeAny_mono h.2 λr s'' hr=>by obtain⟨rfl,hx⟩:=hr;exact fin' _ hx⟩
 .exact absurd h.1 nofun
theorem OK{Q₁:AA}{r:Addr}{a b c:Int}{t u v:Tok}{n:Nat}(hh:A.handled=none)(hr:IsRange s.heap r a b c t u v)(hsmall:Builtin.Range.small a b c=true)(hn:Builtin.Range.rangeSize a b c=n)(hlen:n<=2^24)(h:∀(h':Heap) tk acc,(∀b o,s.heap.get? b=some o->h'.get? b=some o)->ItemsOf (λi v=>∃t,v=.int (a+i*c) t) acc n->Q₁ (.ref h'.objs.size) {s with heap:=h'.push {cls:=.type "tuple",data:=.seq acc},toks:=tk}):
 codeAny (mZ prog w) A (.call (.builtin "tuple.__new__") ⟨[.type "tuple",.ref r],[]⟩) (wants Q₁ E) s:=by
 refine codeAny_of_tree ?_;show wpAny _ A.in1 (do checkBuiltinCall "tuple.__new__" ⟨[.type "tuple",.ref r],[]⟩;again (.builtin "tuple.__new__" ⟨[.type "tuple",.ref r],[]⟩)) _ _ s;refine wa (wpAny_of_eq (F.newCall_tuple_1 _) (wc ⟨jd F.plain_tuple_new _,w5 F.entry_tuple_new ?_⟩));rw[je F.plain_tuple_new _];have hsub:=sub_tuple_self;have hinit:=init_tuple_lookup;have hmh:=madeHere_tuple
 have hTI:s.TypeIs (.ref r) "range":=⟨_,hr,rfl⟩
 wp_walk using wpAny_typeOf hTI,OJ (A:=A.in1) hh hr hsmall hn hlen
 intro h' tk acc hm hacc;show wpAny _ _ (Builtin.Tuple.tupleExact acc.toList.toArray>>=λv=>ret v) _ _ _;unfold Builtin.Tuple.tupleExact;refine wa (wf ?_ (by show acc.toList.toArray.size<=sizeLine;simp only[Array.toArray_toList];rw[hacc.1,ji];lia));refine wc ?_
 have e:acc.toList.toArray=acc:=by simp
 rw[e];exact h h' tk acc hm hacc
def OL{Q:AA}{r:Addr}{a b c:Int}{t u v:Tok}{n:Nat}(hh:A.handled=none)(hr:IsRange s.heap r a b c t u v)(hsmall:Builtin.Range.small a b c=true)(hn:Builtin.Range.rangeSize a b c=n)(hlen:n<=2^24)(hQ:∀(h':Heap) tk acc,(∀b o,s.heap.get? b=some o->h'.get? b=some o)->ItemsOf (λi v=>∃t,v=.int (a+i*c) t) acc n->Q (.ref h'.objs.size) {s with heap:=h'.push {cls:=.type "tuple",data:=.seq acc},toks:=tk}):
 wpAny (mZ prog w) A (call (.type "tuple") [.ref r]) Q E s:=by
 refine callType_codes (Q₁:=λobj s₁=>s₁.TypeIs obj "tuple"/\Q obj s₁) F.called_tuple (F.typeCall_tuple_1 _) F.entry_object_init
  (OK (A:=A.in1) hh hr hsmall hn hlen λh' tk acc hm hacc=>⟨⟨_,qp _ rfl,rfl⟩,hQ h' tk acc hm hacc⟩) λobj s₁ h₁=>?_
 exact⟨h₁.1,F.args_object_init_2 obj _,object_init_meets F.called_tuple.init.lookup F.called_tuple.made (by decide) prog w A.in1 _ s₁ ⟨h₁.1,rfl,h₁.2⟩⟩
theorem Ir(i:Int):∀(l:AC) (o:Nat),(∀(k:Nat) (v:Value),l[k]?=some v->∃t,v=Value.int (i+((o+k:Nat):Int)) t)->Vals ((List.range l.length).map λk:Nat=>V.int (i+((o+k:Nat):Int))) l
 | [],o,_=>.nil
 | v::l,o,h=>by
   obtain⟨t,ht⟩:=h 0 v rfl;rw[qt,List.range_succ_eq_map,Qd,Qf];refine .cons (by rw[ht];exact⟨t,rfl⟩) ?_
   have ih:=Ir i l (o+1) λk u hu=>by
    obtain⟨t,ht⟩:=h (k+1) u (by rw[List.getElem?_cons_succ];exact hu);exact⟨t,by rw[ht];congr 2;lia⟩
   have e:((λk:Nat=>V.int (i+((o+k:Nat):Int))) ∘ Nat.succ)=λk:Nat=>V.int (i+((o+1+k:Nat):Int)):=funext λk=>by
    show V.int (i+((o+(k+1):Nat):Int))=_
    congr 2
    lia
   rw[e];exact ih
def OM(ta:TA):TE:=λσ H Q=>ta σ H λvs H1=>∃i j:Int,vs=[.int i,.int j]/\-1000000<=i/\i<=1000000/\-1000000<=j/\j<=1000000/\∀l,H1 l=none->Q (.ref l) (upd H1 l (.tup ((List.range (j-i).toNat).map λk:Nat=>V.int (i+(k:Nat)))))
theorem ON{ta:TA}(hc:X.calm=true)(hg:Gl X "tuple")(hm:X.mg "tuple"=none)(hg2:Gl X "range")(hm2:X.mg "range"=none)(ha:PA X [a,b] ta)(hs:starEach [a,b] X.env=[(false,eval a X.env),(false,eval b X.env)]:=by rfl)(hs2:starEach [b] X.env=[(false,eval b X.env)]:=by rfl)(he:starEach [.Call (.Name "range" p2) [a,b] [] pos2] X.env=[(false,eval (.Call (.Name "range" p2) [a,b] [] pos2) X.env)]:=by rfl):
 PE X (.Call (.Name "tuple" p) [.Call (.Name "range" p2) [a,b] [] pos2] [] pos) (OM ta):=by
 intro pins s σ H Q I h;refine wpAny_Call_Name_kw (gJ I hg hm boot_tuple ?_ (by decide) (by decide));refine PyProof.Rows.callWith_type1 ?_ he rfl;rw[he];refine Calls.spliced_cons (Call_ (gJ I hg2 hm2 boot_range (PyProof.Rows.callWith_type1 (aF (ha pos2 pins s σ H _ I h) λus s1 hx=>?_) (by rw[hs,hs2]) (by rw[hs2];rfl))));obtain⟨vs,H1,I1,r1,i,j,rfl,q1,q2,q3,q4,q⟩:=hx
 cases r1 with
 | cons r rr=>
   cases rr with
   | cons r' rr=>
     cases rr;obtain⟨t,rfl⟩:=r;obtain⟨t',rfl⟩:=r';refine call_range_2 (Calls.spliced_nil ?_);have hh:X.A.handled=none:=I1.ok.hd hc;refine OL hh (IsRange.new ..) (small_one ∅ ∅ ∅ ∅) (n:=(j-i).toNat) (by rw[rangeSize_one];split<;>lia) ∅ λh' tk acc hk hacc=>?_
     have hv:Vals ((List.range (j-i).toNat).map λk:Nat=>V.int (i+(k:Nat))) acc.toList:=by
      have:=Ir i acc.toList 0 λk v hv=>by
       obtain⟨t,ht⟩:=hacc.2 k v (by rw[<-Array.getElem?_toList];exact hv);exact⟨t,by rw[ht,Int.mul_one,Nat.zero_add]⟩
      rw[qj,hacc.1]at this;simpa using this
     have I2:Inv X pins σ H1 {s1 with heap:=h',toks:=tk}:=I1.kept (t':=tk) λb o e=>hk b o (qe _ e);refine⟨.ref h'.objs.size,upd H1 h'.objs.size (.tup ((List.range (j-i).toNat).map λk:Nat=>V.int (i+(k:Nat)))),?_,rfl,q _ (I2.hok.fresh (qv _))⟩
     have ea:acc=acc.toList.toArray:=by simp
     refine I2.laid (t':=tk) (λb o e=>qe _ e) (qv _) (show ObjOk X.prog X.w _ _ _ (.tup ((List.range (j-i).toNat).map λk:Nat=>V.int (i+(k:Nat)))) from⟨?_,acc.toList,hv,by rw[<-ea];exact IsTup.new _ _⟩);rw[qf,List.length_range,ji];lia
theorem OP{K:W7}{G:Hp}(i:Int)(l:AF):RpL K G (l.map λk:Nat=>D.int (i+(k:Nat))) (l.map λk:Nat=>V.int (i+(k:Nat))):=by
 induction l with
 | nil=>exact .nil
 | cons a l ih=>exact .cons (by rw[Rp]) ih
theorem OQ{ga:AX}(hc:X.calm=true)(hg:Gl X "tuple")(hm:X.mg "tuple"=none)(hg2:Gl X "range")(hm2:X.mg "range"=none)(ha:ZA X [a,b] ga)(hs:starEach [a,b] X.env=[(false,eval a X.env),(false,eval b X.env)]:=by rfl)(hs2:Ze X b:=by rfl)(he:starEach [.Call (.Name "range" p2) [a,b] [] pos2] X.env=[(false,eval (.Call (.Name "range" p2) [a,b] [] pos2) X.env)]:=by rfl):
 ZE X (.Call (.Name "tuple" p) [.Call (.Name "range" p2) [a,b] [] pos2] [] pos) (λρ=>(cF ga ck ρ).map D.tup):=⟨have ha:=ha.un;
 PE.imp (ON hc hg hm hg2 hm2 ha hs hs2 he) λσ H Q hx_=>by
  obtain⟨ρ,d0,H0,G0,G,e,s,h⟩:=hx_;obtain⟨l,h0,rfl⟩:=qc e;unfold cF at h0;obtain⟨ds,h1,h2⟩:=qa h0;obtain⟨i,j,rfl,c1,c2,c3,c4,rfl⟩:=GH h2;refine tAof.at h1 s λvs H1 G1 g1 r1 s1=>?_;rw[RpL]at r1;obtain⟨x,r,rfl,rx,r1⟩:=r1;obtain⟨y,rfl,ry⟩:=iF r1;rw[Rp]at rx ry;subst rx;subst ry;refine⟨i,j,rfl,c1,c2,c3,c4,λm hm'=>h _ _ _ (g1.trans (.new s1.seen hm' _)) ?_⟩;rw[Rp]
  exact⟨m,_,rfl,Yi,OP i _⟩⟩
end
end
def aY(c f:Str):D->Option D
 | .obj a d b=>if a=c then (d.zip b).lookup f else none
 | _=>none
def CF(K:W7)(c f:Str):Prop:=∀C,W.nsIn K mainGlobals c=some (some (.ref C))->Cls K C/\NoAttr K C f
theorem RpL.look{G:Hp}{f:Str}:∀{ks:AK}{vs:AR}{xs:AQ}{d:D},RpL K G vs xs->(ks.zip vs).lookup f=some d->∃v,(ks.zip xs).lookup f=some v/\Rp K G d v
 | [],_,_,_,_,e=>by simp at e
 | _::_,[],_,_,_,e=>by simp at e
 | k::ks,b::vs,xs,d,r,e=>by
   obtain⟨x,a,rfl,g,q⟩:=r;rw[List.zip_cons_cons,List.lookup_cons]at e ⊢
   cases h:(f==k)with
   | true=>
     rw[h]at e;cases e;exact⟨x,rfl,g⟩
   | false=>
     rw[h]at e;exact RpL.look q e
section
variable {e o:Expr}{c f:Str}
def dS(P:P7)(w:World)(K:W7)(d:AE)(a:Heap)(k:Nat)(c m:Str)(e:AK)(sp:Sp):Prop:=
 ∃C f b,FnOk P w K d a bK k f b e sp/\Binds K b e []/\W.nsIn K mainGlobals c=some (some (.ref C))/\Cls K C/\dI K C m f
def bw(c m:Str)(b:AR->Option D):D->Option D
 | .obj a d e=>if a=c/\m∉d then b [.obj a d e]else none
 | _=>none
theorem qV{f:Str}:∀{ks:AK}{xs:AQ},f∉ks->(ks.zip xs).lookup f=none
 | [],_,_=>by simp
 | _::_,[],_=>by simp
 | k::ks,x::xs,h=>by
   rw[List.zip_cons_cons,List.lookup_cons]
   have a:(f==k)=false:=by
    rw[beq_eq_false_iff_ne];exact λz=>h (by rw[z];exact qh)
   rw[a];exact qV λz=>h (qg _ z)
end
inductive b8 (τ:Type) where
 | nx (ρ:Ro) (t:τ)|rt (d:D) (t:τ)|bk (ρ:Ro) (t:τ)|ct (ρ:Ro) (t:τ)
def qW(l:Addr)(H H':Hp):Prop:=∀a,a≠l->H' a=H a
structure WR(K:W7)(l:Addr)(o:HO)(H0 G0:Hp)(σ:L2.St)(H G:Hp)(ρ:Ro):Prop where
 sr:SR K H0 G0 σ H G ρ
 g0:G0 l=none
 h0:H0 l=some o
def Aw{f:Type}(b:f->HO)(K:W7)(l:Addr)(c e:Hp)(F:Ends):b8 f->Prop
 | .nx i t=>∀g h j a,qW l c a->WR K l (b t) a e g h j i->F.nx g h
 | .rt d t=>∀v h j a,qW l c a->a l=some (b t)->Gr a e h j->Rp K j d v->F.rt v h
 | .bk i t=>∀g h j a,qW l c a->WR K l (b t) a e g h j i->F.bk g h
 | .ct i t=>∀g h j a,qW l c a->WR K l (b t) a e g h j i->F.ct g h
def ml{b:Type}(a:b->HO)(K:W7)(l:Addr)(f:Ro->b->Option (b8 b)):TS:=λF h H=>∃g t e c d G,f g t=some e/\WR K l (a t) c d h H G g/\Aw a K l c d F e
abbrev WS{b:Type}(a:b->HO)(X:Cx)(l:Addr)(st:Stmt)(f:Ro->b->Option (b8 b)):Prop:=PS X st (ml a X.K l f)
abbrev WB{b:Type}(a:b->HO)(X:Cx)(l:Addr)(c:List Stmt)(f:Ro->b->Option (b8 b)):Prop:=PSs X c (ml a X.K l f)
section
variable {τ:Type}{rep:τ->HO}{l:Addr}{fs gs:Ro->τ->Option (b8 τ)}
def WT(rep:τ->HO)(X:Cx)(l:Addr)(c:Expr)(f:Ro->τ->Option Bool):Prop:=PT X c λg H Q=>∃d t k b a G,f d t=some k/\WR X.K l (rep t) b a g H G d/\∀e h,Gr H G e h->Q k e
end
abbrev wl(t:AH):HO:=.lst (t.map .bl)
abbrev wks:AK:=["book","hands","truths"]
abbrev aZ(b h x:D):D:=.obj "Watch" wks [b,h,x]
theorem Iu{G:Hp}:∀t:AH,RpL K G (t.map D.bl) (t.map V.bl)
 | []=>.nil
 | b::t=>.cons (by rw[Rp]) (Iu t)
def RpL.three{G:Hp}{a b c:D}{xs:AQ}(r:RpL K G [a,b,c] xs):∃x y z,xs=[x,y,z]/\Rp K G a x/\Rp K G b y/\Rp K G c z:=by
 obtain⟨x,g,rfl,d,r⟩:=r;obtain⟨y,i,rfl,f,r⟩:=r;obtain⟨z,h,rfl,e,r⟩:=r;subst r;exact⟨x,y,z,rfl,d,f,e⟩
def OR(K:W7)(f1:AT)(f2 f3:AW):Sp:=λvs H Q _=>vs.length=3/\∃x C dx vb vh b h d2 d3 G,vs=[.ref x,vb,vh]/\W.nsIn K mainGlobals "Watch"=some (some (.ref C))/\H x=some (.ins C dx [])/\G x=none/\Same G H/\Rp K G b vb/\Rp K G h vh/\
 f1 [↑(.adr x),↑b,↑h]=some (.nx [↑(.adr x),↑b,↑h])/\f2 [↑(.adr x),↑b,↑h]=some d2/\f3 [↑(.adr x),↑b,↑h]=some d3/\
 ∀l y1 y2 H' G',(∀y o,y≠x->H y=some o->H' y=some o)->H' x=some (.ins C dx (wks.zip [y1,y2,.ref l]))->H l=none->l≠x->H' l=some (wl [])->G' l=none->G' x=none->Same G G'->Same G' H'->(∀y,G y=none->G' y≠none->H y=none)->Rp K G' d2 y1->Rp K G' d3 y2->Q .non H'
def qX(p:Prop)(a:Option Out):Option Out:=@ite _ p (Classical.propDecidable p) a none
def Iv{p:Prop}{a:Option Out}(h:p):qX p a=a:=@if_pos p _ h _ _ _
def OS{p:Prop}{a:Option Out}{o:Out}(e:qX p a=some o):p/\a=some o:=by
 by_cases h:p
 .rw[Iv h]at e
  exact⟨h,e⟩
 .have:qX p a=none:=@if_neg p _ h _ _ _
  rw[this]at e;cases e
abbrev Wm:=Ro->AH->Option (b8 AH)
structure WJ(X:Cx)(l:Addr)(st:Stmt)(f:Wm):Prop where
 un:WS wl X l st f
structure WK(X:Cx)(l:Addr)(sts:List Stmt)(f:Wm):Prop where
 un:WB wl X l sts f
structure WL(X:Cx)(l:Addr)(c:Expr)(f:Ro->AH->Option Bool):Prop where
 un:WT wl X l c f
section
variable {l:Addr}{fs gs:Wm}{e o:Expr}{f:AW}{c m:Str}
def fS{f:Str}(k:CF X.K c f)(j:ZE X e fa)(D:attributeBase e f X.env (eval e X.env)=eval e X.env:=by rfl):ZE X (.Attribute e f pos) (b1 fa (aY c f)):=⟨have j:=j.un;
 PE.imp (FG j D) λL H Q p=>by
  obtain⟨K,d,I,J,G,e,s,h⟩:=p;obtain⟨x,F,b⟩:=dM e;refine tOf.at F s λv u t E A y=>?_
  cases x with
  | obj r m o=>
    change (if r=c then (m.zip o).lookup f else none)=some d at b
    by_cases i:r=c
    .rw[if_pos i]at b
     subst i;obtain⟨a,C,w,M,rfl,n,g,l,q⟩:=A;obtain⟨v,z,B⟩:=q.look b;exact⟨a,C,w,_,v,rfl,y.seen _ _ g,(k C n).1,(k C n).2,z,h v u t E B⟩
    .rw[if_neg i]at b
     cases b
  | _=>cases b⟩
theorem OT{j k:Nat}{ps:AK}{u:AR->Option D}{pl:Sem Bool}(O:dS X.prog X.w X.K X.mg X.base j c m ps (bu X.K 1 u))(R:Room k X.A)(r:ZE X o fo)(K:j<=k:=by first|exact qv _|lia)(V:eval (.Call (.Attribute o m apos) [] [] pos) X.env=(do
  let A <-eval o X.env
  standAt apos.atName
  let (f,first) <-holding [A] (getMethod A m pl)
  callWith pos f first (backTo pos (starEach [] X.env)) (backToKw pos (keywordEach [] X.env))):=by rfl):ZE X (.Call (.Attribute o m apos) [] [] pos) (b1 fo (bw c m u)):=⟨have r:=r.un;by
 intro pins s σ H Q I i;obtain⟨ρ,d,W,G0,G,e,P,h⟩:=i;obtain⟨x,J,b⟩:=dM e
 cases x with
 | obj t ks vs=>
   change (if t=c/\m∉ks then u _ else none)=some d at b
   by_cases p:t=c/\m∉ks
   .rw[if_pos p]at b
    obtain⟨rfl,B⟩:=p;obtain⟨C,f,Y,F,hb,z,L,M⟩:=O;refine LP r L M F (R.mono K) hb .nil ig V _ s σ H Q I (tOf.at J P λv Z N U S w=>?_);obtain⟨a,C',y,xs,rfl,n,g,l,q⟩:=S;rw[z]at n;cases n;refine⟨a,y,_,rfl,w.seen _ _ g,qV B,⟨rfl,[_],d,N,w.seen,.one ?_,b,λv H' G' E T=>h v H' G' (U.trans E) T⟩⟩;exact⟨a,C,y,xs,rfl,z,g,l,q⟩
   .rw[if_neg p]at b
    cases b
 | _=>cases b⟩
def OkI(P:P7)(w:World)(K:W7)(mg:AE)(base:Heap)(k:Nat)(ps:AK)(f1:AT)(f2 f3:AW):Prop:=
 ∃C f fd,W.nsIn K mainGlobals "Watch"=some (some (.ref C))/\mg "Watch"=some (.ref C)/\Mk K C f/\FnOk P w K mg base bK k f fd ps (OR K f1 f2 f3)/\Binds K fd ps []
end
def Mq(K:W7)(c m q:Str)(st:Stmt):Prop:=∃C f b,W.nsIn K mainGlobals c=some (some (.ref C))/\Cls K C/\dI K C m f/\Fun K m q st f b
def mq_mk{K:W7}{c m q:Str}{st:Stmt}{C f:Addr}{o:Value}{s p:Option Addr}{e:Array (Option Value)}{kV g u d w:Value}(a:W.nsIn K mainGlobals c=some (some (.ref C)))(v:W.plainGet K C Str.empty=true)(r:W.hasDictIn K C=true)(j:W.plainOver K C=true)(t:W.findIn K (.ref C) "__setattr__"=some (some (.builtin "object.__setattr__")))(i:W.findIn K (.ref C) m=some (some (.ref f)))(n:W.isFn K (.ref f)=true)(l:K.lookup f=some ⟨o,s,.func (W.fnOf m q (aEa st) (aDa st) (aBa st) .none kV g u p d w),e⟩)(h:W.codeIn K d q=true)(k:W.keepIn K (.ref f)=true):Mq K c m q st:=
 ⟨C,f,_,a,⟨v,r,j,t⟩,⟨i,n,k⟩,kX l h k⟩
def Nq(K:W7)(c f:Str):Prop:=∃C,W.nsIn K mainGlobals c=some (some (.ref C))/\Cls K C/\NoAttr K C f
def nq_mk{K:W7}{c f:Str}{C:Addr}(a:W.nsIn K mainGlobals c=some (some (.ref C)))(g:W.plainGet K C Str.empty=true)(h:W.hasDictIn K C=true)(e:W.plainOver K C=true)(d:W.findIn K (.ref C) "__setattr__"=some (some (.builtin "object.__setattr__")))(n:W.findIn K (.ref C) f=some none):Nq K c f:=
 ⟨C,a,⟨g,h,e,d⟩,n⟩
def Nq.cf{K:W7}{c f:Str}(h:Nq K c f):CF K c f:=λC e=>by
 obtain⟨g,a,d,n⟩:=h;rw[a]at e;cases e;exact⟨d,n⟩
def qY(x q:Str)(st:Stmt)(h:AK):Prop:=∀(kV a e:Value) (d:Option _) (c f:Value) (b:List _),b.length=h.length->bindArgs (W.fnOf x q (aEa st) (aDa st) (aBa st) .none kV a e d c f) ⟨b,[]⟩=pure (h.zip b)
section
variable {P:P7}{w:World}
theorem er{c x q:Str}{st:Stmt}{k n m:Nat}{N r:AK}{fb:AT}(F:Mq K c x q st)(S:b9 N r (aBa st))(t:∀{f:Addr}{d:Value}{A:Around}{b:List Env}{s:Shared}{H:Hp}{E:XK},Room k (A.deeper (envOfC q (aBa st) (~~~s) f d))->ZB (bR bK P w K mg base N q (aBa st) f d A b s H E).nox (aDa st) fb)(j:N.length=n:=by rfl)(h:r.length=m:=by rfl)(B:qY x q st r:=by(intro _ _ _ _ _ _ us e;first|(obtain⟨_,rfl⟩:=eL e;rfl)|(obtain⟨_,_,rfl⟩:=dQ e;rfl)|(obtain⟨_,_,_,rfl⟩:=dA e;rfl))):dS P w K mg base (k+1) c x r (bu K m (aq m n fb)):=by
 obtain⟨C,f,o,a,p,i,g⟩:=F;exact⟨C,f,o,zJ g S j h λ_ _ _ _ _ _ l=>t l,g.binds B,a,p,i⟩
end
section
variable {a:Expr}{x:Str}{ks:AK}
theorem Ax(r:X.A.units+64<cLine){p:Addr}{o:Obj}{its:Array Value}{n:Nat}(l:X.K.lookup p=some o)(d:o.cls=.type "tuple")(f:o.data=.seq its n)(hs:iI its.toList ks):bV X (compareOp .In) (yk p ks false):=by
 intro b s z H x y v u Q I g m h;obtain⟨k,rfl,i,rfl,q⟩:=h;cases m;obtain⟨t,rfl⟩:=g;obtain⟨w,j,c⟩:=G7 hs;refine SeqAt.in_tuple_reads (.tuple (I.kIn p o l) d f j) (.str k t) (by simpa [PyData.canLay0]using c) (by simp[PyData.canLay0,i]) ?_ ⟨.bl _,H,I,rfl,?_⟩
 .have e:(PyData.str k).depth=0:=by simp[PyData.depth]
  ext<;>lia
 .rw[G8]
  have e:decide (k∈ks)=(decide (k∈ks)!=false):=by cases decide (k∈ks)<;>rfl
  rwa [e]
theorem Ay(E:X.A.units+64<cLine)(g:GT X.K X.mg x ks)(r:Gl X x)(u:ZC X a fa)(C:behindInMarks .In (.Name x px)=false:=by with_unfolding_all rfl)(t:cj x:=by decide):ZE X (.Compare a [.In] [.Name x px] pos) (mB (b1 fa (yj false ks))):=by
 obtain⟨p,o,D,n,j,z,q,f,K⟩:=g;refine⟨PE.imp (Fy (Ax E z q f K) u.un (tW (v:=.ref p) r j rfl t) C) λM H Q i=>?_⟩;obtain⟨L,b,F,I,G,e,s,h⟩:=i;obtain⟨k,B,rfl⟩:=oJ e;obtain⟨d,w,c⟩:=dM B;refine tCof.at w s λv y m A l J=>?_;unfold yj at c
 split at c
 .rename_i k
  cases c;exact⟨k,l.1,l.2,rfl,h _ y m A (by rw[Rp])⟩
 .cases c
end
def i0:D->D->Option D:=i2 (λi j=>decide (0<=j/\j<=1000000/\i.natAbs<2^64)) λi j=>i^j.toNat
section
variable {a b:Expr}{fb:AW}
def Az(c:ZC X a fa)(hb:ZC X b fb):ZE X (.BinOp a .Pow b pos) (b2 fa fb i0):=⟨have c:=c.un;have hb:=hb.un;jL vv (oN (λi j h=>(show 0<=j/\j<=1000000/\i.natAbs<2^64 from wu h))) c hb⟩
end
inductive HS where
 | bls (t:AH)
 | ins (c:Str) (C dx:Addr) (ks:AK) (vs:AQ) (ds:AR)
abbrev Hs:=Addr->Option HS
def HS.ho:HS->HO
 | .bls t=>.lst (t.map .bl)
 | .ins _ C a c b _=>.ins C a (c.zip b)
def HS.d:HS->D
 | .bls t=>.lst (t.map .bl)
 | .ins c _ _ b _ a=>.obj c b a
def HS.ok(K:W7)(G:Hp):HS->Prop
 | .bls _=>True
 | .ins c C _ b a d=>W.nsIn K mainGlobals c=some (some (.ref C))/\a.length=b.length/\RpL K G d a
theorem HS.ok.mono{G d:Hp}(h:Same G d):∀{s:HS},s.ok K G->s.ok K d
 | .bls _,_=>trivial
 | .ins ..,⟨a,b,c⟩=>⟨a,b,c.mono h⟩
def pt(t:Hs)(a:Addr)(s:Option HS):Hs:=λb=>if b=a then s else t b
def Ym{t:Hs}{a:Addr}{s:Option HS}:pt t a s a=s:=if_pos rfl
def bJ{t:Hs}{a b:Addr}{s:Option HS}(h:b≠a):pt t a s b=t b:=if_neg h
structure HW(K:W7)(t:Hs)(H G:Hp):Prop where
 g:∀a s,t a=some s->G a=none
 h:∀a s,t a=some s->H a=some s.ho
 ok:∀a s,t a=some s->s.ok K G
structure WH(K:W7)(t:Hs)(H0 G0:Hp)(σ:L2.St)(H G:Hp)(ρ:Ro):Prop where
 sr:SR K H0 G0 σ H G ρ
 h0:∀a s,t a=some s->H0 a=some s.ho
 g0:∀a s,t a=some s->G0 a=none
 ok:∀a s,t a=some s->s.ok K G
structure OffH(t t':Hs)(H0 H1:Hp):Prop where
 keep:∀a,t' a=none->H1 a=H0 a
 grow:∀a,t' a=none->t a=none
 new:∀a,t a=none->t' a≠none->H0 a=none
def OffH.refl{t:Hs}{H:Hp}:OffH t t H H:=⟨λ_ _=>rfl,λ_ h=>h,λ_ h a=>absurd h a⟩
def OffH.trans{t c f:Hs}{H e d:Hp}(a:OffH t c H e)(b:OffH c f e d):OffH t f H d:=
 ⟨λx h=>(b.keep x h).trans (a.keep x (b.grow x h)),λx h=>a.grow x (b.grow x h),λx h g=>by
  by_cases z:c x=none
  .rw[<-a.keep x z];exact b.new x z g
  .exact a.new x h z⟩
structure Aft(K:W7)(t t':Hs)(H G H' G':Hp):Prop where
 keep:∀a o,t a=none->H a=some o->H' a=some o
 grow:∀a,t' a=none->t a=none
 new:∀a,t a=none->t' a≠none->H a=none
 hw:HW K t' H' G'
 g:Same G G'
 s:Same G' H'
 n:∀a,G a=none->G' a≠none->H a=none
section
variable {t t':Hs}{H G H' G':Hp}{σ:L2.St}{ρ:Ro}
def WH.no(w:WH K t H0 G0 σ H G ρ){a:Addr}{s:HS}(e:t a=some s):G a=none:=by
 cases h:G a with
 | none=>rfl
 | some u=>
   have:=w.sr.gr.n a (w.g0 a s e) (by rw[h];exact λz=>nomatch z);rw[w.h0 a s e]at this;cases this
def WH.hw(w:WH K t H0 G0 σ H G ρ):HW K t H G:=⟨λ_ _ e=>w.no e,λa s e=>w.sr.gr.h _ _ (w.h0 a s e),w.ok⟩
def WH.grow(w:WH K t H0 G0 σ H G ρ)(g:Gr H G H' G'):WH K t H0 G0 σ H' G' ρ:=⟨w.sr.grow g,w.h0,w.g0,λa s e=>(w.ok a s e).mono g.g⟩
def WH.bare(w:WH K t H0 G0 σ H G ρ):WH K t H0 G0 [] H G []:=⟨.mkSh w.sr.gr rfl (λi d e=>by simp at e) (λi l e=>by simp at e) (λi t b a e=>by simp at e),w.h0,w.g0,w.ok⟩
theorem WH.after(w:WH K t H0 G0 σ H G ρ)(a:Aft K t t' H G H' G'):∃E,OffH t t' H0 E/\WH K t' E G0 σ H' G' ρ:=by
 have s:=w.sr
 have C:∀{b:Addr},H0 b=none->t b=none:=λ{b} h=>by
  cases z:t b with
  | none=>rfl
  | some x=>have:=w.h0 b x z;rw[h]at this;cases this
 have j:∀{b:Addr}{o:HO},_->_->_->_/\_/\_:=λ{b o} F q I=>by
  refine⟨?_,a.keep b o (C F) q,?_⟩
  .refine Classical.byContradiction λz=>?_
   have:=a.new b (C F) z;rw[q]at this;cases this
  .refine Classical.byContradiction λz=>?_
   have:=a.n b I z;rw[q]at this;cases this
 refine⟨λb=>if t' b=none then H0 b else H' b,⟨λb h=>if_pos h,a.grow,λb h N=>s.gr.h.free (a.new b h N)⟩,⟨⟨λb u e=>?_,s.gr.g.trans a.g,a.s,λb h N=>?_⟩,s.len,λi d e=>?_,λi l e=>?_,s.ap,λi J R S e=>?_,s.apd⟩,λb x e=>?_,λb x e=>(s.gr.g.trans a.g).free (a.hw.g b x e),a.hw.ok⟩
 .by_cases z:t' b=none
  .simp [if_pos z]at e
   exact a.keep b u (a.grow b z) (s.gr.h b u e)
  .simp [if_neg z]at e
   exact e
 .have z:t' b=none:=by
   cases z:t' b with
   | none=>rfl
   | some x=>exact absurd (a.hw.g b x z) N
  rw[if_pos z];by_cases y:G b=none
  .exact s.gr.h.free (a.n b y N)
  .exact s.gr.n b h y
 .obtain⟨v,g,k⟩:=s.sh i d e
  exact⟨v,g,k.mono a.g⟩
 .obtain⟨b,Q,g,k,f,m,r⟩:=s.ow i l e
  obtain⟨n,p,B⟩:=j f m k;exact⟨b,Q,g,B,by rwa [if_pos n],p,r.mono a.g⟩
 .obtain⟨b,A,O,g,k,f,m,r,L⟩:=s.od i J R S e
  obtain⟨o,D,_⟩:=m.some;obtain⟨n,p,B⟩:=j f D k;exact⟨b,A,O,g,B,by rwa [if_pos n],m.mono a.g λM z=>by rw[D]at z;rwa [p],r.mono a.g,L.mono a.g⟩
 .rw[if_neg (by rw[e];exact λz=>nomatch z)]
  exact a.hw.h b x e
def WH.aft(w:WH K t' H0 G0 σ H G ρ){c d:Hp}(o:OffH t t' c H0)(g:d=G0):Aft K t t' c d H G:=by
 subst g;refine⟨λa u h e=>?_,o.grow,o.new,w.hw,w.sr.gr.g,w.sr.gr.s,λa h i=>?_⟩
 .by_cases z:t' a=none
  .exact w.sr.gr.h a u (by rwa [o.keep a z])
  .have:=o.new a h z
   rw[e]at this;cases this
 .have b:=w.sr.gr.n a h i
  by_cases z:t' a=none
  .rwa [<-o.keep a z]
  .obtain⟨x,f⟩:=Option.ne_none_iff_exists'.mp z
   rw[w.h0 a x f]at b;cases b
theorem WH.rebase(w:WH K t H0 G0 σ H G ρ):∃J,WH K t J G σ H G ρ/\∀t' v σ' H' G' ρ',OffH t t' J v->WH K t' v G σ' H' G' ρ'->∃L,OffH t t' H0 L/\WH K t' L G0 σ' H' G' ρ':=by
 classical
 have s:=w.sr
 let d:=λa=>∃(i:Nat),((∃l:AR,ρ[i]?=some (some (.ow l)))\/(∃t N O,ρ[i]?=some (some (.od t N O))))/\σ[i]?=some (some (.ref a))
 have E:∀a,d a->_/\_:=λa M=>by
  obtain⟨i,R,T⟩:=M;rcases R with⟨l,R⟩|⟨t,N,O,R⟩
  .obtain⟨b,S,c,g,k,_⟩:=s.ow i l R
   rw[T]at c;cases c;exact⟨k,g⟩
  .obtain⟨b,m,B,c,g,k,_⟩:=s.od i t N O R
   rw[T]at c;cases c;exact⟨k,g⟩
 have n:∀a,(if d a then none else H a)=none->_:=λa h=>by
  by_cases o:d a
  .exact(E a o).1
  .rw[if_neg o]at h;exact s.gr.h.free h
 refine⟨λa=>if d a then none else H a,⟨⟨⟨λb o e=>?_,.refl _,s.gr.s,λ_ h Q=>absurd h Q⟩,s.len,s.sh,λi l e=>?_,s.ap,λi t N O e=>?_,s.apd⟩,λa x e=>?_,λa x e=>w.no e,w.ok⟩,λt' v σ' H' G' ρ' f A=>?_⟩
 .by_cases z:d b
  .simp only[if_pos z]at e;cases e
  .simp [if_neg z]at e;exact e
 .obtain⟨a,S,c,g,k,p,F⟩:=s.ow i l e
  exact⟨a,S,c,g,if_pos ⟨i,.inl ⟨l,e⟩,c⟩,p,F⟩
 .obtain⟨a,m,B,c,g,k,p⟩:=s.od i t N O e
  exact⟨a,m,B,c,g,if_pos ⟨i,.inr ⟨t,N,O,e⟩,c⟩,p⟩
 .have z:¬d a:=λz=>by
   have:=(E a z).1;rw[w.h0 a x e]at this;cases this
  rw[if_neg z];exact w.hw.h a x e
 .have j:=A.sr
  have r:∀a,v a=none->(if t' a=none then H0 a else v a)=none:=λa h=>by
   by_cases z:t' a=none
   .rw[if_pos z]
    rw[f.keep a z]at h;exact n a h
   .rw[if_neg z];exact h
  refine⟨λa=>if t' a=none then H0 a else v a,⟨λa h=>if_pos h,f.grow,λa h Q=>n a (f.new a h Q)⟩,⟨⟨λb u e=>?_,s.gr.g.trans j.gr.g,j.gr.s,λb h Q=>?_⟩,j.len,j.sh,λi l e=>?_,j.ap,λi C N O e=>?_,j.apd⟩,λa x e=>?_,λa x e=>s.gr.g.free (A.g0 a x e),A.ok⟩
  .refine j.gr.h b u ?_
   by_cases z:t' b=none
   .simp [if_pos z]at e
    rw[f.keep b z]
    have I:¬d b:=λq=>by rw[(E b q).1]at e;cases e
    rw[if_neg I];exact s.gr.h b u e
   .simp [if_neg z]at e;exact e
  .by_cases z:G b=none
   .exact r b (j.gr.n b z Q)
   .have q:=s.gr.n b h z
    have I:t' b=none:=by
     cases y:t' b with
     | none=>rfl
     | some x=>exact absurd (A.g0 b x y) z
    rw[if_pos I];exact q
  .obtain⟨a,S,c,g,k,p,F⟩:=j.ow i l e
   exact⟨a,S,c,g,r a k,p,F⟩
  .obtain⟨a,m,B,c,g,k,p⟩:=j.od i C N O e
   exact⟨a,m,B,c,g,r a k,p⟩
  .rw[if_neg (by rw[e];exact λz=>nomatch z)]
   exact A.h0 a x e
end
def ContH(K:W7)(t:Hs)(c b:Hp)(F:Ends):b8 Hs->Prop
 | .nx g h=>∀e f i a,OffH t h c a->WH K h a b e f i g->F.nx e f
 | .rt d h=>∀v f i a,OffH t h c a->WH K h a b [] f i []->Rp K i d v->F.rt v f
 | .bk g h=>∀e f i a,OffH t h c a->WH K h a b e f i g->F.bk e f
 | .ct g h=>∀e f i a,OffH t h c a->WH K h a b e f i g->F.ct e f
def ContH.off{t t':Hs}{i h e:Hp}{F:Ends}{o:b8 Hs}(f:OffH t t' i e)(c:ContH K t i h F o):ContH K t' e h F o:=by
 cases o with
 | nx m b=>exact λj k l a g w=>c j k l a (f.trans g) w
 | rt d b=>exact λv k l a g w=>c v k l a (f.trans g) w
 | bk m b=>exact λj k l a g w=>c j k l a (f.trans g) w
 | ct m b=>exact λj k l a g w=>c j k l a (f.trans g) w
abbrev Hm:=Ro->Hs->(b8 Hs->Prop)->Prop
abbrev He:=Ro->Hs->(D->Hs->Prop)->Prop
abbrev Ha:=Ro->Hs->(AR->Hs->Prop)->Prop
def mm(K:W7)(f:Hm):TS:=λF d H=>∃c t b a G Q,WH K t b a d H G c/\f c t Q/\∀o,Q o->ContH K t b a F o
def OU(K:W7)(f:He):TE:=λi H Q=>∃e t c a G R,WH K t c a i H G e/\f e t R/\∀d h,R d h->∀v j g b,OffH t h c b->WH K h b a i j g e->Same G g->Rp K g d v->Q v j
def OV(K:W7)(f:Ha):TA:=λk H Q=>∃g t c a G R,WH K t c a k H G g/\f g t R/\∀j e,R j e->∀h i d b,OffH t e c b->WH K e b a k i d g->Same G d->RpL K d j h->Q h i
def OW(K:W7)(f:Ro->Hs->Option Bool):TT:=λe H Q=>∃c t k b a G,f c t=some k/\WH K t b a e H G c/\∀d g,Gr H G d g->Q k d
structure eE(X:Cx)(st:Stmt)(f:Hm):Prop where
 un:PS X st (mm X.K f)
structure d4(X:Cx)(sts:List Stmt)(f:Hm):Prop where
 un:PSs X sts (mm X.K f)
structure eV(X:Cx)(e:Expr)(f:He):Prop where
 un:PE X e (OU X.K f)
structure mn(X:Cx)(es:AL)(f:Ha):Prop where
 un:PA X es (OV X.K f)
structure qZ(X:Cx)(e:Expr)(f:Ro->Hs->Option Bool):Prop where
 un:PT X e (OW X.K f)
def AI(t:Hs):Out->b8 Hs
 | .nx a=>.nx a t
 | .rt d=>.rt d t
 | .bk a=>.bk a t
 | .ct a=>.ct a t
def fI(f:AT):Hm:=λa t Q=>∃o,f a=some o/\Q (AI t o)
def fJ:Hm:=λa t Q=>Q (.nx a t)
def aU(f g:Hm):Hm:=λb t Q=>f b t fun
 | .nx a c=>g a c Q
 | o=>Q o
def mq(c:Ro->Hs->Option Bool)(f g:Hm):Hm:=λa t Q=>∃k,c a t=some k/\((k=true->f a t Q)/\(k=false->g a t Q))
def eu(gt:AU)(fb:Hm):AR->Hm
 | [],ρ,t,Q=>Q (.nx ρ t)
 | d::ds,ρ,t,Q=>∃c,gt d ρ=some c/\fb c t fun
   | .nx a b=>eu gt fb ds a b Q
   | .ct a b=>eu gt fb ds a b Q
   | .bk a b=>Q (.nx a b)
   | .rt d b=>Q (.rt d b)
def i3(a:AX)(gt:AU)(fb:Hm):Hm:=λb t Q=>∃c,a b=some c/\eu gt fb c b t Q
def jX(c:Ro->Hs->Option Bool)(fb:Hm):Nat->Hm
 | 0,_,_,_=>False
 | n+1,ρ,t,Q=>∃k,c ρ t=some k/\((k=true->fb ρ t fun
   | .nx a b=>jX c fb n a b Q
   | .ct a b=>jX c fb n a b Q
   | .bk a b=>Q (.nx a b)
   | .rt d b=>Q (.rt d b))/\(k=false->Q (.nx ρ t)))
def Iw(c:Ro->Hs->Option Bool)(fb:Hm):Hm:=λρ t Q=>∃n,jX c fb n ρ t Q
section
variable {fs gs:Hm}
theorem OX{f:AT}(h:ZS X st f):eE X st (fI f):=⟨PS.imp h.un λF E H z=>by
 obtain⟨B,t,I,D,G,Q,w,⟨o,C,q⟩,c⟩:=z;obtain⟨A,x,u⟩:=w.rebase;have c:=c _ q;refine⟨B,o,A,G,G,C,x.sr,?_⟩;have y:=λ{σ' b j ρ'} k=>u t A σ' b j ρ' .refl ⟨k,x.h0,x.g0,λa s e=>(x.ok a s e).mono k.gr.g⟩
 cases o with
 | nx ρ'=>
   exact λσ' b j k=>by
    obtain⟨p,m,n⟩:=y k;exact c σ' b j p m n
 | rt d=>
   exact λv b j g r=>by
    obtain⟨p,m,n⟩:=y (σ':=[]) (ρ':=[]) (.mkSh g rfl (λi d e=>by simp at e) (λi l e=>by simp at e) (λi t K J e=>by simp at e));exact c v b j p m n r
 | bk ρ'=>
   exact λσ' b j k=>by
    obtain⟨p,m,n⟩:=y k;exact c σ' b j p m n
 | ct ρ'=>
   exact λσ' b j k=>by
    obtain⟨p,m,n⟩:=y k
    exact c σ' b j p m n⟩
def AO:d4 X [] fJ:=⟨PSs.imp Fi λF e H a=>by
 obtain⟨f,t,b,d,G,Q,w,q,c⟩:=a
 exact c _ q e H G b .refl w⟩
def A0(h:eE X st fs):d4 X [st] fs:=⟨uF h.un⟩
def OY(h:eE X st fs)(l:d4 X sts gs):d4 X (st::sts) (aU fs gs):=⟨PSs.imp (Fj h.un l.un) λF u H b=>by
 obtain⟨p,t,j,e,G,Q,w,q,c⟩:=b;refine⟨p,t,j,e,G,_,w,q,λo a=>?_⟩
 cases o with
 | nx m n=>exact λr v s k f i=>⟨m,n,k,e,s,Q,i,a,λo g=>(c o g).off f⟩
 | rt d n=>exact c _ a
 | bk m n=>exact c _ a
 | ct m n=>exact c _ a⟩
def A1{c:Expr}{a b:List Stmt}{fc:Ro->Hs->Option Bool}(j:qZ X c fc)(n:d4 X a fs)(q:d4 X b gs):eE X (.If c a b pos) (mq fc fs gs):=⟨PS.imp (kF j.un n.un q.un) λF r H d=>by
 obtain⟨p,t,e,f,G,Q,w,⟨k,m,i,l⟩,c⟩:=d;refine⟨p,t,k,e,f,G,m,w,λo h g=>?_⟩
 cases k with
 | true=>exact kZ ⟨p,t,e,f,h,Q,w.grow g,i rfl,c⟩
 | false=>exact kY ⟨p,t,e,f,h,Q,w.grow g,l rfl,c⟩⟩
theorem A3{b:Expr}{g:List Stmt}{gt:AU}(hp:PassesOwn (mZ X.prog X.w) X.A X.env X.xe)(U:X.calm=true)(ua:ZI X tg b gl)(hg:ZG X tg gt)(hb:d4 X g fs)(hs:∀x,foldedSetIterable b X.env x=pure x:=by intro _;rfl):eE X (.For tg b g [] pos) (i3 gl gt fs):=
 ⟨PS.imp (Fu hp U ua.un hg.un hb.un hs) λF σ H M=>by
  obtain⟨ρ,t,H0,G0,G,Q,w,⟨ds,T,h2⟩,c⟩:=M;refine⟨ρ,ds,H0,G0,G,T,w.sr,λJ H1 A g1 S=>?_⟩;obtain⟨N,Z,a⟩:=(w.grow g1).rebase;refine⟨λi m σ' H'=>m=ds.length-i/\i<=ds.length/\∃K t' G' h,OffH t t' N h/\WH X.K t' h A σ' H' G' K/\eu gt fs (ds.drop i) K t' Q,⟨_,rfl,Qh _,ρ,t,A,N,.refl,Z,h2⟩,?_⟩;rintro i m σ' H' ⟨rfl,ua,K,t',G',h,fc,E,p⟩;have W:=S.2 i H' G' E.sr.gr.g E.sr.seen;by_cases e:i<ds.length
  .obtain⟨go,Y⟩:=W.1 _ (qr e)
   rw[List.drop_eq_getElem_cons e]at p;obtain⟨B,e1,p⟩:=p;refine .inr ⟨go,λσ' H'=>i+1<=ds.length/\∃K t' G' h,OffH t t' N h/\WH X.K t' h A σ' H' G' K/\eu gt fs _ K t' Q,λσ2 R q=>⟨ds.length-(i+1),by symm,rfl,q.1,q.2⟩,λx R y=>?_⟩;obtain⟨O,g2,V⟩:=Y x R y;have I:=E.grow g2;refine⟨_,K,B,h,A,O,e1,I.sr,V,λσ3 s3=>⟨B,t',h,A,O,_,⟨s3,I.h0,I.g0,I.ok⟩,p,λo L=>?_⟩⟩
   cases o with
   | nx f C=>exact λl z n r k j=>⟨e,f,C,n,r,fc.trans k,j,L⟩
   | ct f C=>exact λl z n r k j=>⟨e,f,C,n,r,fc.trans k,j,L⟩
   | bk f C=>
     exact λl z n r k j=>by
      obtain⟨He,u,s⟩:=a _ _ _ _ _ _ (fc.trans k) j;exact c _ L l z n He u s
   | rt d C=>
     exact λv z n r k j r4=>by
      obtain⟨He,u,s⟩:=a _ _ _ _ _ _ (fc.trans k) j;exact c _ L v z n He u s r4
  .have ei:i=ds.length:=by lia
   subst ei;rw[List.drop_length]at p;obtain⟨He,u,s⟩:=a _ _ _ _ _ _ fc E
   exact .inl ⟨W.2 (qv _),c _ p σ' H' G' He u s⟩⟩
def OZ{c:Expr}{e:List Stmt}{fc:Ro->Hs->Option Bool}(U:PassesOwn (mZ X.prog X.w) X.A X.env X.xe)(L:qZ X c fc)(hb:d4 X e fs):eE X (.While c e [] pos) (Iw fc fs):=
 ⟨PS.imp (Lq U L.un hb.un) λF σ H A=>by
  obtain⟨ρ,t,z,x,G,Q,w,⟨n,O⟩,c⟩:=A;refine⟨λm σ' H'=>∃ρ' t' G' a,OffH t t' z a/\WH X.K t' a x σ' H' G' ρ'/\jX fc fs m ρ' t' Q,⟨n,ρ,t,G,z,OffH.refl,w,O⟩,?_⟩;rintro m y Ha ⟨l,C,J,a,p,E,e1⟩
  cases m with
  | zero=>exact e1.elim
  | succ m=>
    obtain⟨k,M,P,R⟩:=e1;refine⟨l,C,k,a,x,J,M,E,λN B S=>?_⟩;have I:=E.grow S
    cases k with
    | true=>
      refine kZ ⟨λσ' H'=>∃ρ' t' G' a,OffH t t' z a/\WH X.K t' a x σ' H' G' ρ'/\jX fc fs m ρ' t' Q,λσ' H' q=>⟨m,Qa m,q⟩,l,C,a,x,B,_,I,P rfl,λo u=>?_⟩
      cases o with
      | nx b r=>exact λh s j f g i=>⟨b,r,j,f,p.trans g,i,u⟩
      | ct b r=>exact λh s j f g i=>⟨b,r,j,f,p.trans g,i,u⟩
      | bk b r=>exact λh s j f g i=>c _ u h s j f (p.trans g) i
      | rt d r=>exact λv s j f g i T=>c _ u v s j f (p.trans g) i T
    | false=>exact kY (c _ (R rfl) y N B a p I)⟩
end
mutual
def aB(t:Hs):D->D
 | .non=>.non
 | .bl b=>.bl b
 | .int i=>.int i
 | .str x=>.str x
 | .tup l=>.tup (cg t l)
 | .lst l=>.lst (cg t l)
 | .scr ns=>.scr ns
 | .dct b ks vs=>.dct b ks vs
 | .obj c ks vs=>.obj c ks (cg t vs)
 | .adr a=>match t a with
   | some s=>s.d
   | none=>.adr a
def cg(t:Hs):AR->AR
 | []=>[]
 | d::l=>aB t d::cg t l
end
def eW(t:Hs):B->B
 | .sh d=>.sh (aB t d)
 | .ow l=>.ow l
 | .od b c a=>.od b c a
def d5(t:Hs)(ρ:Ro):Ro:=ρ.map (.map (eW t))
def gX(t:Hs)(G:Hp):Hp:=λa=>match t a with
 | some s=>some s.ho
 | none=>G a
section
variable {t:Hs}{G:Hp}
def q0{a:Addr}{s:HS}(h:t a=some s):gX t G a=some s.ho:=by unfold gX;rw[h]
def i4{a:Addr}(h:t a=none):gX t G a=G a:=by unfold gX;rw[h]
def HW.same{H:Hp}(w:HW K t H G):Same G (gX t G):=λa o e=>by
 cases h:t a with
 | none=>rwa [i4 h]
 | some s=>rw[w.g a s h]at e;cases e
mutual
theorem Rp.thaw{H:Hp}(w:HW K t H G):∀{d:D}{v:V},Rp K G d v->Rp K (gX t G) (aB t d) v
 | .non,_,r=>r.mono w.same
 | .bl _,_,r=>r.mono w.same
 | .int _,_,r=>r.mono w.same
 | .str _,_,r=>r.mono w.same
 | .tup l,_,r=>by
   obtain⟨a,xs,e,g,q⟩:=r;exact⟨a,xs,e,w.same _ _ g,RpL.thaw w q⟩
 | .lst l,_,r=>by
   obtain⟨a,xs,e,g,q⟩:=r;exact⟨a,xs,e,dv w.same g,RpL.thaw w q⟩
 | .scr _,_,r=>r.mono w.same
 | .dct _ _ _,_,r=>r.mono w.same
 | .obj c ks vs,_,r=>by
   obtain⟨a,C,b,xs,e,n,g,l,q⟩:=r;exact⟨a,C,b,xs,e,n,w.same _ _ g,l,RpL.thaw w q⟩
 | .adr a,_,r=>by
   subst r;rw[aB]
   cases h:t a with
   | none=>rw[Rp]
   | some s=>
     cases s with
     | bls y=>
       exact⟨a,y.map V.bl,rfl,.inl (q0 h),Iu y⟩
     | ins c C b ks vs ds=>
       obtain⟨i,f,j⟩:=w.ok a _ h;exact⟨a,C,b,vs,rfl,i,q0 h,f,j.mono w.same⟩
theorem RpL.thaw{H:Hp}(w:HW K t H G):∀{l:AR}{xs:AQ},RpL K G l xs->RpL K (gX t G) (cg t l) xs
 | [],_,r=>by subst r;exact .nil
 | d::l,_,r=>by
   obtain⟨x,xs,rfl,g,q⟩:=r;exact .cons (Rp.thaw w g) (RpL.thaw w q)
end
def i5{ρ:Ro}{j:Nat}{b:B}(h:(d5 t ρ)[j]?=some (some b)):∃a,ρ[j]?=some (some a)/\eW t a=b:=by
 unfold d5 at h;rw[Qm]at h;obtain⟨o,e,d⟩:=qc h;obtain⟨a,rfl,c⟩:=qc d;exact⟨a,e,c⟩
theorem WH.thaw{E J H:Hp}{σ:L2.St}{ρ:Ro}(w:WH K t E J σ H G ρ):∃P,SR K P J σ H (gX t G) (d5 t ρ):=by
 have s:=w.sr
 have p:∀{b:Addr},E b=none->t b=none:=λ{b} h=>by
  cases z:t b with
  | none=>rfl
  | some x=>have:=w.h0 b x z;rw[h]at this;cases this
 refine⟨λa=>if t a=none then E a else none,⟨⟨λb o e=>?_,s.gr.g.trans w.hw.same,λb o e=>?_,λb h h'=>?_⟩,by unfold d5;rw[qf];exact s.len,λj d e=>?_,λj l e=>?_,λj k l V a b f c D A I=>?_,λj M ks vs e=>?_,λj k R Y S U X T a b f c D A I=>?_⟩⟩
 .by_cases z:t b=none
  .simp [if_pos z]at e;exact s.gr.h b o e
  .simp only[if_neg z]at e;cases e
 .cases z:t b with
  | none=>rw[i4 z]at e;exact s.gr.s b o e
  | some x=>rw[q0 z]at e;rw[<-e];exact w.hw.h b x z
 .cases z:t b with
  | none=>
    rw[i4 z]at h';exact s.gr.n b h h'
  | some x=>exact if_neg (λy=>nomatch y)
 .obtain⟨i,f,c⟩:=i5 e
  cases i with
  | sh C=>
    cases c;obtain⟨v,m,n⟩:=s.sh j C f;exact⟨v,m,n.thaw w.hw⟩
  | ow l=>cases c
  | od b ks vs=>cases c
 .obtain⟨i,f,c⟩:=i5 e
  cases i with
  | sh C=>cases c
  | ow L=>
    cases c;obtain⟨a,xs,m,n,g,u,B⟩:=s.ow j l f;exact⟨a,xs,m,by rwa [i4 (p g)],by rwa [if_pos (p g)],u,B.mono w.hw.same⟩
  | od b ks vs=>cases c
 .obtain⟨b1,e1,e2⟩:=i5 f
  obtain⟨b2,r,F⟩:=i5 c;cases b1<;>cases e2;cases b2<;>cases F;exact s.ap j k _ _ a b e1 r D A I
 .obtain⟨i,f,c⟩:=i5 e
  cases i with
  | sh C=>cases c
  | ow L=>cases c
  | od i O N=>
    cases c;obtain⟨a,q,Z,m,n,g,u,B,Q⟩:=s.od j M ks vs f;exact⟨a,q,Z,m,by rwa [i4 (p g)],by rwa [if_pos (p g)],u.mono w.hw.same λ_ z=>z,B.mono w.hw.same,Q.mono w.hw.same⟩
 .obtain⟨b1,e1,e2⟩:=i5 f
  obtain⟨b2,r,F⟩:=i5 c;cases b1<;>cases e2;cases b2<;>cases F;exact s.apd j k _ _ _ _ _ _ a b e1 r D A I
end
def q5(f:AW):He:=λρ t Q=>∃d,f ρ=some d/\Q d t
def i6(f:AW):He:=λa t Q=>∃d,f (d5 t a)=some d/\o5 d=true/\Q d t
def gY(f:AV):Ro->Hs->Option Bool:=λa t=>f (d5 t a)
def i7:Ha:=λ_ t Q=>Q [] t
def mu(f:He)(g:Ha):Ha:=λρ t Q=>f ρ t λd a=>g ρ a λds b=>Q (d::ds) b
def dU(i:Nat)(f:He):Hm:=λa t Q=>f a t λd b=>Q (.nx (a.set i (↑d)) b)
def gu(f:He):Hm:=λa t Q=>f a t λd b=>Q (.rt d b)
def gZ(f:He):Hm:=λa t Q=>f a t λ_ b=>Q (.nx a b)
section
variable {e c:Expr}{f:AW}{fe:He}{ga:Ha}{fs:Hm}
def O0(h:ZE X e f):eV X e (q5 f):=⟨PE.imp h.un λσ H Q a=>by
 obtain⟨ρ,t,b,i,G,R,w,⟨d,j,q⟩,k⟩:=a
 exact⟨ρ,d,b,i,G,j,w.sr,λv H' G' g r=>k d t q v H' G' b OffH.refl (w.grow g) g.g r⟩⟩
def O1(h:ZE X e f):eV X e (i6 f):=⟨PE.imp h.un λp H Q a=>by
 obtain⟨o,t,j,b,G,R,w,⟨d,i,n,q⟩,k⟩:=a;obtain⟨m,l⟩:=w.thaw
 exact⟨_,d,m,b,_,i,l,λv c s g r=>k d t q v c G j .refl (w.grow (.back w.sr.seen g)) (.refl _) (r.scal n)⟩⟩
def O2{fc:AV}(h:ZT X c fc):qZ X c (gY fc):=⟨PT.imp h.un λm H Q a=>by
 obtain⟨n,t,k,j,b,G,e,w,q⟩:=a;obtain⟨d,i⟩:=w.thaw
 exact⟨_,k,d,b,_,e,i,λf l g=>q f G (.back w.sr.seen g)⟩⟩
def A4:mn X [] i7:=⟨PA.imp fj λσ H Q a=>by
 obtain⟨ρ,t,b,d,G,R,w,q,k⟩:=a
 exact k [] t q [] H G b OffH.refl w (Same.refl _) .nil⟩
def O3(n:eV X e fe)(hb:mn X es ga)(hs:Zc X e es:=by rfl):mn X (e::es) (mu fe ga):=⟨PA.imp (fm n.un hb.un hs) λσ H Q a=>by
 obtain⟨ρ,t,j,d,G,R,w,q,k⟩:=a
 exact⟨ρ,t,j,d,G,_,w,q,λr o h v E g Ha C A B m=>⟨ρ,o,Ha,d,g,_,A,h,λds i u vs p z s y x b l=>k (r::ds) i u (v::vs) p z s (C.trans y) x (B.trans b) (.cons (m.mono b) l)⟩⟩⟩
theorem A5(i:Nat){y:Str}(j:X.N.Nodup)(h:eV X e fe)(m:X.N[i]?=some y:=by rfl)(r:eG X.env.scope y:=by trivial)(b:swapsWith e (some (.Name y p1)) pos.line X.env=pure false:=by rfl)(o:Zf X y:=by trivial):eE X (.Assign [.Name y p1] e pos) (dU i fe):=⟨PS.imp (uT j m r h.un b o) λF C H g=>by
 obtain⟨z,t,n,u,G,Q,w,q,c⟩:=g
 exact⟨z,t,n,u,G,_,w,q,λd B k v A f l s a x p=>c _ k _ A f l s ⟨a.sr.set_sh i p,a.h0,a.g0,a.ok⟩⟩⟩
def A6(h:eV X e fe):eE X (.Return (some e) pos) (gu fe):=⟨PS.imp (uJ h.un) λF s H a=>by
 obtain⟨o,t,j,m,G,Q,w,q,c⟩:=a
 exact⟨o,t,j,m,G,_,w,q,λd r g v p f i l k n b=>c _ g v p f i l k.bare b⟩⟩
def O4(h:eV X e fe)(b:swapsWith e none pos.line X.env=pure false:=by rfl):eE X (.Expr e pos) (gZ fe):=⟨PS.imp (kE h.un b) λF p H a=>by
 obtain⟨f,t,j,g,G,Q,w,q,c⟩:=a
 exact⟨f,t,j,g,G,_,w,q,λd u l v s r i m k n o=>c _ l p s r i m k⟩⟩
end
def eM(K:W7)(n:Nat)(m:AR->Hs->(D->Hs->Prop)->Prop):Sp:=λa H Q _=>a.length=n/\∃c t G R,RpL K G c a/\Same G H/\HW K t H G/\m c t R/\∀d b,R d b->∀v e f,Aft K t b H G e f->Rp K f d v->Q v e
def bN(n:Nat)(g:Hm)(b:AR)(t:Hs)(R:D->Hs->Prop):Prop:=g (Yd n b) t fun
 | .rt d a=>R d a
 | .nx _ a=>R .non a
 | _=>False
def A7(P:P7)(w:World)(K:W7)(c:AE)(b:Heap)(k n:Nat)(x:Str)(ps:AK)(m:AR->Hs->(D->Hs->Prop)->Prop):Prop:=
 ∃a d,FnOk P w K c b bK k a d ps (eM K n m)/\Binds K d ps []/\W.keepIn K (.ref a)=true/\c x=some (.ref a)
section
variable {P:P7}{w:World}
theorem q_{x b:Str}{st:Stmt}{f:Addr}{r:FuncData}{N U:AK}{k n m:Nat}{g:Hm}(F:Fun K x b st f r)(S:b9 N U (aBa st))(I:N.length=n)(u:U.length=m)(Y:∀(c:Value) (A:Around) (a:List Env) (s:Shared) (H:Hp) (E:XK),Room k (A.deeper (envOfC b (aBa st) (~~~s) f c))->d4 (bR bK P w K mg base N b (aBa st) f c A a s H E).nox (aDa st) g):
 FnOk P w K mg base bK (k+1) f r U (eM K m (bN n g)):=by
 refine F.ok S (λV H Q E h=>by rw[h.1,u]) λc A a s H V Q E z h=>?_;obtain⟨J,ds,t,G,R,D,C,j,e,q⟩:=h;refine⟨_,(Y c A a s H E z).un,?_⟩
 have s0:SR K H G (start N V) H G (Yd n ds):=by
  rw[<-I];exact .start C D
 refine⟨_,t,H,G,G,_,⟨s0,j.h,j.g,j.ok⟩,e,λo i=>?_⟩
 cases o with
 | rt d M=>exact λv T O B p l y=>q d M i v T O (l.aft p rfl) y
 | nx L M=>exact λZ T O B p l=>q _ M i _ T O (l.aft p rfl) (by rw[Rp])
 | bk L M=>exact i.elim
 | ct L M=>exact i.elim
end
def i8(a:AX)(m:AR->Hs->(D->Hs->Prop)->Prop):He:=λρ t Q=>∃ds,a ρ=some ds/\∃R,m ds t R/\∀d t',R d t'->Q d t'
section
variable {k:Nat}{m:Str}{e o:Expr}{ta:TE}{t:TA}{ι:Type}{Cf:ι->Addr}{S:ι->Sp}
theorem Iy{Z:Sem Bool}(J:PE X o ta)(C:∀i:ι,∃f j U,Cls X.K (Cf i)/\dI X.K (Cf i) m f/\FnOk X.prog X.w X.K X.mg X.base bK k f j U (S i)/\Binds X.K j U [])(D:Room k X.A)(L:PA X (e::es) t)(p:Zc X e es:=by rfl)(g:Zd X pos es:=by rfl)(P:eval (.Call (.Attribute o m apos) (e::es) [] pos) X.env=(do
  let B <-eval o X.env
  standAt apos.atName
  let (f,first) <-holding [B] (getMethod B m Z)
  callWith pos f first (backTo pos (starEach (e::es) X.env)) (backToKw pos (keywordEach [] X.env))):=by rfl):
 PE X (.Call (.Attribute o m apos) (e::es) [] pos) (λσ H Q=>ta σ H λx b=>∃i a w n,x=.ref a/\b a=some (.ins (Cf i) w n)/\n.lookup m=none/\t σ b λvs z=>S i (x::vs) z Q E0):=by
 intro V s σ H Q I h;refine W.methodCall_KW (aF (J _ s σ H _ I h) λu R c=>?_) P;obtain⟨x,b,A,M,i,a,w,n,G,O,l,q⟩:=c;subst G;obtain rfl:=M;obtain⟨f,j,U,E,y,F,Y⟩:=C i;refine FD A O E y l (W.callWith_K I.ok.mod.kin y.kp (aF (L pos _ R σ b _ A q) λus T d=>?_) p g);obtain⟨vs,z,v,r,N⟩:=d;refine⟨v.kIn,n_ (vs:=.ref a::vs) F D Y .nil ig v (.cons rfl r) ?_⟩
 rwa [ja]
end
abbrev Hf:=AR->Hs->(D->Hs->Prop)->Prop
def OkTb(P:P7)(w:World)(K:W7)(d:AE)(a:Heap)(k:Nat)(m:Str){b:Type}(sp:b->Sp):List (Str×b)->Prop
 | []=>True
 | (c,e)::r=>(∃ps,dS P w K d a k c m ps (sp e))/\OkTb P w K d a k m sp r
theorem OkTb.look{P:P7}{w:World}{g:AE}{a:Heap}{k:Nat}{m:Str}{b:Type}{sp:b->Sp}{c:Str}{f:b}:∀{d:List (Str×b)},OkTb P w K g a k m sp d->d.lookup c=some f->∃n,dS P w K g a k c m n (sp f)
 | [],_,e=>by cases e
 | (l,i)::r,h,e=>by
   rw[List.lookup_cons]at e
   split at e
   .rename_i j
    cases e;rw[eq_of_beq j];exact h.1
   .exact OkTb.look h.2 e
def i9(t:Hs):D->Option (Str×AK)
 | .obj c b _=>some (c,b)
 | .adr a=>match t a with
   | some (.ins c _ _ b _ _)=>some (c,b)
   | _=>none
 | _=>none
def gv(m:Str)(e:List (Str×Hf))(f:AW)(b:AX):He:=λg t Q=>∃x j c i a R,f g=some x/\b g=some j/\i9 t x=some (c,i)/\m∉i/\e.lookup c=some a/\a (x::j) t R/\∀d h,R d h->Q d h
def i_(m:Str)(b:List (Str×(AR->Option D)))(x:D)(ds:AR):Option D:=match x with
 | .obj c ks vs=>if m∈ks then none else (b.lookup c).bind λa=>a (.obj c ks vs::ds)
 | _=>none
def ra(m:Str)(c:List (Str×(AR->Option D)))(b:AW)(a:AX):AW:=λρ=>(b ρ).bind λx=>(a ρ).bind λds=>i_ m c x ds
section
variable {e o:Expr}{ga:AX}{p:Pos}{m:Str}
theorem O5{j k n:Nat}{Z:List (Str×Hf)}{pl:Sem Bool}(T:OkTb X.prog X.w X.K X.mg X.base j m (eM X.K (n+1)) Z)(hr:Room k X.A)(ho:ZE X o fo)(y:ZA X (e::es) ga)(hl:∀ρ ds,ga ρ=some ds->ds.length=n)(hj:j<=k:=by first|exact qv _|lia)(O:Zc X e es:=by rfl)(hpl:Zd X cpos es:=by rfl)(ht:eval (.Call (.Attribute o m apos) (e::es) [] cpos) X.env=(do
  let ov <-eval o X.env
  standAt apos.atName
  let (f,first) <-holding [ov] (getMethod ov m pl)
  callWith cpos f first (backTo cpos (starEach (e::es) X.env)) (backToKw cpos (keywordEach [] X.env))):=by rfl):eV X (.Call (.Attribute o m apos) (e::es) [] cpos) (gv m Z fo ga):=by
 have hm:∀i:{ p:Addr×Hf // ∃c K f b,FnOk X.prog X.w X.K X.mg X.base bK j f b K (eM X.K (n+1) p.2)/\Binds X.K b K []/\W.nsIn X.K mainGlobals c=some (some (.ref p.1))/\Cls X.K p.1/\dI X.K p.1 m f},∃f b K,_/\_/\_/\_:=λi=>by
  obtain⟨c,K,f,b,F,hb,u,A,L⟩:=i.2;exact⟨f,b,K,A,L,F.mono hj,hb⟩
 refine⟨PE.imp (Iy ho.un hm hr y.un O hpl ht) λσ H Q I=>?_⟩;obtain⟨ρ,t,H0,G0,G,R,w,⟨x,ds,c,ks,fn,R',h1,Y,h,h4,h5,h6,h7⟩,kk⟩:=I;obtain⟨K,C,f,b,F,hb,u,A,L⟩:=T.look h5;refine tOf.at h1 w.sr λv H1 G1 D B M=>?_;have z:=w.grow D
 have E:∃a s xs,v=.ref a/\H1 a=some (.ins C s (ks.zip xs)):=by
  unfold i9 at h
  split at h
  .cases h
   obtain⟨a,C',s,xs,rfl,S,g,l,q⟩:=B;rw[u]at S;cases S;exact⟨a,s,xs,rfl,M.seen _ _ g⟩
  .rename_i a
   split at h
   .rename_i c' C' s ks' vs ds' y
    cases h;subst B;obtain⟨o1,o2,o3⟩:=z.ok a _ y;rw[u]at o1;cases o1;exact⟨a,s,vs,rfl,z.hw.h a _ y⟩
   .cases h
  .cases h
 obtain⟨a,s,xs,rfl,N⟩:=E;refine⟨⟨(C,fn),c,K,f,b,F,hb,u,A,L⟩,a,s,_,rfl,N,qV h4,tAof.at Y M λvs H2 G2 J U s2=>?_⟩;have w2:=z.grow J;refine⟨by rw[qt,U.length,hl ρ ds Y],x::ds,t,G2,R',.cons (B.mono J.g) U,s2.seen,w2.hw,h6,λd t' hd v H' G' V r=>?_⟩;obtain⟨H3,f3,w3⟩:=w2.after V;exact kk d t' (h7 d t' hd) v H' G' H3 f3 w3 ((D.g.trans J.g).trans V.g) r
theorem O6{j k n:Nat}{w:List (Str×(AR->Option D))}{pl:Sem Bool}(T:OkTb X.prog X.w X.K X.mg X.base j m (bu X.K (n+1)) w)(Y:Room k X.A)(U:ZE X o fo)(ha:ZA X (e::es) ga)(R:∀ρ ds,ga ρ=some ds->ds.length=n)(V:j<=k:=by first|exact qv _|lia)(B:Zc X e es:=by rfl)(t:Zd X cpos es:=by rfl)(ua:eval (.Call (.Attribute o m apos) (e::es) [] cpos) X.env=(do
  let O <-eval o X.env
  standAt apos.atName
  let (f,first) <-holding [O] (getMethod O m pl)
  callWith cpos f first (backTo cpos (starEach (e::es) X.env)) (backToKw cpos (keywordEach [] X.env))):=by rfl):ZE X (.Call (.Attribute o m apos) (e::es) [] cpos) (ra m w fo ga):=by
 have hm:∀i:{ p:Addr×(AR->Option D) // ∃c ps f b,FnOk X.prog X.w X.K X.mg X.base bK j f b ps (bu X.K (n+1) p.2)/\Binds X.K b ps []/\W.nsIn X.K mainGlobals c=some (some (.ref p.1))/\Cls X.K p.1/\dI X.K p.1 m f},∃f b ps,Cls X.K i.1.1/\dI X.K i.1.1 m f/\FnOk X.prog X.w X.K X.mg X.base bK k f b ps (bu X.K (n+1) i.1.2)/\Binds X.K b ps []:=λi=>by
  obtain⟨c,ps,f,b,F,hb,z,A,E⟩:=i.2;exact⟨f,b,ps,A,E,F.mono V,hb⟩
 refine⟨PE.imp (Iy U.un hm Y ha.un B t ua) λσ H Q r=>?_⟩;obtain⟨ρ,d,H0,G0,G,h,s,q⟩:=r;obtain⟨x,h1,h⟩:=qa h;obtain⟨ds,N,h⟩:=qa h
 cases x with
 | obj c ks vs=>
   change (if m∈ks then none else (w.lookup c).bind λu=>u (.obj c ks vs::ds))=some d at h
   split at h
   .cases h
   .rename_i Z
    obtain⟨u,h5,S⟩:=qa h;obtain⟨ps,C,f,b,F,hb,z,A,E⟩:=T.look h5;refine tOf.at h1 s λv H1 G1 g1 L M=>?_;have y:=L;obtain⟨a,C',dx,xs,rfl,J,g,l,_⟩:=y;rw[z]at J;cases J;exact⟨⟨(C,u),c,ps,f,b,F,hb,z,A,E⟩,a,dx,_,rfl,M.seen _ _ g,qV Z,tAof.at N M λws H2 G2 I ub s2=>(⟨by rw[qt,ub.length,R ρ ds N],_,d,G2,s2.seen,.cons (L.mono I.g) ub,S,λv H' G' g' rd=>q v H' G' ((g1.trans I).trans g') rd⟩)⟩
 | _=>cases h
end
def qB:D->Bool
 | .adr _=>true
 | d=>cN d
def HS.pl:HS->Bool
 | .bls _=>true
 | .ins _ _ _ _ _ a=>a.all qB
def Rp.q{G e:Hp}(c:∀b ys,G b=some (HO.tup ys)->e b=some (HO.tup ys)){d:D}{v:V}(h:qB d=true)(r:Rp K G d v):Rp K e d v:=by
 cases d with
 | adr a=>exact r
 | _=>exact r.plain c h
theorem RpL.q{G c:Hp}(a:∀b ys,G b=some (HO.tup ys)->c b=some (HO.tup ys)):∀{l:AR}{xs:AQ},l.all qB=true->RpL K G l xs->RpL K c l xs
 | [],_,_,r=>r
 | d::l,_,h,r=>by
   rw[List.all_cons,Qe]at h;obtain⟨x,xs,e,g,q⟩:=r;exact⟨x,xs,e,g.q a h.1,.q a h.2 q⟩
theorem HS.ok.q{G e:Hp}(d:∀b ys,G b=some (HO.tup ys)->e b=some (HO.tup ys)):∀{s:HS},s.pl=true->s.ok K G->s.ok K e
 | .bls _,_,_=>trivial
 | .ins ..,h,⟨a,b,c⟩=>⟨a,b,c.q d h⟩
def jY(P:P7)(w:World)(K:W7)(b:AE)(a:Heap)(k n:Nat)(c:Str)(i:AK)(e:AR)(m:Hf):Prop:=
 ∃C f d h g,W.nsIn K mainGlobals c=some (some (.ref C))/\b c=some (.ref C)/\Mk K C f/\FnOk P w K b a bK k f d i (eM K n m)/\Binds K d i h/\Vals g h/\∀G,RpL K G e g
def jk(c:Str)(shown:Bool)(g:AF)(i:AR)(f:AX)(m:Hf):He:=λn t Q=>∃j,f (frz g n)=some j/\∀x C e,t x=none->∃R,m (.adr x::(j++i)) (pt t x (some (.ins c C e [] [] []))) R/\
 ∀d h,R d h->(∀a s,h a=some s->t a=some s\/s.pl=true)/\d=.non/\(shown=false->Q (.adr x) h)/\(shown=true->∃k l b,h x=some (.ins c C e k l b)/\Q (.obj c k b) (pt h x none))
section
variable {e:Expr}{ga:AX}{p:Pos}{m:Hf}
theorem Iz(shown:Bool)(is:AF){k k' n:Nat}{c:Str}{ps:AK}{K:AR}(O:jY X.prog X.w X.K X.mg X.base k (n+1) c ps K m)(hr:Room k' X.A)(hg:Gl X c)(ha:ZA X (e::es) ga)(hl:∀ρ ds,ga ρ=some ds->ds.length+K.length=n)(hk:k+1<=k':=by first|exact qv _|lia)(hdb:(c==("__debug__":Str))=false:=by decide)(he:Zc X e es:=by rfl)(T:Zd X cpos es:=by rfl):
 eV X (.Call (.Name c p) (e::es) [] cpos) (jk c shown is K ga m):=by
 obtain⟨C,f,fd,dfs,dfv,hC,hm,mk,F,hb,hdv,hdd⟩:=O;refine⟨PE.imp (vT (E:=E0) mk F (hr.mono hk) hg hm hb hdv ig ha.un hdb he T) λσ H Q hx_=>?_⟩;obtain⟨ρ,t,H0,G0,G,R,w,⟨ds,h1,h2⟩,kk⟩:=hx_;obtain⟨Hb,wb,_⟩:=w.rebase;obtain⟨Gf,sf,ht⟩:=SR.frzT is wb.sr;have smf:Same G Gf:=sf.gr.g;refine tAof.at h1 sf λvs H1 V N r1 s1=>?_;intro x A hx0 W hne;have u:H x=none:=N.h.free hx0;have L:H A=none:=N.h.free W
 have hid1:=λa s e=>by
  have j:=w.hw.h a s e
  have h4:Gf a=none:=by
   refine Classical.byContradiction λz=>?_;have:=sf.gr.n a (w.no e) z;rw[wb.h0 a s e]at this;cases this
  refine Classical.byContradiction λz=>?_;have:=N.n a h4 z;rw[j]at this;cases this
 have tx:t x=none:=by
  cases z:t x with
  | none=>rfl
  | some s=>rw[w.hw.h x s z]at u;cases u
 have g1x:V x=none:=s1.seen.free hx0;have g1dx:V A=none:=s1.seen.free W;obtain⟨R',hi,hR⟩:=h2 x C A tx;refine⟨by rw[qt,qz,r1.length,(hdd V).length,hl _ ds h1],.adr x::(ds++K),_,V,R',.cons (by rw[Rp]) (r1.append (hdd V)),λa o g=>?_,⟨λa s e=>?_,λa s e=>?_,λa s e=>?_⟩,hi,λd t' hd v H' G' S rd=>?_⟩
 .have n1:a≠x:=λz=>by rw[z,g1x]at g;cases g
  have U:a≠A:=λz=>by rw[z,g1dx]at g;cases g
  rw[Yh n1,Yh U];exact s1.seen a o g
 .by_cases z:a=x
  .rw[z];exact g1x
  .rw[bJ z]at e;exact hid1 a s e
 .by_cases z:a=x
  .subst z
   rw[Ym]at e;cases e;rw[Yi];rfl
  .rw[bJ z]at e
   have j:=N.h _ _ (w.hw.h a s e)
   have U:a≠A:=λy=>by rw[y,W]at j;cases j
   rw[Yh z,Yh U];exact j
 .by_cases z:a=x
  .subst z
   rw[Ym]at e;cases e;exact⟨hC,rfl,.nil⟩
  .rw[bJ z]at e
   exact(w.ok a s e).mono (smf.trans N.g)
 obtain⟨T,rfl,hsf,hst⟩:=hR d t' hd;rw[Rp]at rd;subst rd;refine⟨rfl,?_⟩;have Z:∀a,a≠x->pt t x (some (HS.ins c C A [] [] [])) a=t a:=λa z=>bJ z
 have J:∀a,t a=none->t' a≠none->H a=none:=λa h h'=>by
  by_cases z:a=x
  .rw[z];exact u
  .have j:=S.new a (by rw[Z a z];exact h) h'
   rw[Yh z]at j;by_cases y:a=A
   .rw[y];exact L
   .rw[Yh y]at j;exact N.h.free j
 have E:∀a,t' a=none->t a=none:=λa h=>by
  have j:=S.grow a h;by_cases z:a=x
  .rw[z];exact tx
  .rw[Z a z]at j;exact j
 have l:=λa o h g=>by
  have j:=N.h a o g
  have n1:a≠x:=λz=>by rw[z,u]at g;cases g
  have U:a≠A:=λz=>by rw[z,L]at g;cases g
  exact S.keep a o (by rw[Z a n1];exact h) (by rw[Yh n1,Yh U];exact j)
 let M:Hp:=λa=>if H a=none then G' a else G a
 have Y:∀{a},H a=none->M a=G' a:=λh=>if_pos h;have B:∀{a},H a≠none->M a=G a:=λh=>if_neg h
 have I:Same G M:=λa o g=>by
  rw[B (by rw[w.sr.seen a o g];exact λy=>nomatch y)];exact g
 have hs2:Same M H':=λa o g=>by
  by_cases z:H a=none
  .rw[Y z]at g;exact S.s a o g
  .rw[B z]at g
   have tn:t a=none:=by
    cases y:t a with
    | none=>rfl
    | some s=>rw[w.no y]at g;cases g
   exact l a o tn (w.sr.seen a o g)
 have tup:∀b ys,G' b=some (HO.tup ys)->M b=some (HO.tup ys):=λb ys hb=>by
  by_cases z:H b=none
  .rw[Y z];exact hb
  .rw[B z]
   refine ht b ys ?_
   have hb1:V b=some (HO.tup ys):=by
    cases q:V b with
    | none=>
      have j:=S.n b q (by rw[hb];exact λy=>nomatch y);have n1:b≠x:=λy=>z (by rw[y];exact u);have U:b≠A:=λy=>z (by rw[y];exact L);rw[Yh n1,Yh U]at j;exact absurd (N.h.free j) z
    | some o=>
      have:=S.g _ _ q;rw[hb]at this;cases this;rfl
   cases q:Gf b with
   | none=>exact absurd (N.n b q (by rw[hb1];exact λy=>nomatch y)) z
   | some o=>
     have:=N.g _ _ q;rw[hb1]at this;cases this;rfl
 have r:HW X.K t' H' M:=⟨λa s e=>by
  by_cases z:H a=none
  .rw[Y z];exact S.hw.g a s e
  .rw[B z]
   cases y:t a with
   | none=>exact absurd (J a y (by rw[e];exact λq=>nomatch q)) z
   | some s'=>exact w.no y,S.hw.h,λa s e=>by
  rcases T a s e with h|h
  .exact(w.ok a s h).mono I
  .exact(S.hw.ok a s e).q tup h⟩
 have hn2:∀a,G a=none->M a≠none->H a=none:=λa h h'=>Classical.byContradiction λz=>h' (by rw[B z];exact h)
 cases shown with
 | false=>
   obtain⟨H3,f3,w3⟩:=w.after ⟨l,E,J,r,I,hs2,hn2⟩;exact kk _ _ (hsf rfl) _ H' M H3 f3 w3 I (by rw[Rp])
 | true=>
   obtain⟨ks,ws,es,hx,hq⟩:=hst rfl;have g2x:=r.g x _ hx
   have P:Same M (upd M x (.ins C A (ks.zip ws))):=λa o g=>by rw[Yh (Yl g g2x)];exact g
   obtain⟨o1,o2,o3⟩:=r.ok x _ hx
   obtain⟨H3,f3,w3⟩:=w.after (t':=pt t' x none) (H':=H') ⟨l,λa h=>by
    by_cases z:a=x
    .rw[z];exact tx
    .rw[bJ z]at h;exact E a h,λa h h'=>by
    by_cases z:a=x
    .rw[z];exact u
    .rw[bJ z]at h';exact J a h h',⟨λa s e=>by
    have z:a≠x:=λz=>by rw[z,Ym]at e;cases e
    rw[bJ z]at e
    rw[Yh z];exact r.g a s e,λa s e=>by
    have z:a≠x:=λz=>by rw[z,Ym]at e;cases e
    rw[bJ z]at e
    exact r.h a s e,λa s e=>by
    have z:a≠x:=λz=>by rw[z,Ym]at e;cases e
    rw[bJ z]at e
    exact(r.ok a s e).mono P⟩,I.trans P,λa o g=>by
    by_cases z:a=x
    .subst z
     rw[Yi]at g;rw[<-g];exact r.h a _ hx
    .rw[Yh z]at g;exact hs2 a o g,λa h h'=>by
    by_cases z:a=x
    .rw[z];exact u
    .rw[Yh z]at h';exact hn2 a h h'⟩
   refine kk _ _ hq _ H' _ H3 f3 w3 (I.trans P) ?_;rw[Rp];exact⟨x,C,A,ws,rfl,o1,Yi,o2,o3.mono P⟩
end
theorem A8{f:Str}{y:V}:∀{ks:AK}{vs:AQ},f∉ks->vs.length=ks.length->bG f y (ks.zip vs)=(ks++[f]).zip (vs++[y])
 | [],[],_,_=>rfl
 | [],_::_,_,h=>nomatch h
 | _::_,[],_,h=>nomatch h
 | k::ks,v::vs,h,a=>by
   rw[List.zip_cons_cons,List.cons_append,List.cons_append,List.zip_cons_cons];show(if k=f then _ else _)=_;rw[if_neg λz=>h (by rw[z];exact qh),A8 (λz=>h (qg _ z)) (by simpa using a)]
def Aft.put{t:Hs}{H G:Hp}{x:Addr}{s s':HS}(w:HW K t H G)(g:Same G H)(e:t x=some s)(f:s'.ok K G):Aft K t (pt t x (some s')) H G (upd H x s'.ho) G:=by
 have d:=w.g x s e;refine⟨λa o h c=>?_,λa h=>?_,λa h i=>?_,⟨λa s b=>?_,λa s b=>?_,λa s b=>?_⟩,.refl _,λa o c=>?_,λa h i=>absurd h i⟩
 .have z:a≠x:=λz=>by rw[z,e]at h;cases h
  rwa [Yh z]
 .by_cases z:a=x
  .rw[z,Ym]at h;cases h
  .rwa [bJ z]at h
 .by_cases z:a=x
  .rw[z,e]at h;cases h
  .rw[bJ z]at i;exact absurd h i
 .by_cases z:a=x
  .rwa [z]
  .rw[bJ z]at b;exact w.g a s b
 .by_cases z:a=x
  .subst z;rw[Ym]at b;cases b;exact Yi
  .rw[bJ z]at b;rw[Yh z];exact w.h a s b
 .by_cases z:a=x
  .subst z;rw[Ym]at b;cases b;exact f
  .rw[bJ z]at b;exact w.ok a s b
 .rw[Yh (Yl c d)];exact g a o c
def da(i:Nat)(f:Str)(j:AK)(fe:AW):Hm:=λe t Q=>∃x c C a b g h d,e[i]?=some (↑(.adr x))/\t x=some (.ins c C a b g h)/\c∈j/\f∉b/\b.length<1000/\fe e=some d/\∀v,Q (.nx e (pt t x (some (.ins c C a (b++[f]) (g++[v]) (h++[d])))))
def mv(i:Nat)(f:Str)(h:AK):Hm:=λe t Q=>∃x c C a b d g,e[i]?=some (↑(.adr x))/\t x=some (.ins c C a b d g)/\c∈h/\f∉b/\b.length<1000/\∀l,t l=none->Q (.nx e (pt (pt t l (some (.bls []))) x (some (.ins c C a (b++[f]) (d++[.ref l]) (g++[.adr l])))))
abbrev gw:AK:=["hand","row","seen"]
def mw(i:Nat):Hm:=λρ t Q=>∃x C d e c f a b n,ρ[i]?=some (↑(.adr x))/\t x=some (.ins "Rowed" C d gw [e,c,f] [a,b,.int n])/\Q (.nx ρ (pt t x (some (.ins "Rowed" C d gw [e,c,.int (n+1)] [a,b,.int (n+1)]))))
def mx(i:Nat)(fe:AW):Hm:=λa t Q=>∃b h l y k,a[i]?=some (↑(aZ b h (.adr l)))/\t l=some (.bls y)/\y.length<1000000/\fe a=some (.bl k)/\Q (.nx a (pt t l (some (.bls (y++[k])))))
section
variable {e:Expr}{fe:AW}{tpos:Pos}{f x:Str}{cs:AK}
def A9{g b H G:Hp}{σ:L2.St}{ρ:Ro}{i:Nat}{a:Addr}(s:SR K g b σ H G ρ)(h:ρ[i]?=some (↑(.adr a))):σ[i]?=some (some (V.ref a)):=by
 obtain⟨v,c,d⟩:=s.sh i _ h;rw[c,d]
def IA{ks:AK}{vs:AQ}(h:vs.length=ks.length):(ks.zip vs).length=ks.length:=by
 rw[List.length_zip,h,Nat.min_self]
theorem gy(i:Nat)(j:∀c∈cs,CF X.K c f)(s:ZE X e fe)(A:X.N[i]?=some x:=by rfl)(O:eZ X.env.scope x:=by trivial)(N:cj x:=by decide)(k:fM x:=by decide)(hs:swapsWith e (some (.Attribute (.Name x p1) f tpos)) pos.line X.env=pure false:=by rfl):
 eE X (.Assign [.Attribute (.Name x p1) f tpos] e pos) (da i f cs fe):=⟨PS.imp (FH (fU A O N k) s.un hs) λF Z H l=>by
 obtain⟨ρ,t,U,W,G,Q,w,⟨a,c,C,b,D,K,Y,d,q,m,B,p,T,u,M⟩,r⟩:=l;refine tOf.at u w.sr λy V z P R n=>?_;have g:=w.grow P;obtain⟨o,h,v⟩:=g.ok a _ m;obtain⟨J,E⟩:=j c B C o;refine⟨_,A9 n q,a,C,b,_,rfl,g.hw.h a _ m,J,E,by rwa [IA h],?_⟩
 have e1:.ins C b (bG f y (D.zip K))=HS.ho (.ins c C b (D++[f]) (K++[y]) (Y++[d])):=by rw[A8 p h];rfl
 rw[e1];obtain⟨L,I,S⟩:=g.after (.put g.hw n.seen m (s':=.ins c C b (D++[f]) _ _) ⟨o,by simp[h],v.append (.one R)⟩)
 exact r _ (M y) Z _ z L I S⟩
def Aft.add{t:Hs}{H G:Hp}{l:Addr}{s:HS}(w:HW K t H G)(g:Same G H)(h:H l=none)(j:s.ok K G):Aft K t (pt t l (some s)) H G (upd H l s.ho) G:=by
 have d:=g.free h
 have k:t l=none:=by
  cases z:t l with
  | none=>rfl
  | some x=>rw[w.h l x z]at h;cases h
 refine⟨λa o _ c=>?_,λa h=>?_,λa i e=>?_,⟨λa s b=>?_,λa s b=>?_,λa s b=>?_⟩,.refl _,λa o c=>?_,λa h e=>absurd h e⟩
 .rwa [Yh (Yl c h)]
 .by_cases z:a=l
  .rwa [z]
  .rwa [bJ z]at h
 .by_cases z:a=l
  .rwa [z]
  .rw[bJ z]at e;exact absurd i e
 .by_cases z:a=l
  .rwa [z]
  .rw[bJ z]at b;exact w.g a s b
 .by_cases z:a=l
  .subst z;rw[Ym]at b;cases b;exact Yi
  .rw[bJ z]at b;rw[Yh z];exact w.h a s b
 .by_cases z:a=l
  .subst z;rw[Ym]at b;cases b;exact j
  .rw[bJ z]at b;exact w.ok a s b
 .rw[Yh (Yl c d)];exact g a o c
theorem O7(i:Nat){r:Pos}(k:∀c∈cs,CF X.K c f)(A:X.N[i]?=some x:=by rfl)(Z:eZ X.env.scope x:=by trivial)(L:cj x:=by decide)(n:fM x:=by decide)(hs:swapsWith (.List [] r) (some (.Attribute (.Name x p1) f tpos)) pos.line X.env=pure false:=by rfl):
 eE X (.Assign [.Attribute (.Name x p1) f tpos] (.List [] r) pos) (mv i f cs):=⟨PS.imp (FH (fU A Z L n) (FI fj) hs) λF Y H j=>by
 obtain⟨ρ,t,U,V,G,Q,w,⟨a,c,C,d,e,K,D,s,h,B,O,S,R⟩,u⟩:=j;refine⟨Qh _,λl o=>?_⟩
 have p:t l=none:=by
  cases z:t l with
  | none=>rfl
  | some x=>rw[w.hw.h l x z]at o;cases o
 obtain⟨q,m,v⟩:=w.ok a _ h;obtain⟨I,N⟩:=k c B C q;obtain⟨T,E,b⟩:=w.after (Aft.add (s:=.bls []) w.hw w.sr.seen o trivial)
 have g:pt t l (some (.bls [])) a=some (.ins c C d e K D):=by rw[bJ (λz=>by rw[z,p]at h;cases h)];exact h
 refine⟨_,A9 b.sr s,a,C,d,_,rfl,b.hw.h a _ g,I,N,by rw[IA m];exact S,?_⟩
 have M:HO.ins C d (bG f (.ref l) (e.zip K))=HS.ho (.ins c C d (e++[f]) (K++[.ref l]) (D++[.adr l])):=by rw[A8 O m];rfl
 rw[M];obtain⟨y,J,P⟩:=b.after (Aft.put b.hw b.sr.seen g (s':=.ins c C d (e++[f]) _ (D++[.adr l])) ⟨q,by simp[m],v.append (.one (by rw[Rp]))⟩)
 exact u _ (R l p) Y _ G y (E.trans J) P⟩
theorem A_(i:Nat){m:Pos}{j}(k:CF X.K "Rowed" "seen")(P:X.N[i]?=some x:=by rfl)(p:eZ X.env.scope x:=by trivial)(J:cj x:=by decide)(c:fM x:=by decide):eE X (.AugAssign (.Attribute (.Name x p1) "seen" tpos) .Add (.Constant (.int 1) j m) pos) (mw i):=
 ⟨PS.imp (LK (fU P p J c) Fg vL) λF σ H d=>by
  obtain⟨ρ,t,Y,W,G,Q,w,⟨a,C,g,v,l,V,u,y,n,s,b,L⟩,r⟩:=d;obtain⟨h,U,A⟩:=w.ok a _ b;obtain⟨E,N⟩:=k C h;obtain⟨R,T,S,I,q,O,M⟩:=A.three;cases I;subst M;refine⟨_,A9 w.sr s,a,C,g,_,.int n,rfl,w.hw.h a _ b,E,N,rfl,n,1,rfl,rfl,g,_,w.hw.h a _ b,by show 3<1000;decide,?_⟩;obtain⟨o,B,z⟩:=w.after (Aft.put w.hw w.sr.seen b (s':=.ins "Rowed" C g gw [v,l,.int (n+1)] [u,y,.int (n+1)]) ⟨h,rfl,.cons q (.cons O (.one (by rw[Rp])))⟩)
  exact r _ L σ _ G o B z⟩
theorem Ba(i:Nat){p d c:Pos}(k:CF X.K "Watch" "truths")(he:ZE X e fe)(I:X.N[i]?=some x:=by rfl)(hv:eZ X.env.scope x:=by trivial)(J:cj x:=by decide)(A:fM x:=by decide)(u:swapsWith (.Call (.Attribute (.Attribute (.Name x p1) "truths" p) "append" d) [e] [] c) none pos.line X.env=pure false:=by rfl)(hs:Ze X e:=by rfl)(o:zH X c [e]:=by rfl)(m:(d.endLine==c.line)=true:=by rfl)(j:attributeBase (.Attribute (.Name x p1) "truths" p) "append" X.env (eval (.Attribute (.Name x p1) "truths" p) X.env)=eval (.Attribute (.Name x p1) "truths" p) X.env:=by rfl)(z:attributeBase (.Name x p1) "truths" X.env (eval (.Name x p1) X.env)=eval (.Name x p1) X.env:=by rfl):
 eE X (.Expr (.Call (.Attribute (.Attribute (.Name x p1) "truths" p) "append" d) [e] [] c) pos) (mx i fe):=
 ⟨PS.imp (kE (ia PySem.F.plainAttrs_list PySem.F.slot_list_append PySem.F.type_list_append wG (FG (fU I hv J A) z) (fm he.un fj hs) j o m hs rfl) u) λF σ H s=>by
  obtain⟨ρ,t,H0,G0,G,Q,w,⟨b,h,l,y,r,N,B,U,L,Y⟩,P⟩:=s;obtain⟨v,W,q2⟩:=w.sr.sh i _ N;obtain⟨a,C,dx,xs,rfl,n,g,lx,q⟩:=q2;obtain⟨y1,y2,y3,rfl,r1,r2,r3⟩:=q.three;subst r3;refine⟨_,W,a,C,dx,_,.ref l,rfl,w.sr.seen _ _ g,(k C n).1,(k C n).2,rfl,.inl ⟨rfl,_,SqL.of (w.hw.h l _ B)⟩,tOf.at L w.sr λv H1 S Z R M=>?_⟩;subst R;have E:=w.grow Z;refine⟨l,y.map V.bl,_,rfl,rfl,E.hw.h l _ B,?_,?_⟩
  .rw[qf]
   exact Qi U (iE (qv _))
  .obtain⟨T,f4,O⟩:=E.after (Aft.put E.hw M.seen B (s':=.bls (y++[r])) trivial)
   have e2:HS.ho (.bls (y++[r]))=HO.lst (y.map V.bl++[V.bl r]):=by
    show HO.lst ((y++[r]).map V.bl)=_;rw[Qk];rfl
   have:=P _ Y σ _ S T f4 O;rw[e2]at this
   exact this⟩
end
def Bb(P:P7)(w:World)(K:W7)(d:AE)(b:Heap)(k n:Nat)(c f:Str)(ps:AK)(m:Hf):Prop:=
 ∃C a e mc,d c=some (.ref C)/\FnOk P w K d b bK k a e ps (eM K n m)/\Binds K e ps []/\W.keepIn K (.ref a)=true/\W.specialIn K (.ref C) "__getattribute__"=some (some (.builtin "type.__getattribute__"))/\W.readsIn K C mc=true/\W.findCls K (.ref C) mc f=some (.val (.ref a))/\W.handedIn (.ref a)=true
section
variable {e:Expr}{ga:AX}{p:Pos}{m:Hf}
theorem Bc{j k n:Nat}{c f:Str}{ps:AK}{pl:Sem Bool}(O:Bb X.prog X.w X.K X.mg X.base j n c f ps m)(hr:Room k X.A)(hg:Gl X c)(V:ZA X (e::es) ga)(S:∀ρ ds,ga ρ=some ds->ds.length=n)(hj:j<=k:=by first|exact qv _|lia)(i:(c==("__debug__":Str))=false:=by decide)(y:Zc X e es:=by rfl)(o:Zd X cpos es:=by rfl)(U:eval (.Call (.Attribute (.Name c p) f apos) (e::es) [] cpos) X.env=(do
  let L <-eval (.Name c p) X.env
  standAt apos.atName
  let (f,first) <-holding [L] (getMethod L f pl)
  callWith cpos f first (backTo cpos (starEach (e::es) X.env)) (backToKw cpos (keywordEach [] X.env))):=by rfl):eV X (.Call (.Attribute (.Name c p) f apos) (e::es) [] cpos) (i8 ga m):=by
 obtain⟨C,a,fd,mc,hm,F,hb,hk,hs,x,hf,Y⟩:=O
 have T:PE X (.Call (.Attribute (.Name c p) f apos) (e::es) [] cpos) (kO (eM X.K n m) [] E0 (tAof X.K ga)):=by
  intro pins s σ H Q I h;refine W.methodCall_KW (aF (tW (v:=.ref C) hg hm rfl i pins s σ H (λv g=>v=.ref C/\g=H) I ⟨rfl,rfl⟩) λu z b=>?_) U;obtain⟨v,g,q,P,ev,eh⟩:=b;subst ev;subst eh;obtain rfl:=P;refine W.method_cls q.kIn hs (W.cls_value q.kIn x hf Y (W.callWith_K I.ok.mod.kin hk (aF (V.un cpos pins _ σ g _ (q.tok _) h) λus s2 l=>?_) y o));obtain⟨vs,H2,M,r,q2⟩:=l;exact⟨M.kIn,n_ F (hr.mono hj) hb .nil ig M r q2⟩
 refine⟨PE.imp T λσ H Q b=>?_⟩;obtain⟨ρ,t,H0,G0,G,R,w,⟨ds,N,R',h2,Z⟩,k⟩:=b;refine tAof.at N w.sr λvs g D B E z=>?_;have A:=w.grow B;rw[ja];refine⟨by rw[E.length,S ρ ds N],ds,t,D,R',E,z.seen,A.hw,h2,λd t' hd v H' G' J r=>?_⟩;obtain⟨H3,f3,w3⟩:=A.after J;exact k d t' (Z d t' hd) v H' G' H3 f3 w3 (B.g.trans J.g) r
end
def rb(g:Hm):AT:=λa=>qX (g a (λ_=>none) fun
 | .rt (.bl true) _=>True
 | _=>False) (some (.rt (.bl true)))
section
variable {e:Expr}{fe:He}{a b:List Stmt}{fs gs g:Hm}{cp:Pos}
def Be(h:d4 X sts g):ZB X sts (rb g):=⟨PSs.imp h.un λF x H f=>by
 obtain⟨b,u,n,k,G,i,s,c⟩:=f;obtain⟨p,i⟩:=OS i;cases i;refine⟨b,λ_=>none,n,k,G,_,⟨s,λ_ _ e=>(nomatch (e)),λ_ _ e=>(nomatch (e)),λ_ _ e=>nomatch (e)⟩,p,λo j=>?_⟩
 split at j
 .exact λv w t r m q l=>by
   have d:=q.aft m rfl;exact c v w t ⟨λa o e=>d.keep a o rfl e,d.g,d.s,d.n⟩ l
 .exact j.elim⟩
end
def O8(K:W7)(d c:Str)(b:Bool):Prop:=∃C a,W.nsIn K mainGlobals c=some (some (.ref C))/\W.nsIn K mainGlobals d=some (some (.ref a))/\Cls K C/\W.findIn K (.ref C) "__class__"=some (some (.builtin "object.__class__"))/\
 W.specialIn K (.builtin "object.__class__") "__get__"=some (some (.builtin "getset_descriptor.__get__"))/\W.takesIn K (.builtin "object.__class__")=some true/\W.mroIn K C (.type "object")=some true/\W.kitOne K (.ref C) (.ref a)=some b
def isk_mk{h c:Str}{b:Bool}{C d:Addr}(a:W.nsIn K mainGlobals c=some (some (.ref C)))(j:W.nsIn K mainGlobals h=some (some (.ref d)))(n:W.plainGet K C Str.empty=true)(o:W.hasDictIn K C=true)(l:W.plainOver K C=true)(i:W.findIn K (.ref C) "__setattr__"=some (some (.builtin "object.__setattr__")))(e:W.findIn K (.ref C) "__class__"=some (some (.builtin "object.__class__")))(f:W.specialIn K (.builtin "object.__class__") "__get__"=some (some (.builtin "getset_descriptor.__get__")))(g:W.takesIn K (.builtin "object.__class__")=some true)(m:W.mroIn K C (.type "object")=some true)(k:W.kitOne K (.ref C) (.ref d)=some b):O8 K h c b:=⟨C,d,a,j,⟨n,o,l,i⟩,e,f,g,m,k⟩
section
variable {a:Expr}{p p2:Pos}{c0:Str}
def jl{P:P7}{w:World}{d:AE}{b:Heap}{j k:Nat}{c m:Str}{a:AK}{sp:Sp}(O:dS P w K d b j c m a sp)(h:j<=k:=by decide):dS P w K d b k c m a sp:=by
 obtain⟨C,f,e,F,r⟩:=O;exact⟨C,f,e,F.mono h,r⟩
end
def jZ(K:W7)(c q:Str)(st:Stmt):Prop:=∃C f a,W.nsIn K mainGlobals c=some (some (.ref C))/\Mk K C f/\Fun K "__init__" q st f a
def iqc_mk{c q:Str}{st:Stmt}{C f:Addr}{g:Value}{j h:Option Addr}{e:Array (Option Value)}{kV d p b r:Value}(a:W.nsIn K mainGlobals c=some (some (.ref C)))(m:W.makesIn K C=true)(o:W.keepIn K (.ref C)=true)(i:W.findIn K (.ref C) "__init__"=some (some (.ref f)))(n:W.isFn K (.ref f)=true)(l:K.lookup f=some ⟨g,j,.func (W.fnOf "__init__" q (aEa st) (aDa st) (aBa st) .none kV d p h b r),e⟩)(s:W.codeIn K b q=true)(k:W.keepIn K (.ref f)=true):jZ K c q st:=
 ⟨C,f,_,a,⟨m,i,n,o⟩,kX l s k⟩
structure Bf(K:W7)(x q:Str)(st:Stmt)(f:Addr)(fd:FuncData)(T:Addr)(t:Tok):Prop where
 ex:∃(oc:Value) (od:Option Addr) (kV doc pm:Value) (an:Option Addr) (cdv ct:Value) (osl:Array (Option Value)),
  fd=W.fnOf x q (aEa st) (aDa st) (aBa st) (.ref T) kV doc pm an cdv ct/\K.lookup f=some ⟨oc,od,.func fd,osl⟩/\W.codeIn K cdv q=true
 df:∃(oc:Value) (od:Option Addr) (n:Nat) (osl:Array (Option Value)),K.lookup T=some ⟨oc,od,.seq #[.int 0 t] n,osl⟩
def rh(K:W7)(c q:Str)(st:Stmt):Prop:=∃C f a T t,W.nsIn K mainGlobals c=some (some (.ref C))/\Mk K C f/\Bf K "__init__" q st f a T t
def iqz_mk{c q:Str}{st:Stmt}{C f T:Addr}{m h:Value}{s k o:Option Addr}{g b:Array (Option Value)}{kV j w e x:Value}{t:Tok}{u:Nat}(a:W.nsIn K mainGlobals c=some (some (.ref C)))(r:W.makesIn K C=true)(v:W.keepIn K (.ref C)=true)(i:W.findIn K (.ref C) "__init__"=some (some (.ref f)))(n:W.isFn K (.ref f)=true)(l:K.lookup f=some ⟨m,s,.func (W.fnOf "__init__" q (aEa st) (aDa st) (aBa st) (.ref T) kV j w o e x),g⟩)(p:W.codeIn K e q=true)(d:K.lookup T=some ⟨h,k,.seq #[.int 0 t] u,b⟩):rh K c q st:=
 ⟨C,f,_,T,t,a,⟨r,i,n,v⟩,⟨_,_,_,_,_,_,_,_,_,rfl,l,p⟩,_,_,_,_,d⟩
section
variable {P:P7}{w:World}
theorem jm{c x q:Str}{st:Stmt}{k n m:Nat}{N t:AK}{g:Hm}(F:Mq K c x q st)(S:b9 N t (aBa st))(u:∀{f:Addr}{d:Value}{A:Around}{b:List Env}{s:Shared}{H:Hp}{E:XK},Room k (A.deeper (envOfC q (aBa st) (~~~s) f d))->d4 (bR bK P w K mg base N q (aBa st) f d A b s H E).nox (aDa st) g)(l:N.length=n:=by rfl)(i:t.length=m:=by rfl)(B:qY x q st t:=by(intro _ _ _ _ _ _ us e;first|(obtain⟨_,rfl⟩:=eL e;rfl)|(obtain⟨_,_,rfl⟩:=dQ e;rfl)|(obtain⟨_,_,_,rfl⟩:=dA e;rfl))):dS P w K mg base (k+1) c x t (eM K m (bN n g)):=by
 obtain⟨C,f,p,a,r,j,h⟩:=F;exact⟨C,f,p,q_ h S l i λ_ _ _ _ _ _ o=>u o,h.binds B,a,r,j⟩
theorem my{c q:Str}{st:Stmt}{k n m:Nat}{N t:AK}{g:Hm}(F:jZ K c q st)(l:∀C,W.nsIn K mainGlobals c=some (some (.ref C))->mg c=some (.ref C))(S:b9 N t (aBa st))(u:∀{f:Addr}{d:Value}{A:Around}{b:List Env}{s:Shared}{H:Hp}{E:XK},Room k (A.deeper (envOfC q (aBa st) (~~~s) f d))->d4 (bR bK P w K mg base N q (aBa st) f d A b s H E).nox (aDa st) g)(j:N.length=n:=by rfl)(i:t.length=m:=by rfl)(B:qY "__init__" q st t:=by(intro _ _ _ _ _ _ us h;first|(obtain⟨_,_,rfl⟩:=dQ h;rfl)|(obtain⟨_,_,_,rfl⟩:=dA h;rfl))):jY P w K mg base (k+1) m c t [] (bN n g):=by
 obtain⟨C,f,o,a,p,e⟩:=F;exact⟨C,f,o,[],[],a,l C a,p,q_ e S j i λ_ _ _ _ _ _ r=>u r,e.binds B,.nil,λG=>.nil⟩
end
def Kq(K:W7)(c f q:Str)(st:Stmt):Prop:=∃C a b d,W.nsIn K mainGlobals c=some (some (.ref C))/\Fun K f q st a b/\W.specialIn K (.ref C) "__getattribute__"=some (some (.builtin "type.__getattribute__"))/\W.readsIn K C d=true/\W.findCls K (.ref C) d f=some (.val (.ref a))/\W.handedIn (.ref a)=true
def kq_mk{c f q:Str}{st:Stmt}{C a:Addr}{mc:Value}{m:Value}{o n:Option Addr}{j:Array (Option Value)}{kV d p b t:Value}(e:W.nsIn K mainGlobals c=some (some (.ref C)))(i:W.findIn K (.ref C) f=some (some (.ref a)))(l:K.lookup a=some ⟨m,o,.func (W.fnOf f q (aEa st) (aDa st) (aBa st) .none kV d p n b t),j⟩)(u:W.codeIn K b q=true)(k:W.keepIn K (.ref a)=true)(s:W.specialIn K (.ref C) "__getattribute__"=some (some (.builtin "type.__getattribute__")))(r:W.readsIn K C mc=true)(g:W.findCls K (.ref C) mc f=some (.val (.ref a)))(h:W.handedIn (.ref a)=true):Kq K c f q st:=⟨C,a,_,mc,e,kX l u k,s,r,g,h⟩
theorem Bg{P:P7}{w:World}{l:AE}{b:Heap}{c f q:Str}{st:Stmt}{k n m:Nat}{N ps:AK}{g:Hm}(F:Kq K c f q st)(t:∀C,W.nsIn K mainGlobals c=some (some (.ref C))->l c=some (.ref C))(S:b9 N ps (aBa st))(hb:∀{f:Addr}{i:Value}{A:Around}{d:List Env}{s:Shared}{H:Hp}{E:XK},Room k (A.deeper (envOfC q (aBa st) (~~~s) f i))->d4 (bR bK P w K l b N q (aBa st) f i A d s H E).nox (aDa st) g)(v:N.length=n:=by rfl)(x:ps.length=m:=by rfl)(B:qY f q st ps:=by(intro _ _ _ _ _ _ us o;first|(obtain⟨_,_,rfl⟩:=dQ o;rfl)|(obtain⟨_,_,_,rfl⟩:=dA o;rfl))):Bb P w K l b (k+1) m c f ps (bN n g):=by
 obtain⟨C,a,u,mc,e,j,s,r,g',h⟩:=F;exact⟨C,a,u,mc,t C e,q_ j S v x λ_ _ _ _ _ _ p=>hb p,j.binds B,j.kp,s,r,g',h⟩
def rm(n:Nat)(b:Ha)(m:Hf):He:=λρ t Q=>b ρ t λds a=>ds.length=n/\∃R,m ds a R/\∀d t',R d t'->Q d t'
def Bh(f:AW):He:=λa t Q=>∃d,f (d5 t a)=some d/\cN d=true/\Q d t
theorem O9{X:Cx}{e:Expr}{f:AW}(h:ZE X e f):eV X e (Bh f):=⟨PE.imp h.un λE H Q j=>by
 obtain⟨C,t,p,x,G,R,w,⟨d,i,A,q⟩,k⟩:=j;obtain⟨n,u⟩:=w.thaw;refine⟨_,d,n,x,_,i,u,λv y B g r=>?_⟩
 have m:Gr H G y (λa=>if t a=none then B a else none):=by
  refine⟨g.h,λa o e=>?_,λa o e=>?_,λa i c=>?_⟩
  .have l:t a=none:=by
    cases z:t a with
    | none=>rfl
    | some s=>rw[w.no z]at e;cases e
   rw[if_pos l];exact g.g a o (by rwa [i4 l])
  .by_cases z:t a=none
   .simp [if_pos z]at e
    exact g.s a o e
   .simp only[if_neg z]at e;cases e
  .by_cases z:t a=none
   .simp [if_pos z]at c
    exact g.n a (by rwa [i4 z]) c
   .simp only[if_neg z]at c;exact absurd rfl c
 refine k d t q v y _ p .refl (w.grow m) m.g (r.plain (λb F e=>?_) A);rw[if_pos ?_]
 .exact e
 .cases z:t b with
  | none=>rfl
  | some s=>
    have:=g.g b _ (q0 z);rw[e]at this
    cases s<;>cases this⟩
section
variable {e:Expr}{ga:Ha}{m:Hf}{p:Pos}{fe:He}{a b:List Stmt}{fs gs:Hm}
theorem O_{j k n:Nat}{x:Str}{ps:AK}(c:A7 X.prog X.w X.K X.mg X.base j n x ps m)(I:Room k X.A)(N:Gl X x)(S:mn X (e::es) ga)(z:j<=k:=by first|exact qv _|lia)(l:cj x:=by decide)(he:Zc X e es:=by rfl)(h:Zd X cpos es:=by rfl):eV X (.Call (.Name x p) (e::es) [] cpos) (rm n ga m):=by
 obtain⟨a,fd,F,hb,O,Y⟩:=c;refine⟨PE.imp (vS (F.mono z) I N Y O hb .nil ig S.un l he h) λσ H Q g=>?_⟩;obtain⟨ρ,t,P,W,G,R,w,q,V⟩:=g;refine⟨ρ,t,P,W,G,_,w,q,λds T i vs Z C Ha A o y u=>?_⟩;obtain⟨f,B,U,E⟩:=i;rw[ja];refine⟨by rw[u.length,f],ds,T,C,B,u,o.sr.seen,o.hw,U,λd t' i v H' G' s r=>?_⟩;obtain⟨L,J,D⟩:=o.after s;exact V d t' (E d t' i) v H' G' L (A.trans J) D (y.trans s.g) r
end
section
variable {P:P7}{w:World}
theorem Bi{c q:Str}{st:Stmt}{k n m:Nat}{N ps:AK}{g:Hm}(F:rh K c q st)(U:∀C,W.nsIn K mainGlobals c=some (some (.ref C))->mg c=some (.ref C))(S:b9 N ps (aBa st))(hb:∀{f:Addr}{b:Value}{A:Around}{i:List Env}{s:Shared}{H:Hp}{E:XK},Room k (A.deeper (envOfC q (aBa st) (~~~s) f b))->d4 (bR bK P w K mg base N q (aBa st) f b A i s H E).nox (aDa st) g)(r:∀(T:Addr) (t:Tok) (kV j I:Value) (B:Option Addr) (b ct:Value) (us:AC),us.length=m->∃c:Option (Array Value)->Sem (List (Str×Value)),bindArgs (W.fnOf "__init__" q (aEa st) (aDa st) (aBa st) (.ref T) kV j I B b ct) ⟨us,[]⟩=seqItems? (.ref T)>>=c/\c (some #[.int 0 t])=pure (ps.zip us))(O:N.length=n:=by rfl)(J:ps.length=m:=by rfl):jY P w K mg base (k+1) m c ps [] (bN n g):=by
 obtain⟨C,f,fd,T,t,a,mk,L⟩:=F;obtain⟨oc,od,kV,j,I,B,b,ct,osl,rfl,D,u⟩:=L.ex;refine⟨C,f,_,[],[],a,U C a,mk,kP D u S (λvs H Q E h=>by rw[h.1,J]) λA i s H vs Q E hr h=>?_,λs us hK z=>?_,.nil,λG=>.nil⟩
 .obtain⟨z,ds,t,G,R,Y,M,y,e,q⟩:=h
  refine⟨_,((hb hr).un).nox,?_⟩
  have s0:SR K H G (start N vs) H G (Yd n ds):=by
   rw[<-O];exact SR.start M Y
  refine⟨_,t,H,G,G,_,⟨s0,y.h,y.g,y.ok⟩,e,λo l=>?_⟩
  cases o with
  | rt d t'=>exact λv H' G' Z x p V=>q d t' l v H' G' (p.aft x rfl) V
  | nx ρ' t'=>exact λσ' H' G' Z x p=>q .non t' l .non H' G' (p.aft x rfl) (by rw[Rp])
  | bk ρ' t'=>exact l.elim
  | ct ρ' t'=>exact l.elim
 .rw[J,ja]at z
  obtain⟨_,_,_,_,l⟩:=L.df;obtain⟨c,h1,h2⟩:=r T t kV j I B b ct us z;have:=BindsTo.of_defaults rfl (hK _ _ l) rfl h1 h2;rw[ja];exact this
end
end M
namespace Lw
variable {is S:AF}{ga:AX}{pp:D}{ns:AG}{x3 x4 x0 x1 x2:Int}{HH:AR}{bits:AH}
open PySem PySem.Spec PyProof.Rows L2 M
def top(i:Nat):Stmt:=PySem.Challenge.pw_duskbook_k43_whole_storms_papers_win.main.body.getD i (.Pass ⟨0,0,0,0⟩)
def gt_EXCHANGED_KINDS:List (Str×Str):=[((.ofString "eithers"),.ofString "eithers"),((.ofString "sums"),.ofString "sums"),((.ofString "ifs"),.ofString "nots"),((.ofString "nots"),.ofString "ifs")]
def IB:AK:=[.ofString "keeper",.ofString "storm"]
set_option maxHeartbeats 4000000
def Fq(K:W7)(c:AE)(x:Str)(i:Nat):Prop:=∃a d,Fun K x x (top i) a d/\c x=some (.ref a)
def Fk(K:W7)(x:Str)(i:Nat):Prop:=∃a c,W.nsIn K mainGlobals x=some (some (.ref a))/\Fun K x x (top i) a c
def Fk.on{K:W7}(F:Fk K x i)(X:K.In h)(G:h.Ns mainGlobals c):Fq K c x i:=by
 obtain⟨a,d,n,f⟩:=F;exact⟨a,d,f,W.mg_of X G n⟩
def fk_mk{K:W7}{kV e h d j:Value}(a:W.nsIn K mainGlobals x=some (some (.ref f)))(l:K.lookup f=some ⟨m,n,.func (W.fnOf x x (aEa (top i)) (aDa (top i)) (aBa (top i)) .none kV e h o d j),g⟩)(c:W.codeIn K d x=true)(k:W.keepIn K (.ref f)=true):Fk K x i:=⟨_,_,a,kX l c k⟩
abbrev Fs(n i:Nat)(N:AK):Prop:=b9 N (N.take n) (aBa (top i))
abbrev kq:Nat->NameKind
 | 0=>.local
 | 1=>.free
 | 2=>.globalImplicit
 | _=>.cell
abbrev Cs(A:AK)(i:Nat)(L:AK)(s:List AN)(n:List (Str×Nat)):Prop:=fN A (aBa (top i)) L s (Fb ((".0",.local)::n.map λp=>(p.1,kq p.2)))
def bQ{A:AK}{i:Nat}{L:AK}{s:List AN}{n:List (Str×Nat)}(h:ij A (aBa (top i)) L s (Fb ((".0",.local)::n.map λp=>(p.1,kq p.2)))=true:=by decide +kernel):Cs A i L s n:=Me h
theorem aG{N h:AK}{i:Scope}(a:i.kind=.function:=by rfl)(b:i.isCoroutine=false:=by rfl)(c:i.isGenerator=false:=by rfl)(d:N.Nodup:=by decide +kernel)(e:N.take h.length=h:=by rfl)(f:∀x∈h,i.names.lookup x=some .local\/i.names.lookup x=some .cell:=by decide +kernel)(g:∀y∈i.names,y.2≠.free:=by decide +kernel):b9 N h i:=⟨a,b,c,d,e,f,g⟩
def rn(x:Str)(i:Nat)(h:AK):Prop:=∀(kV a e:Value) (d:Option _) (c f:Value) (b:List _),b.length=h.length->bindArgs (W.fnOf x x (aEa (top i)) (aDa (top i)) (aBa (top i)) .none kV a e d c f) ⟨b,[]⟩=pure (h.zip b)
theorem ew{K:W7}{i k n m:Nat}(F:Fq K j x i)(S:b9 N r (aBa (top i)))(t:∀{f:Addr}{e:Value}{A:Around}{c:List Env}{s:Shared}{H:Hp}{E:XK},Room k (A.deeper (envOfC x (aBa (top i)) (~~~s) f e))->ZB (bR bK P w K j d N x (aBa (top i)) f e A c s H E).nox (aDa (top i)) fb)(o:N.length=n:=by rfl)(l:r.length=m:=by rfl)(B:rn x i r:=by(intro _ _ _ _ _ _ us b;first|(obtain⟨_,rfl⟩:=eL b;rfl)|(obtain⟨_,_,rfl⟩:=dQ b;rfl)|(obtain⟨_,_,_,rfl⟩:=dA b;rfl)|(obtain⟨_,_,_,_,rfl⟩:=fC b;rfl)|(obtain⟨_,_,_,_,_,rfl⟩:=fD b;rfl)|(obtain⟨_,_,_,_,_,_,rfl⟩:=fE b;rfl)|(obtain⟨_,_,_,_,_,_,_,rfl⟩:=lK b;rfl))):aM P w K j d (k+1) m x r (aq m n fb):=by
 obtain⟨a,q,f,h⟩:=F;exact xO f (f.binds B) h (zJ f S o l λ_ _ _ _ _ _ p=>t p)
theorem mz{P:P7}{w:World}{K:W7}{d:AE}{b:Heap}{x:Str}{i m L:Nat}{ps:AK}{mr:Nat->AR->Option D}(F:Fq K d x i)(h0:mr 0=λ_=>none)(hs:∀{k j:Nat},aM P w K d b k m x ps (mr j)->L<=k->aM P w K d b (k+1) m x ps (mr (j+1)))(g:ps.length=m:=by rfl)(B:rn x i ps:=by(intro _ _ _ _ _ _ us c;first|(obtain⟨_,rfl⟩:=eL c;rfl)|(obtain⟨_,_,rfl⟩:=dQ c;rfl)|(obtain⟨_,_,_,rfl⟩:=dA c;rfl)|(obtain⟨_,_,_,_,rfl⟩:=fC c;rfl)|(obtain⟨_,_,_,_,_,rfl⟩:=fD c;rfl)|(obtain⟨_,_,_,_,_,_,rfl⟩:=fE c;rfl)|(obtain⟨_,_,_,_,_,_,_,rfl⟩:=lK c;rfl))):∀j,aM P w K d b (L+j) m x ps (mr j)
 | 0=>by
   obtain⟨a,l,f,h⟩:=F;rw[h0];exact MU f (f.binds B) h g
 | j+1=>hs (mz F h0 hs g B j) (Nat.le_add_right _ _)
theorem Bj{P:P7}{w:World}{K:W7}{mg:AE}{base:Heap}{x:Str}{i k n m:Nat}{N ps:AK}{fb:AT}{gl:AX}(F:Fq K mg x i)(S:b9 N ps (aBa (top i)))(hb:∀{f:Addr}{cdv:Value}{A:Around}{outer:List Env}{s:Shared}{H:Hp}{E:XK},Room k (A.deeper (envOfC x (aBa (top i)) (~~~s) f cdv))->KL gl (bR bK P w K mg base N x (aBa (top i)) f cdv A outer s H E).nox (aDa (top i)) fb)(hn:N.length=n:=by rfl)(hm:ps.length=m:=by rfl)(B:rn x i ps:=by(intro _ _ _ _ _ _ us hl;first|(obtain⟨_,_,_,rfl⟩:=dA hl;rfl)|(obtain⟨_,_,_,_,rfl⟩:=fC hl;rfl)|(obtain⟨_,_,_,_,_,rfl⟩:=fD hl;rfl))):pq P w K mg base (k+1) m x ps (gm m n fb gl):=by
 obtain⟨a,fd,f,h⟩:=F;exact zS f (f.binds B) h (OB (k:=k) f S hn hm λ_ _ _ _ _ _ hr=>hb hr)
def IC:∀ρ l,Yb a ae ρ=some l->l.length=1:=lg λ_ _ h=>Mz h
def Bm:∀ρ l,Yb a (Yb b ae) ρ=some l->l.length=2:=lg IC
def ru:∀ρ l,Yb a (Yb c (Yb b ae)) ρ=some l->l.length=3:=lg Bm
def ID:∀ρ l,Yb a (Yb d (Yb b (Yb c ae))) ρ=some l->l.length=4:=lg ru
def IE:∀ρ l,Yb a (Yb e (Yb b (Yb d (Yb c ae)))) ρ=some l->l.length=5:=lg ID
theorem Bn{P:P7}{w:World}{K:W7}{j:AE}{b:Heap}{x:Str}{i k n m:Nat}{N ps:AK}{g:Hm}(F:Fq K j x i)(S:b9 N ps (aBa (top i)))(hb:∀{f:Addr}{e:Value}{A:Around}{c:List Env}{s:Shared}{H:Hp}{E:XK},Room k (A.deeper (envOfC x (aBa (top i)) (~~~s) f e))->d4 (bR bK P w K j b N x (aBa (top i)) f e A c s H E).nox (aDa (top i)) g)(o:N.length=n:=by rfl)(p:ps.length=m:=by rfl)(B:rn x i ps:=by(intro _ _ _ _ _ _ us d;first|(obtain⟨_,rfl⟩:=eL d;rfl)|(obtain⟨_,_,rfl⟩:=dQ d;rfl)|(obtain⟨_,_,_,rfl⟩:=dA d;rfl)|(obtain⟨_,_,_,_,rfl⟩:=fC d;rfl)|(obtain⟨_,_,_,_,_,rfl⟩:=fD d;rfl)|(obtain⟨_,_,_,_,_,_,rfl⟩:=fE d;rfl))):A7 P w K j b (k+1) m x ps (bN n g):=by
 obtain⟨a,q,f,h⟩:=F;exact⟨a,q,q_ f S o p λ_ _ _ _ _ _ r=>hb r,f.binds B,f.kp,h⟩
def dc{K:W7}{a f:Str}(h:CF K a f):∀c∈[a],CF K c f:=λc d=>by
 cases List.mem_singleton.mp d;exact h
def Bp{K:W7}{a b d f:Str}(i:CF K a f)(j:CF K b f)(h:CF K d f):∀c∈[a,b,d],CF K c f:=λc e=>by
 rcases qu e with rfl|e
 .exact i
 .rcases qu e with rfl|e
  .exact j
  .exact dc h c e
def Pa{a b:AW}:∀ρ l,Yb a (Yb b ae) ρ=some l->l.length+([]:AR).length=2:=Bm
def Pb{a e b d c:AW}:∀ρ l,Yb a (Yb e (Yb b (Yb d (Yb c ae)))) ρ=some l->l.length+([]:AR).length=5:=IE
structure Bl(K:W7)(w:World)(mg:AE):Prop where
 Len:mg "len"=none
 Range:mg "range"=none
 List:mg "list"=none
 Tuple:mg "tuple"=none
 Int:mg "int"=none
 Str:mg "str"=none
 Sorted:mg "sorted"=none
 Any:mg "any"=none
 All:mg "all"=none
 Sum:mg "sum"=none
 Isinstance:mg "isinstance"=none
 Enumerate:mg "enumerate"=none
 Set:mg "set"=none
 g_BEACON_COUNT:GI mg "BEACON_COUNT" 60
 g_EXCHANGED_KINDS:GD K w mg "EXCHANGED_KINDS" gt_EXCHANGED_KINDS
 g_HANDS:GT K mg "HANDS" IB
 f2:Fq K mg "both_added" 2
 f3:Fq K mg "added" 3
 f6:Fq K mg "beacons_with" 6
 f7:Fq K mg "is_rising" 7
 f9:Fq K mg "contrary" 9
 f10:Fq K mg "led_to" 10
 f11:Fq K mg "is_road" 11
 f14:Fq K mg "exchanged_rule" 14
 f15:Fq K mg "exchanged" 15
 f23:Fq K mg "either_holds" 23
 f24:Fq K mg "sum_holds" 24
 f25:Fq K mg "if_holds" 25
 f26:Fq K mg "rule_holds" 26
 f27:Fq K mg "broken_rules" 27
 f28:Fq K mg "holds" 28
 f29:Fq K mg "beacons_in" 29
 f30:Fq K mg "beacons_of" 30
 f31:Fq K mg "is_void" 31
 f32:Fq K mg "without" 32
 f33:Fq K mg "either_left" 33
 f34:Fq K mg "sum_left" 34
 f35:Fq K mg "if_left" 35
 f36:Fq K mg "rule_left" 36
 f37:Fq K mg "left_behind" 37
 f39:Fq K mg "is_place" 39
 f40:Fq K mg "body_is_known" 40
 f41:Fq K mg "is_step" 41
 f42:Fq K mg "is_derivation" 42
 f43:Fq K mg "derived" 43
 f45:Fq K mg "is_broken" 45
 f46:Fq K mg "lead_there_and_back" 46
 f47:Fq K mg "clash_good" 47
 f48:Fq K mg "cross_good" 48
 f49:Fq K mg "late_good" 49
 f50:Fq K mg "odd_good" 50
 f51:Fq K mg "first_ones" 51
 f52:Fq K mg "is_first_part" 52
 f53:Fq K mg "is_last_part" 53
 f54:Fq K mg "lone_good" 54
 f55:Fq K mg "either_paper_good" 55
 f56:Fq K mg "storm_good" 56
 f59:Fq K mg "is_odd_count" 59
 f63:Fq K mg "cross_said" 63
 f65:Fq K mg "odd_said" 65
 f66:Fq K mg "lone_said" 66
 f67:Fq K mg "said" 67
 f72:Fq K mg "play_out" 72
 f89:Fq K mg "good" 89
 f91:Fq K mg "is_hand" 91
 f92:Fq K mg "check_hands" 92
 f95:Fq K mg "_law_cell" 95
 f96:Fq K mg "_law_mixed" 96
 f97:Fq K mg "_law_bits" 97
 f98:Fq K mg "_law_so" 98
 f99:Fq K mg "_law_rule" 99
 f100:Fq K mg "_law_hands" 100
 f101:Fq K mg "_law_own" 101
 f102:Fq K mg "_law_numbers_of" 102
 f103:Fq K mg "_law_moved" 103
 f104:Fq K mg "_law_drawn" 104
 f105:Fq K mg "_law_cross" 105
 f106:Fq K mg "_law_odd" 106
 f107:Fq K mg "_law_lone" 107
 r_Papered_says:Mq K "Papered" "says" "Papered.says" (inClass (top 71) 1)
 r_Papered_sees:Mq K "Papered" "sees" "Settler.sees" (inClass (top 69) 2)
 r_Rowed_says:Mq K "Rowed" "says" "Rowed.says" (inClass (top 70) 1)
 r_Rowed_sees:Mq K "Rowed" "sees" "Rowed.sees" (inClass (top 70) 2)
 r_Settler_says:Mq K "Settler" "says" "Settler.says" (inClass (top 69) 1)
 r_Settler_sees:Mq K "Settler" "sees" "Settler.sees" (inClass (top 69) 2)
 r_Watch_evening:Mq K "Watch" "evening" "Watch.evening" (inClass (top 93) 2)
 r_Watch_left:Mq K "Watch" "left" "Watch.left" (inClass (top 93) 3)
 r_Watch_settle:Mq K "Watch" "settle" "Watch.settle" (inClass (top 93) 5)
 r_Watch_turn:Mq K "Watch" "turn" "Watch.turn" (inClass (top 93) 1)
 r_Watch_winner:Mq K "Watch" "winner" "Watch.winner" (inClass (top 93) 4)
 i_Rowed:jZ K "Rowed" "Rowed.__init__" (inClass (top 70) 0)
 i_Papered:rh K "Papered" "Papered.__init__" (inClass (top 71) 0)
 i_Watch:jZ K "Watch" "Watch.__init__" (inClass (top 93) 0)
 k_Settler:Kq K "Settler" "__init__" "Settler.__init__" (inClass (top 69) 0)
 n_Papered_book:Nq K "Papered" "book"
 n_Papered_hand:Nq K "Papered" "hand"
 n_Papered_hands:Nq K "Papered" "hands"
 n_Papered_paper:Nq K "Papered" "paper"
 n_Papered_start:Nq K "Papered" "start"
 n_Rowed_hand:Nq K "Rowed" "hand"
 n_Rowed_row:Nq K "Rowed" "row"
 n_Rowed_seen:Nq K "Rowed" "seen"
 n_Settler_hand:Nq K "Settler" "hand"
 n_Watch_book:Nq K "Watch" "book"
 n_Watch_hands:Nq K "Watch" "hands"
 n_Watch_truths:Nq K "Watch" "truths"
 c_Rowed:∀C,W.nsIn K mainGlobals "Rowed"=some (some (.ref C))->mg "Rowed"=some (.ref C)
 c_Papered:∀C,W.nsIn K mainGlobals "Papered"=some (some (.ref C))->mg "Papered"=some (.ref C)
 c_Watch:∀C,W.nsIn K mainGlobals "Watch"=some (some (.ref C))->mg "Watch"=some (.ref C)
 c_Settler:∀C,W.nsIn K mainGlobals "Settler"=some (some (.ref C))->mg "Settler"=some (.ref C)
section
variable {P:P7}{w:World}{K:W7}{mg:AE}{base:Heap}
def Pc:Fs 2 2 ["rule","other"]:=aG
def IF:AT:=ah (aD (Yb (cC (Yb (lF (yD (b2 (aa 0) (Zb 0) ai) (b2 (aa 1) (Zb 0) ai))) ae) aL) (Yb (mB (b2 (b2 (aa 0) (Zb 1) ai) (b2 (aa 1) (Zb 1) ai) (au true))) ae)))
def mC:AR->Option D:=aq 2 2 IF
open Lean in
abbrev tUU:=TSyntax `Lean.Parser.Tactic.tacticSeq
open Lean in
def tVV(n:String):=mkIdent n.toName
open Lean in
def tA(h:Array Term)(s:List String):MacroM (Array tUU):=do
 let go (l:List String) (x:Term):MacroM tUU:=do
  let a <-l.tail.toArray.mapM λn=>if n=="q" then `(?_)else if n=="u" then `(_)else if n=="f" then `(λ_ _ _ _ _=>?_)else if n=="h" then pure x else pure (tVV n)
  `(tacticSeq| refine $(tVV l.head!) $a*)
 return (<-s.toArray.mapM λs=>do
  let l:=s.splitOn " "
  if l.contains "h" then h.mapM (go l)else return #[<-go l (<-`(_))]).flatten
set_option hygiene false in
open Lean in
local macro_rules | `(tactic| exists $xs,*)=>do
 let h:=xs.getElems
 let t <-("ZC/1 Name|ph u/0 u|yQ q;ZA/0 u|iP q q|zx;ZE/3 lF|zw q/1 Name|lI u|Om bl.g_BEACON_COUNT rfl/1 Constant|yR|yU|yS|yT/1 Subscript|N6 q q|Ot q q q|Ol bl.g_EXCHANGED_KINDS rfl q/1 Call|pk h hr rfl q q|OT h hr q|O6 h hr q q q|pj L6 xy rfl bl.Len PySem.boot_len q|HB L8 xA rfl bl.Tuple boot_tuple q|pj q x5 rfl bl.Any boot_any q|pj q x6 rfl bl.All boot_all q|HB LF xB rfl bl.Int boot_int q|zN q rfl rfl bl.Isinstance bl.Str boot_str xT|pk rc hr rfl q q|pj q x8 rfl bl.Sum boot_sum q|OQ rfl rfl bl.Tuple rfl bl.Range q/1 Tuple|zy q/1 BinOp|yX q q|yW q q|zK q q|Hz q q|yV q q|Az q q/1 Compare|zc hr.units q q|zg hr.units q q|zd hr.units q q|N4 q q|yZ q q|yY q q|On vx iw h9 iw q q q|Ay hr.units bl.g_HANDS rfl q|y_ q q/1 UnaryOp|zL q|zq q/1 BoolOp|zp q q|N3 q/1 Attribute|fS bl.n_Watch_truths.cf q|fS bl.n_Rowed_seen.cf q|fS bl.n_Rowed_row.cf q|fS bl.n_Watch_hands.cf q|fS bl.n_Watch_book.cf q|fS bl.n_Papered_paper.cf q|fS bl.n_Papered_book.cf q|fS bl.n_Papered_hands.cf q|fS bl.n_Papered_start.cf q|fS bl.n_Rowed_hand.cf q/1 IfExp|zr q q q/0 u|zw q;ZB/0 u|zB q|Oa q q|zA|Be q;ZS/4 wF|zC u q/2 nS|Oo/1 Return|zF q/1 If|zG q q q/1 Assign|Og u q h rfl q f f f q|zD u q q|zE u q q|Av q q|Oh u q q/1 For|zI jf rfl q q q/1 Expr|Oc u q|Oj u q|Oy q/1 Pass|Ob;gR/0 u|N7|N8 q q;ZT/4 o6|Oq u q/1 Compare|ze hr.units q q|zf hr.units q q|zt q q|zh hr.units q q|zi hr.units q q|N5 q q|za q q|Os q q|zb q q/1 UnaryOp|zo q/0 u|zj q|zO q;ZG/1 Name|HE u q/1 Tuple|Of u u rfl q;ZI/0 u|HC q|Od rfl bl.Range q|Oe rfl bl.Range q|Oi rfl bl.Enumerate q;ZF/1 ListComp|HG h rfl q f f f q/1 List|zz q/1 BinOp|zM q q/1 Call|OA h hr rfl q q|N_ L7 MD rfl bl.List boot_list q|Ov rfl rfl bl.Sorted rfl bl.Set q|N9 MO MR rfl bl.Sorted boot_sorted q|Ow rfl rfl bl.Sorted rfl bl.Set q q|Ox rfl hr.units rfl bl.Sorted rfl bl.Set q/1 Subscript|HA q q q;d4/0 u|OY q q|A0 q|AO;fB/0 u|HF|Ou q;ZW/1 BoolOp|zm q q|zk q|N2 q|zl q q;ZO/0 u|zv q|zu;eE/3 fI|OX q/1 Assign|A5 u q q|gy u q q|gy u q q|gy u q q|gy u q q|gy u q q|gy u q q|gy u q q|gy u q q|gy u q q|O7 u q/1 Expr|O4 q|Ba u bl.n_Watch_truths.cf q/1 If|A1 q q q/1 Return|A6 q/1 AugAssign|A_ u bl.n_Rowed_seen.cf/1 While|OZ jf q q/1 For|A3 jf rfl q q q;eV/3 i6|O1 q/3 q5|O0 q/3 Bh|O9 q/1 Call|O5 h hr q q q|Bc h hr rfl q q|Iz true u h hr rfl q q|Iz false u h hr rfl q q|O_ h hr rfl q;qZ/3 gY|O2 q;mn/0 u|O3 q q|A4".splitOn ";").toArray.mapM λj=>do
  let g:=j.splitOn "/"
  let J:=tVV g.head!
  let s <-g.tail.toArray.mapM λg=>do
   let r:=g.splitOn "|"
   let w:=r.head!.splitOn " "
   let c:=tVV w.tail.head!
   let k:=w.head!.toNat!
   let a <-tA h r.tail
   if k==0 then `(tacticSeq| first $[| $a]*)else if k==1 then `(tacticSeq| (with_reducible show $J _ (.$c ..) ..);first $[| $a]*)else
    let u <-(List.replicate (k-2) J).toArray.mapM λ_=>`(_)
    `(tacticSeq| (with_reducible show $J _ _ ($c $u*));first $[| $a]*)
  `(tacticSeq| (with_reducible show $J ..);first $[| $s]*)
 let r:Array Term:=("Bm ru IC ID IE Pa Pb".splitOn " ").toArray.map λn=>tVV n
 let b <-tA h ("GK rfl|MJ rfl rfl|MY rfl|MZ rfl|M0 rfl|Bp bl.n_Settler_hand.cf bl.n_Rowed_hand.cf bl.n_Papered_hand.cf|dc bl.n_Rowed_row.cf|dc bl.n_Rowed_seen.cf|dc bl.n_Papered_paper.cf|dc bl.n_Papered_book.cf|dc bl.n_Papered_hands.cf|dc bl.n_Papered_start.cf|dc bl.n_Watch_book.cf|dc bl.n_Watch_hands.cf|dc bl.n_Watch_truths.cf".splitOn "|")
 `(tactic| ((try refine ew $(h[0]!) $(h[1]?.getD h[0]!) λhr=>?_);repeat' first $[| $t]* $[| with_reducible exact $r]* $[| exact($h).nd]* $[| $b]* $[| exact $h]* | fail))
variable (bl:Bl K w mg)
def Pd:aM P w K mg base 1 2 "both_added" ["rule","other"] mC:=by
 exists bl.f2,Pc
def Pe:Fs 2 3 ["book","places","whole","place"]:=aG
def Bq:AT:=(aw 2 (cC (Yb (ab 2) (Yb (b2 (b2 (aa 0) (Zb 1) ai) (aa 3) ai) ae)) mC))
@[simp] def Pf:AT:=(ah (ab 2))
@[simp] def Pg:AT:=(ag (bM (b1 (ab 1) Yc) (ak 3) Bq) Pf)
def IG:AT:=(ag (aw 2 (aD (Yb (aD ae) (Yb (kD (.bl false)) ae)))) Pg)
def g6:AR->Option D:=aq 2 4 IG
def IH:aM P w K mg base 2 2 "added" ["book","places"] g6:=by
 exists bl.f3,Pe,Pd bl
def Ph:Fs 3 6 ["hands","start","hand"]:=aG
def Pj:Cs ["hands","start","hand"] 6 ["beacon","hands","hand"] [none,some 0,some 2] [("beacon",0),("hand",1),("hands",1)]:=bQ
def Br:AV:=b2 (b2 (aa 1) (aa 0) ai) (aa 2) (au false)
def Bs:AW:=ab 0
def II:AT:=ah (lF (Yv (cF (Yb (ab 1) (Yb (cC (Yb (aa 0) ae) ay) ae)) ck) [none,some 0,some 2] (ak 0) (Br) (Bs)))
def j0:AR->Option D:=aq 3 3 II
def IJ:aM P w K mg base 1 3 "beacons_with" ["hands","start","hand"] j0:=by
 exists bl.f6,Ph,Pj
def Pk:Fs 1 7 ["numbers"]:=aG
def IK:AT:=(ah (mB (b2 (lF (cF (Yb (aa 0) ae) gc)) (lF (gO (aa 0))) (au false))))
def rz:AR->Option D:=aq 1 1 IK
def Pl:aM P w K mg base 1 1 "is_rising" ["numbers"] rz:=by
 exists bl.f7,Pk
def Pm:Fs 1 9 ["saying"]:=aG
def Pn:AT:=ah (aD (Yb (b2 (aa 0) (Zb 0) ai) (Yb (cZ (b2 (aa 0) (Zb 1) ai)) ae)))
def j3:AR->Option D:=aq 1 1 Pn
def Bt:aM P w K mg base 1 1 "contrary" ["saying"] j3:=by
 exists bl.f9,Pm
def IL:Fs 2 10 ["book","saying","against","led","rule","others"]:=aG
def Po:Cs ["book","saying","against","led","rule","others"] 10 ["other","against"] [none,some 2] [("other",0),("against",1)]:=bQ
def Bu:AV:=b2 (aa 0) (aa 1) (au true)
def Bv:AW:=ab 0
def mD:AT:=aI (b2 (aa 2) (aa 4) (cG false)) (ag (aW 5 (Yv (b1 (ab 4) Yc) [none,some 2] (ak 0) (Bu) (Bv))) (bZ 3 (iC (b1 (aa 5) aN) (b2 (aa 5) (Zb 0) ai) (ab 2)) bc)) ao
@[simp] def IM:AT:=(wF [3] (ah (ab 3)))
@[simp] def IP:AT:=ag (bM (b1 (b2 (aa 0) (Zb 1) ai) Yc) (ak 4) mD) IM
@[simp] def IQ:AT:=ag (aW 3 (aX ae)) IP
def Bw:AT:=ag (aw 2 (cC (Yb (ab 1) ae) j3)) IQ
def rA:AR->Option D:=aq 2 6 Bw
def Pp:aM P w K mg base 2 2 "led_to" ["book","saying"] rA:=by
 refine ew bl.f10 IL λhr=>?_;unfold Bw IQ IP IM
 exists IL,Bt bl,Po
def Pq:Fs 2 11 ["book","road","place"]:=aG
def rB:AT:=(aI (b2 (b2 (aa 1) (aa 2) ai) (cC (Yb (ab 0) (Yb (b2 (aa 1) (b2 (aa 2) (Zb 1) cY) ai) ae)) rA) (cG true)) (ah (kD (.bl false))) ao)
def Bx:AT:=(ag (bM (cF (Yb (Zb 1) (Yb (cC (Yb (aa 1) ae) ay) ae)) ck) (ak 2) rB) (ah (mB (b2 (cC (Yb (aa 1) ae) ay) (Zb 0) ix))))
def j4:AR->Option D:=aq 2 3 Bx
def IR:aM P w K mg base 3 2 "is_road" ["book","road"] j4:=by
 exists bl.f11,Pq,Pp bl
def Pr:Fs 2 14 ["kind","rule"]:=aG
def Pt:Cs ["kind","rule"] 14 ["saying"] [none] [("saying",0),("contrary",2)]:=bQ
def By:AW:=cC (Yb (ab 0) ae) j3
@[simp] def Pu:AT:=ah (ab 1)
@[simp] def Pv:AT:=ag (aI (b2 (aa 0) (kD (.str "sums")) (au false)) (ah (aD (Yb (b2 (aa 1) (Zb 0) ai) (Yb (mB (b2 (b2 (aa 1) (Zb 1) ai) (mB (b2 (b2 (cC (Yb (b2 (aa 1) (Zb 0) ai) ae) ay) (Zb 2) az) (Zb 1) (au false))) (au true))) ae)))) ao) Pu
def rC:AT:=ag (aI (b2 (aa 0) (kD (.str "eithers")) (au false)) (ah (cC (Yb (lF (cF (Yb (lF (Yv (b1 (ab 1) Yc) [none] (ak 0) tY (By))) ae) fy)) ae) aL)) ao) Pv
def rD:AR->Option D:=aq 2 2 rC
def Pw:aM P w K mg base 2 2 "exchanged_rule" ["kind","rule"] rD:=by
 exists bl.f14,Pr,Pt,Bt bl
def Px:Fs 1 15 ["book","kind"]:=aG
def Py:Cs ["book","kind"] 15 ["rule","kind"] [none,some 1] [("rule",0),("exchanged_rule",2),("kind",1)]:=bQ
def Bz:AW:=cC (Yb (ab 1) (Yb (ab 0) ae)) rD
def IS:AT:=ag (aw 1 (b2 (aa 0) (Zb 0) ai)) (ah (aD (Yb (b1 (aa 1) (oY gt_EXCHANGED_KINDS)) (Yb (cC (Yb (lF (Yv (b1 (b2 (aa 0) (Zb 1) ai) Yc) [none,some 1] (ak 0) tY (Bz))) ae) aL) ae))))
def gz:AR->Option D:=aq 1 2 IS
def IT:aM P w K mg base 3 1 "exchanged" ["book"] gz:=by
 exists bl.f15,Px,Py,Pw bl
def Pz:Fs 2 23 ["rule","evening"]:=aG
def PB:Cs ["rule","evening"] 23 ["saying","evening"] [none,some 1] [("saying",0),("evening",1)]:=bQ
def BA:AW:=mB (b2 (b2 (aa 1) (b2 (aa 0) (Zb 0) ai) ai) (b2 (aa 0) (Zb 1) ai) (au false))
def IU:AT:=ah (cC (Yb (lF (Yv (b1 (ab 0) Yc) [none,some 1] (ak 0) tY (BA))) ae) dw)
def rE:AR->Option D:=aq 2 2 IU
def PC:aM P w K mg base 1 2 "either_holds" ["rule","evening"] rE:=by
 exists bl.f23,Pz,PB
def PF:Fs 2 24 ["rule","evening","lit_ones"]:=aG
def PH:Cs ["rule","evening","lit_ones"] 24 ["beacon","evening"] [none,some 1] [("beacon",0),("evening",1)]:=bQ
def BC:AV:=b1 (b2 (aa 1) (aa 0) ai) aN
def BE:AW:=ab 0
def IV:AT:=ag (aW 2 (Yv (b1 (b2 (aa 0) (Zb 0) ai) Yc) [none,some 1] (ak 0) (BC) (BE))) (ah (mB (b2 (mB (b2 (b2 (cC (Yb (aa 2) ae) ay) (Zb 2) az) (Zb 1) (au false))) (b2 (aa 0) (Zb 1) ai) (au false))))
def rF:AR->Option D:=aq 2 3 IV
def PJ:aM P w K mg base 1 2 "sum_holds" ["rule","evening"] rF:=by
 exists bl.f24,PF,PH
def PK:Fs 3 25 ["rule","evening","lit"]:=aG
def PM:Cs ["rule","evening","lit"] 25 ["beacon","evening","lit"] [none,some 1,some 2] [("beacon",0),("evening",1),("lit",1)]:=bQ
def BF:AW:=mB (b2 (b2 (aa 1) (aa 0) ai) (aa 2) (au true))
def rG:AT:=ag (aI (b1 (cC (Yb (lF (Yv (b1 (b2 (aa 0) (Zb 0) ai) Yc) [none,some 1,some 2] (ak 0) tY (BF))) ae) dw) aN) (ah (kD (.bl true))) ao) (ah (b_ (mB (b2 (b2 (aa 0) (Zb 1) ai) (kD .non) (cw true))) (mB (b2 (b2 (aa 1) (b2 (aa 0) (Zb 1) ai) ai) (aa 2) (au false)))))
def rH:AR->Option D:=aq 3 3 rG
def PN:aM P w K mg base 1 3 "if_holds" ["rule","evening","lit"] rH:=by
 exists bl.f25,PK,PM
def PQ:Fs 3 26 ["kind","rule","evening"]:=aG
@[simp] def PR:AT:=ah (cC (Yb (ab 1) (Yb (ab 2) (Yb (mB (b2 (aa 0) (kD (.str "ifs")) (au false))) ae))) rH)
@[simp] def PU:AT:=ag (aI (b2 (aa 0) (kD (.str "sums")) (au false)) (ah (cC (Yb (ab 1) (Yb (ab 2) ae)) rF)) ao) PR
def mE:AT:=ag (aI (b2 (aa 0) (kD (.str "eithers")) (au false)) (ah (cC (Yb (ab 1) (Yb (ab 2) ae)) rE)) ao) PU
def mF:AR->Option D:=aq 3 3 mE
def IW:aM P w K mg base 2 3 "rule_holds" ["kind","rule","evening"] mF:=by
 exists bl.f26,PQ,PC bl,PJ bl,PN bl
def PV:Fs 2 27 ["book","evening"]:=aG
def PX:Cs ["book","evening"] 27 ["place","rule","book","evening"] [none,none,some 0,some 1] [("place",0),("rule",0),("rule_holds",2),("book",1),("evening",1)]:=bQ
def BG:AV:=bL (b1 (cC (Yb (b2 (aa 2) (Zb 0) ai) (Yb (ab 1) (Yb (ab 3) ae))) mF) aN)
def BH:AW:=ab 0
def IX:AT:=ah (lF (Yv (b1 (b2 (aa 0) (Zb 1) ai) oW) [none,none,some 0,some 1] (eT 0 1) (BG) (BH)))
def rJ:AR->Option D:=aq 2 2 IX
def PY:aM P w K mg base 3 2 "broken_rules" ["book","evening"] rJ:=by
 exists bl.f27,PV,PX,IW bl
def PZ:Fs 2 28 ["book","evening"]:=aG
def IY:AT:=ah (mB (b2 (cC (Yb (cC (Yb (ab 0) (Yb (ab 1) ae)) rJ) ae) ay) (Zb 0) (au false)))
def rK:AR->Option D:=aq 2 2 IY
def P0:aM P w K mg base 4 2 "holds" ["book","evening"] rK:=by
 exists bl.f28,PZ,PY bl
def P1:Fs 2 29 ["kind","rule"]:=aG
def P2:Cs ["kind","rule"] 29 ["saying"] [none] [("saying",0)]:=bQ
def BI:AW:=b2 (aa 0) (Zb 0) ai
@[simp] def P3:AT:=ah (lF (b2 (lF (cF (Yb (b2 (aa 1) (Zb 0) ai) ae) gc)) (lF (aX (Yb (b2 (aa 1) (Zb 1) ai) ae))) bD))
@[simp] def P4:AT:=ag (aI (ec (b2 (aa 0) (kD (.str "sums")) (au false)) (b2 (b2 (aa 1) (Zb 1) ai) (kD .non) (cw false))) (ah (lF (cF (Yb (b2 (aa 1) (Zb 0) ai) ae) gc))) ao) P3
def rL:AT:=ag (aI (b2 (aa 0) (kD (.str "eithers")) (au false)) (ah (lF (Yv (b1 (ab 1) Yc) [none] (ak 0) tY (BI)))) ao) P4
def j5:AR->Option D:=aq 2 2 rL
def BJ:aM P w K mg base 1 2 "beacons_in" ["kind","rule"] j5:=by
 exists bl.f29,P1,P2
def P5:Fs 1 30 ["book","found","rule"]:=aG
def BK:AT:=bZ 1 (cC (Yb (b2 (aa 0) (Zb 0) ai) (Yb (ab 2) ae)) j5) gh
@[simp] def P6:AT:=ah (lF (gO (aa 1)))
@[simp] def P8:AT:=ag (bM (b1 (b2 (aa 0) (Zb 1) ai) Yc) (ak 2) BK) P6
def IZ:AT:=ag (aW 1 (aX ae)) P8
def rM:AR->Option D:=aq 1 3 IZ
def P9:aM P w K mg base 2 1 "beacons_of" ["book"] rM:=by
 exists bl.f30,P5,BJ bl
def P_:Fs 2 31 ["kind","rule"]:=aG
def BL:AT:=ah (b_ (mB (b2 (cC (Yb (cC (Yb (ab 0) (Yb (ab 1) ae)) j5) ae) ay) (Zb 0) (au false))) (cZ (cC (Yb (ab 0) (Yb (ab 1) (Yb (aD ae) ae))) mF)))
def mG:AR->Option D:=aq 2 2 BL
def I0:aM P w K mg base 3 2 "is_void" ["kind","rule"] mG:=by
 exists bl.f31,P_,BJ bl,IW bl
def Qv:Fs 2 32 ["beacons","beacon"]:=aG
def Qw:Cs ["beacons","beacon"] 32 ["other","beacon"] [none,some 1] [("other",0),("beacon",1)]:=bQ
def mH:AV:=b2 (aa 0) (aa 1) (au true)
def mI:AW:=ab 0
def BM:AT:=ah (cC (Yb (lF (Yv (b1 (ab 0) Yc) [none,some 1] (ak 0) (mH) (mI))) ae) aL)
def g7:AR->Option D:=aq 2 2 BM
def BN:aM P w K mg base 1 2 "without" ["beacons","beacon"] g7:=by
 exists bl.f32,Qv,Qw
def Qx:Fs 3 33 ["rule","beacon","lit"]:=aG
def Qy:Cs ["rule","beacon","lit"] 33 ["saying","beacon"] [none,some 1] [("saying",0),("beacon",1)]:=bQ
def BO:AV:=b2 (b2 (aa 0) (Zb 0) ai) (aa 1) (au true)
def BP:AW:=ab 0
def BQ:AT:=ag (aI (b2 (aD (Yb (ab 1) (Yb (ab 2) ae))) (aa 0) (cG false)) (ah (kD .non)) ao) (ah (cC (Yb (lF (Yv (b1 (ab 0) Yc) [none,some 1] (ak 0) (BO) (BP))) ae) aL))
def rN:AR->Option D:=aq 3 3 BQ
def Qz:aM P w K mg base 1 3 "either_left" ["rule","beacon","lit"] rN:=by
 exists bl.f33,Qx,Qy
def QA:Fs 3 34 ["rule","beacon","lit","beacons","odd"]:=aG
@[simp] def QB:AT:=ah (aD (Yb (ab 3) (Yb (ab 4) ae)))
@[simp] def QC:AT:=ag (aI (cM (b2 (cC (Yb (aa 3) ae) ay) (Zb 0) (au false)) (bL (b1 (aa 4) aN))) (ah (kD .non)) ao) QB
@[simp] def QD:AT:=ag (aw 4 (mB (b2 (b2 (aa 0) (Zb 1) ai) (aa 2) (au true)))) QC
def BR:AT:=ag (aw 3 (cC (Yb (b2 (aa 0) (Zb 0) ai) (Yb (ab 1) ae)) g7)) QD
def rO:AR->Option D:=aq 3 5 BR
def QE:aM P w K mg base 2 3 "sum_left" ["rule","beacon","lit"] rO:=by
 exists bl.f34,QA,BN bl
def QF:Fs 3 35 ["rule","beacon","so","head"]:=aG
@[simp] def QG:AT:=ah (aD (Yb (cC (Yb (b2 (aa 0) (Zb 0) ai) (Yb (ab 1) ae)) g7) (Yb (ab 3) ae)))
@[simp] def QH:AT:=ag (aw 3 (iC (b2 (b2 (aa 0) (Zb 1) ai) (aa 1) (au false)) (kD .non) (b2 (aa 0) (Zb 1) ai))) QG
@[simp] def QI:AT:=ag (aI (cM (bL (b1 (aa 2) aN)) (b2 (aa 1) (b2 (aa 0) (Zb 0) ai) (cG false))) (ah (kD .non)) ao) QH
def mJ:AT:=ag (aI (cM (b1 (aa 2) aN) (b2 (b2 (aa 0) (Zb 1) ai) (aa 1) (au false))) (ah (kD .non)) ao) QI
def rP:AR->Option D:=aq 3 4 mJ
def QJ:aM P w K mg base 2 3 "if_left" ["rule","beacon","so"] rP:=by
 exists bl.f35,QF,BN bl
def QK:Fs 4 36 ["kind","rule","beacon","lit"]:=aG
@[simp] def QL:AT:=ah (cC (Yb (ab 1) (Yb (ab 2) (Yb (mB (b2 (aa 3) (mB (b2 (aa 0) (kD (.str "ifs")) (au false))) (au false))) ae))) rP)
@[simp] def QM:AT:=ag (aI (b2 (aa 0) (kD (.str "sums")) (au false)) (ah (cC (Yb (ab 1) (Yb (ab 2) (Yb (ab 3) ae))) rO)) ao) QL
@[simp] def QN:AT:=ag (aI (b2 (aa 0) (kD (.str "eithers")) (au false)) (ah (cC (Yb (ab 1) (Yb (ab 2) (Yb (ab 3) ae))) rN)) ao) QM
def mK:AT:=ag (aI (b2 (aa 2) (cC (Yb (ab 0) (Yb (ab 1) ae)) j5) (cG true)) (ah (ab 1)) ao) QN
def rQ:AR->Option D:=aq 4 4 mK
def QO:aM P w K mg base 3 4 "rule_left" ["kind","rule","beacon","lit"] rQ:=by
 exists bl.f36,QK,BJ bl,Qz bl,QE bl,QJ bl
def QP:Fs 3 37 ["book","beacon","lit","turned"]:=aG
def QR:Cs ["book","beacon","lit","turned"] 37 ["rule","book","beacon","lit"] [none,some 0,some 1,some 2] [("rule",0),("rule_left",2),("beacon",1),("book",1),("lit",1)]:=bQ
def QS:Cs ["book","beacon","lit","turned"] 37 ["rule"] [none] [("rule",0)]:=bQ
def BS:AW:=cC (Yb (b2 (aa 1) (Zb 0) ai) (Yb (ab 0) (Yb (ab 2) (Yb (ab 3) ae)))) rQ
def BU:AV:=b2 (aa 0) (kD .non) (cw true)
def BV:AW:=ab 0
def I_:AT:=ag (aW 3 (Yv (b1 (b2 (aa 0) (Zb 1) ai) Yc) [none,some 0,some 1,some 2] (ak 0) tY (BS))) (wF [3] (ah (aD (Yb (b2 (aa 0) (Zb 0) ai) (Yb (cC (Yb (lF (Yv (b1 (ab 3) Yc) [none] (ak 0) (BU) (BV))) ae) aL) ae)))))
def rR:AR->Option D:=aq 3 4 I_
def QT:aM P w K mg base 4 3 "left_behind" ["book","beacon","lit"] rR:=by
 exists bl.f37,QP,QR,QO bl,QS
def QU:Fs 2 39 ["book","place"]:=aG
def BW:AT:=ah (mB (o4 (Zb 0) (aa 1) (cC (Yb (b2 (aa 0) (Zb 1) ai) ae) ay) Gq fZ))
def g8:AR->Option D:=aq 2 2 BW
def BX:aM P w K mg base 1 2 "is_place" ["book","place"] g8:=by
 exists bl.f39,QU
def QV:Fs 2 40 ["rule","known"]:=aG
def QW:Cs ["rule","known"] 40 ["beacon","known"] [none,some 1] [("beacon",0),("known",1)]:=bQ
def BY:AW:=(mB (b2 (aa 0) (aa 1) (cG false)))
def Ja:AT:=ah (cC (Yb (lF (Yv (b1 (b2 (aa 0) (Zb 0) ai) Yc) [none,some 1] (ak 0) tY (BY))) ae) c6)
def mL:AR->Option D:=aq 2 2 Ja
def Jb:aM P w K mg base 1 2 "body_is_known" ["rule","known"] mL:=by
 exists bl.f40,QV,QW
def QX:Fs 3 41 ["book","known","place","rule"]:=aG
@[simp] def QY:AT:=ah (b_ (mB (b2 (b2 (aa 3) (Zb 1) ai) (kD .non) (cw true))) (cC (Yb (ab 3) (Yb (ab 1) ae)) mL))
@[simp] def QZ:AT:=ag (aw 3 (b2 (b2 (aa 0) (Zb 1) ai) (aa 2) ai)) QY
def rS:AT:=ag (aI (bL (b1 (cC (Yb (ab 0) (Yb (ab 2) ae)) g8) aN)) (ah (kD (.bl false))) ao) QZ
def rT:AR->Option D:=aq 3 4 rS
def Q0:aM P w K mg base 2 3 "is_step" ["book","known","place"] rT:=by
 exists bl.f41,QX,BX bl,Jb bl
def Q1:Fs 3 42 ["book","facts","places","known","place"]:=aG
def Yr:AT:=(ag (aI (o6 [3] (bL (b1 (cC (Yb (ab 0) (Yb (ab 3) (Yb (ab 4) ae))) rT) aN))) (ah (kD (.bl false))) ao) (bZ 3 (b2 (b2 (b2 (aa 0) (Zb 1) ai) (aa 4) ai) (Zb 1) ai) bc))
@[simp] def Q3:AT:=(ah (kD (.bl true)))
@[simp] def Q4:AT:=(ag (bM (b1 (ab 2) Yc) (ak 4) Yr) Q3)
def BZ:AT:=(ag (aW 3 (cF (Yb (aa 1) ae) gc)) Q4)
def mM:AR->Option D:=aq 3 5 BZ
def Jc:aM P w K mg base 3 3 "is_derivation" ["book","facts","places"] mM:=by
 exists bl.f42,Q1,Q0 bl
def Q5:Fs 3 43 ["book","facts","places","heads"]:=aG
def Q6:Cs ["book","facts","places","heads"] 43 ["place","book"] [none,some 0] [("place",0),("book",1)]:=bQ
def B0:AW:=(b2 (b2 (b2 (aa 1) (Zb 1) ai) (aa 0) ai) (Zb 1) ai)
def Jd:AT:=(ag (aW 3 (Yv (b1 (ab 2) Yc) [none,some 0] (ak 0) tY (B0))) (ah (lF (gO (lF (b2 (lF (cF (Yb (aa 1) ae) gc)) (aa 3) bD))))))
def rV:AR->Option D:=aq 3 4 Jd
def Q7:aM P w K mg base 1 3 "derived" ["book","facts","places"] rV:=by
 exists bl.f43,Q5,Q6
def Q8:Fs 1 45 ["book"]:=aG
def Q9:Cs ["book"] 45 ["rule","book"] [none,some 0] [("rule",0),("is_void",2),("book",1)]:=bQ
def Q_:AW:=cC (Yb (b2 (aa 1) (Zb 0) ai) (Yb (ab 0) ae)) mG
def Ra:AT:=ah (cC (Yb (lF (Yv (b1 (b2 (aa 0) (Zb 1) ai) Yc) [none,some 0] (ak 0) tY (Q_))) ae) dw)
def Je:AR->Option D:=aq 1 1 Ra
def Rb:aM P w K mg base 4 1 "is_broken" ["book"] Je:=by
 exists bl.f45,Q8,Q9,I0 bl
def Rc:Fs 3 46 ["book","road","other"]:=aG
def Re:AT:=(ag (aI (ec (bL (b1 (cC (Yb (ab 0) (Yb (ab 1) ae)) j4) aN)) (bL (b1 (cC (Yb (ab 0) (Yb (ab 2) ae)) j4) aN))) (ah (kD (.bl false))) ao) (ah (b_ (mB (b2 (b2 (aa 1) (b1 (Zb 1) bz) ai) (b2 (aa 2) (Zb 0) ai) (au false))) (mB (b2 (b2 (aa 2) (b1 (Zb 1) bz) ai) (b2 (aa 1) (Zb 0) ai) (au false))))))
def B3:AR->Option D:=aq 3 3 Re
def Jf:aM P w K mg base 4 3 "lead_there_and_back" ["book","road","other"] B3:=by
 exists bl.f46,Rc,IR bl
def Rf:Fs 3 47 ["road","other","book"]:=aG
def Rg:AT:=(ah (b_ (cC (Yb (ab 2) (Yb (ab 0) (Yb (ab 1) ae))) B3) (mB (b2 (b2 (aa 0) (b1 (Zb 1) bz) ai) (cC (Yb (b2 (aa 0) (Zb 0) ai) ae) j3) (au false)))))
def Jg:AR->Option D:=aq 3 3 Rg
def Rh:aM P w K mg base 5 3 "clash_good" ["road","other","book"] Jg:=by
 exists bl.f47,Rf,Jf bl,Bt bl
def Ri:Fs 3 48 ["road","book","storms"]:=aG
def Jh:AT:=(ag (aI (ec (bL (b1 (cC (Yb (ab 1) (Yb (ab 0) ae)) j4) aN)) (b2 (b2 (aa 0) (Zb 0) ai) (b2 (aa 0) (b1 (Zb 1) bz) ai) (au false))) (ah (kD (.bl false))) ao) (ah (b_ (mB (b2 (b2 (b2 (aa 0) (Zb 0) ai) (Zb 0) ai) (aa 2) (cG false))) (mB (b2 (b2 (b2 (aa 0) (b1 (Zb 1) bz) ai) (Zb 0) ai) (aa 2) (cG false))))))
def rW:AR->Option D:=aq 3 3 Jh
def Rj:aM P w K mg base 4 3 "cross_good" ["road","book","storms"] rW:=by
 exists bl.f48,Ri,IR bl
def Rk:Fs 5 49 ["road","other","book","keepers","storms"]:=aG
def Rm:AT:=(ag (aI (bL (b1 (cC (Yb (ab 2) (Yb (ab 0) (Yb (ab 1) ae))) B3) aN)) (ah (kD (.bl false))) ao) (ah (b_ (mB (b2 (b2 (b2 (aa 0) (Zb 0) ai) (Zb 0) ai) (aa 4) (cG false))) (b_ (mB (b2 (b2 (b2 (aa 0) (b1 (Zb 1) bz) ai) (Zb 0) ai) (aa 3) (cG false))) (mB (b2 (b2 (b2 (aa 0) (b1 (Zb 1) bz) ai) (Zb 0) ai) (b2 (b2 (aa 0) (Zb 0) ai) (Zb 0) ai) fZ))))))
def Ji:AR->Option D:=aq 5 5 Rm
def Rn:aM P w K mg base 5 5 "late_good" ["road","other","book","keepers","storms"] Ji:=by
 exists bl.f49,Rk,Jf bl
def Rq:Fs 3 50 ["places","book","storms","whole"]:=aG
def Rr:Cs ["places","book","storms","whole"] 50 ["place","book"] [none,some 1] [("place",0),("is_place",2),("book",1)]:=bQ
def B4:AW:=(cC (Yb (ab 1) (Yb (ab 0) ae)) g8)
@[simp] def Rt:AT:=(ah (cC (Yb (b2 (aa 1) (Zb 0) ai) (Yb (ab 3) ae)) mG))
@[simp] def Ru:AT:=(ag (aI (b1 (b2 (aa 3) (Zb 0) ai) aN) (ah (mB (b2 (b2 (b2 (aa 3) (Zb 0) ai) (b1 (Zb 1) bz) ai) (aa 2) (cG false)))) ao) Rt)
@[simp] def Rv:AT:=(ag (aw 3 (cC (Yb (ab 1) (Yb (ab 0) ae)) g6)) Ru)
def B5:AT:=(ag (aI (ec (bL (b1 (cC (Yb (ab 0) ae) rz) aN)) (bL (b1 (cC (Yb (lF (Yv (b1 (ab 0) Yc) [none,some 1] (ak 0) tY (B4))) ae) c6) aN))) (ah (kD (.bl false))) ao) Rv)
def rX:AR->Option D:=aq 3 4 B5
def Rw:aM P w K mg base 4 3 "odd_good" ["places","book","storms"] rX:=by
 exists bl.f50,Rq,Pl bl,Rr,BX bl,IH bl,I0 bl
def Jj:Fs 4 51 ["beacon","places","book","keepers","heads"]:=aG
def Rx:Cs ["beacon","places","book","keepers","heads"] 51 ["place","book"] [none,some 2] [("place",0),("book",1)]:=bQ
def Ry:Cs ["beacon","places","book","keepers","heads"] 51 ["keeper","beacon","heads"] [none,some 0,some 4] [("keeper",0),("beacon",1),("heads",1)]:=bQ
def mN:AW:=(b2 (b2 (b2 (aa 1) (Zb 1) ai) (aa 0) ai) (Zb 1) ai)
def mO:AV:=(cM (b2 (aa 0) (aa 1) fZ) (b2 (aa 0) (aa 2) (cG false)))
def mP:AW:=(ab 0)
@[simp] def Jk:AT:=(wF [4] (ah (lF (Yv (b1 (ab 3) Yc) [none,some 0,some 4] (ak 0) (mO) (mP)))))
@[simp] def Jl:AT:=(ag (aW 4 (Yv (b1 (ab 1) Yc) [none,some 2] (ak 0) tY (mN))) Jk)
def j6:AT:=(ag (aI (b2 (aa 0) (kD .non) (cw false)) (ah (lF (aX ae))) ao) Jl)
def jn:AR->Option D:=aq 4 5 j6
def Jm:aM P w K mg base 1 4 "first_ones" ["beacon","places","book","keepers"] jn:=by
 refine ew bl.f51 Jj λhr=>?_;unfold j6 Jl Jk
 exists Jj,Rx,Ry
def Rz:Fs 4 52 ["beacon","places","book","storms"]:=aG
def B6:AT:=(ag (aI (b2 (aa 0) (kD .non) (cw false)) (ah (mB (b2 (cC (Yb (aa 1) ae) ay) (Zb 0) (au false)))) ao) (ah (b_ (mB (b2 (aa 0) (aa 3) (cG false))) (cC (Yb (ab 2) (Yb (ab 3) (Yb (ab 1) ae))) mM))))
def rY:AR->Option D:=aq 4 4 B6
def RA:aM P w K mg base 4 4 "is_first_part" ["beacon","places","book","storms"] rY:=by
 exists bl.f52,Rz,Jc bl
def RB:Fs 4 53 ["beacon","places","book","facts","rule","known"]:=aG
@[simp] def RC:AT:=(ah (b_ (cC (Yb (ab 4) (Yb (ab 5) ae)) mL) (mB (b2 (b2 (aa 4) (Zb 1) ai) (aD (Yb (kD .non) (Yb (ab 0) ae))) (cG false)))))
@[simp] def RE:AT:=(ag (aw 5 (cC (Yb (ab 2) (Yb (ab 3) (Yb (ly (aa 1) none (some (b1 (Zb 1) bz))) ae))) rV)) RC)
@[simp] def RF:AT:=(ag (aw 4 (b2 (b2 (aa 2) (Zb 1) ai) (b2 (aa 1) (b1 (Zb 1) bz) ai) ai)) RE)
def mQ:AT:=(ag (aI (ec (b2 (cC (Yb (aa 1) ae) ay) (Zb 0) (au false)) (ec (bL (b1 (cC (Yb (ab 2) (Yb (b2 (aa 1) (b1 (Zb 1) bz) ai) ae)) g8) aN)) (bL (b1 (cC (Yb (ab 2) (Yb (ab 3) (Yb (ly (aa 1) none (some (b1 (Zb 1) bz))) ae))) mM) aN)))) (ah (kD (.bl false))) ao) RF)
def rZ:AR->Option D:=aq 4 6 mQ
def RG:aM P w K mg base 4 4 "is_last_part" ["beacon","places","book","facts"] rZ:=by
 exists bl.f53,RB,BX bl,Jc bl,Q7 bl,Jb bl
def Jn:Fs 4 54 ["paper","book","keepers","storms","beacon","facts"]:=aG
@[simp] def Jo:AT:=(wF [5] (ah (cC (Yb (ab 4) (Yb (b2 (aa 0) (Zb 3) ai) (Yb (ab 1) (Yb (ab 5) ae)))) rZ)))
@[simp] def Jp:AT:=(ag (aW 5 (b2 (lF (cF (Yb (cC (Yb (ab 3) (Yb (ab 4) ae)) g7) ae) gc)) (cC (Yb (ab 4) (Yb (b2 (aa 0) (Zb 2) ai) (Yb (ab 1) (Yb (ab 2) ae)))) jn) bD)) Jo)
@[simp] def Jq:AT:=(ag (aI (bL (b1 (cC (Yb (ab 4) (Yb (b2 (aa 0) (Zb 2) ai) (Yb (ab 1) (Yb (ab 3) ae)))) rY) aN)) (ah (kD (.bl false))) ao) Jp)
def r0:AT:=(ag (aw 4 (b2 (aa 0) (Zb 1) ai)) Jq)
def r6:AR->Option D:=aq 4 6 r0
def RH:aM P w K mg base 5 4 "lone_good" ["paper","book","keepers","storms"] r6:=by
 refine ew bl.f54 Jn λhr=>?_;unfold r0 Jq Jp Jo
 exists Jn,RA bl,BN bl,Jm bl,RG bl
def RI:Fs 4 55 ["paper","book","keepers","storms"]:=aG
@[simp] def RJ:AT:=(ah (kD (.bl false)))
@[simp] def RK:AT:=(ag (aI (b2 (b2 (aa 0) (Zb 0) ai) (kD (.str "late")) (au false)) (ah (cC (Yb (b2 (aa 0) (Zb 1) ai) (Yb (b2 (aa 0) (Zb 2) ai) (Yb (ab 1) (Yb (ab 2) (Yb (ab 3) ae))))) Ji)) ao) RJ)
@[simp] def RM:AT:=(ag (aI (b2 (b2 (aa 0) (Zb 0) ai) (kD (.str "cross")) (au false)) (ah (cC (Yb (b2 (aa 0) (Zb 1) ai) (Yb (ab 1) (Yb (ab 3) ae))) rW)) ao) RK)
def Jr:AT:=(ag (aI (b2 (b2 (aa 0) (Zb 0) ai) (kD (.str "clash")) (au false)) (ah (cC (Yb (b2 (aa 0) (Zb 1) ai) (Yb (b2 (aa 0) (Zb 2) ai) (Yb (ab 1) ae))) Jg)) ao) RM)
def Yu:AR->Option D:=aq 4 4 Jr
def RN:aM P w K mg base 6 4 "either_paper_good" ["paper","book","keepers","storms"] Yu:=by
 exists bl.f55,RI,Rh bl,Rj bl,Rn bl
def Js:Fs 4 56 ["paper","book","hands","start","keepers","storms"]:=aG
def mR(rec:AR->Option D):AT:=(ag (aI (b2 (b2 (aa 1) (Zb 0) ai) (kD (.str "nots")) (au false)) (ah (cC (Yb (ab 0) (Yb (cC (Yb (ab 1) ae) gz) (Yb (ab 2) (Yb (ab 3) ae)))) rec)) ao) (ag (aw 4 (cC (Yb (ab 2) (Yb (ab 3) (Yb (kD (.str "keeper")) ae))) j0)) (ag (aw 5 (cC (Yb (ab 2) (Yb (ab 3) (Yb (kD (.str "storm")) ae))) j0)) (ag (aI (b2 (b2 (aa 0) (Zb 0) ai) (kD (.str "broken")) (au false)) (ah (cC (Yb (ab 1) ae) Je)) ao) (ag (aI (b2 (b2 (aa 1) (Zb 0) ai) (kD (.str "eithers")) (au false)) (ah (cC (Yb (ab 0) (Yb (ab 1) (Yb (ab 4) (Yb (ab 5) ae)))) Yu)) ao) (ag (aI (cM (b2 (b2 (aa 0) (Zb 0) ai) (kD (.str "odd")) (au false)) (b2 (b2 (aa 1) (Zb 0) ai) (kD (.str "sums")) (au false))) (ah (cC (Yb (b2 (aa 0) (Zb 1) ai) (Yb (ab 1) (Yb (ab 5) ae))) rX)) ao) (ag (aI (cM (b2 (b2 (aa 0) (Zb 0) ai) (kD (.str "lone")) (au false)) (b2 (b2 (aa 1) (Zb 0) ai) (kD (.str "ifs")) (au false))) (ah (cC (Yb (ab 0) (Yb (ab 1) (Yb (ab 4) (Yb (ab 5) ae)))) r6)) ao) (ah (kD (.bl false))))))))))
def Yo:Nat->AR->Option D
 | 0=>λ_=>none
 | k+1=>aq 4 6 (mR (Yo k))
def Yx:AR->Option D:=Yo 12
def RP(bl:Bl K w mg){k j:Nat}(rc:aM P w K mg base k 4 "storm_good" ["paper","book","hands","start"] (Yo j))(hk:6<=k):aM P w K mg base (k+1) 4 "storm_good" ["paper","book","hands","start"] (Yo (j+1)):=by
 refine ew bl.f56 Js λhr=>?_
 exists IT bl,Js,IJ bl,Rb bl,RN bl,Rw bl,RH bl
def RQ:aM P w K mg base 18 4 "storm_good" ["paper","book","hands","start"] Yx:=mz (L:=6) (mr:=Yo) bl.f56 rfl (RP bl) (j:=12)
def RS:Fs 2 59 ["beacons","evening"]:=aG
def RT:Cs ["beacons","evening"] 59 ["beacon","evening"] [none,some 1] [("beacon",0),("evening",1)]:=bQ
def B7:AV:=(b1 (b2 (aa 1) (aa 0) ai) aN)
def B8:AW:=(ab 0)
def Jt:AT:=(ah (mB (b2 (b2 (cC (Yb (lF (Yv (b1 (ab 0) Yc) [none,some 1] (ak 0) (B7) (B8))) ae) ay) (Zb 2) az) (Zb 1) (au false))))
def r9:AR->Option D:=aq 2 2 Jt
def RU:aM P w K mg base 1 2 "is_odd_count" ["beacons","evening"] r9:=by
 exists bl.f59,RS,RT
def RV:Fs 2 63 ["road","evening","beacon"]:=aG
@[simp] def RW:AT:=(ah (kD (.bl false)))
@[simp] def RX:AT:=(ag (aI (b2 (aa 2) (b2 (b2 (aa 0) (b1 (Zb 1) bz) ai) (Zb 0) ai) (au false)) (ah (cZ (b2 (b2 (aa 0) (b1 (Zb 1) bz) ai) (Zb 1) ai))) ao) RW)
@[simp] def RY:AT:=(ag (aI (b2 (aa 2) (b2 (b2 (aa 0) (Zb 0) ai) (Zb 0) ai) (au false)) (ah (b2 (b2 (aa 0) (Zb 0) ai) (Zb 1) ai)) ao) RX)
def r_:AT:=(ag (aw 2 (cC (Yb (aa 1) ae) ay)) RY)
def sd:AR->Option D:=aq 2 3 r_
def RZ:aM P w K mg base 1 2 "cross_said" ["road","evening"] sd:=by
 exists bl.f63,RV
def R0:Fs 2 65 ["whole","evening","beacons"]:=aG
@[simp] def R1:AT:=(ah (mB (b2 (cC (Yb (ly (aa 2) none (some (b1 (Zb 1) bz))) (Yb (ab 1) ae)) r9) (b2 (aa 0) (Zb 1) ai) (au false))))
@[simp] def R3:AT:=(ag (aI (ec (b2 (cC (Yb (aa 2) ae) ay) (Zb 0) (au false)) (b2 (cC (Yb (aa 1) ae) ay) (b2 (aa 2) (b1 (Zb 1) bz) ai) (au true))) (ah (kD (.bl false))) ao) R1)
def se:AT:=(ag (aw 2 (b2 (aa 0) (Zb 0) ai)) R3)
def sg:AR->Option D:=aq 2 3 se
def R4:aM P w K mg base 2 2 "odd_said" ["whole","evening"] sg:=by
 exists bl.f65,R0,RU bl
def R5:Fs 4 66 ["beacon","ahead","evening","so"]:=aG
def R6:Cs ["beacon","ahead","evening","so"] 66 ["other","evening","so"] [none,some 2,some 3] [("other",0),("evening",1),("so",1)]:=bQ
def B9:AW:=(mB (b2 (b2 (aa 1) (aa 0) ai) (aa 2) (au false)))
def B_:AT:=(ag (aI (cM (b2 (cC (Yb (aa 2) ae) ay) (aa 0) (au false)) (b1 (cC (Yb (lF (Yv (b1 (ab 1) Yc) [none,some 2,some 3] (ak 0) tY (B9))) ae) c6) aN)) (ah (cZ (ab 3))) ao) (ah (ab 3)))
def si:AR->Option D:=aq 4 4 B_
def R7:aM P w K mg base 1 4 "lone_said" ["beacon","ahead","evening","so"] si:=by
 exists bl.f66,R5,R6
def Ca:Fs 5 67 ["paper","book","hands","start","evening","word","so","ahead"]:=aG
@[simp] def R8:AT:=(ah (kD (.bl false)))
@[simp] def R9:AT:=(ag (aI (b2 (aa 5) (kD (.str "lone")) (au false)) (ag (aw 7 (cC (Yb (b2 (aa 0) (Zb 1) ai) (Yb (b2 (aa 0) (Zb 2) ai) (Yb (ab 1) (Yb (cC (Yb (ab 2) (Yb (ab 3) (Yb (kD (.str "keeper")) ae))) j0) ae)))) jn)) (ah (cC (Yb (b2 (aa 0) (Zb 1) ai) (Yb (ab 7) (Yb (ab 4) (Yb (ab 6) ae)))) si))) ao) R8)
@[simp] def R_:AT:=(ag (aI (b2 (aa 5) (kD (.str "odd")) (au false)) (ah (cC (Yb (cC (Yb (ab 1) (Yb (b2 (aa 0) (Zb 1) ai) ae)) g6) (Yb (ab 4) ae)) sg)) ao) R9)
@[simp] def Sa:AT:=(ag (aI (b2 (aa 5) (kD (.str "late")) (au false)) nS ao) R_)
@[simp] def Sb:AT:=(ag (aI (b2 (aa 5) (kD (.str "cross")) (au false)) (ah (cC (Yb (b2 (aa 0) (Zb 1) ai) (Yb (ab 4) ae)) sd)) ao) Sa)
@[simp] def Sd:AT:=(ag (aI (b2 (aa 5) (kD (.str "rows")) (au false)) nS ao) Sb)
@[simp] def Se:AT:=(ag (aI (b2 (aa 5) (kD (.str "sums")) (au false)) nS ao) Sd)
@[simp] def Sf:AT:=(ag (aI (b2 (aa 5) (kD (.str "plan")) (au false)) nS ao) Se)
@[simp] def Sg:AT:=(ag (aw 6 (mB (b2 (b2 (aa 1) (Zb 0) ai) (kD (.str "ifs")) (au false)))) Sf)
def sj:AT:=(ag (aw 5 (b2 (aa 0) (Zb 0) ai)) Sg)
def gA:AR->Option D:=aq 5 8 sj
def Cb:aM P w K mg base 3 5 "said" ["paper","book","hands","start","evening"] gA:=by
 exists bl.f67,Ca,RZ bl,R4 bl,IH bl,Jm bl,IJ bl,R7 bl
def Sh:b9 ["self","watch"] ["self","watch"] (aBa (inClass (top 70) 1)):=aG
def Cc:AT:=(ah (b_ (mB (b2 (b1 (ab 0) (aY "Rowed" "seen")) (cC (Yb (b1 (ab 0) (aY "Rowed" "row")) ae) ay) fZ)) (mB (b2 (b2 (b2 (b1 (ab 0) (aY "Rowed" "row")) (b1 (ab 0) (aY "Rowed" "seen")) ai) (Zb 2) az) (Zb 1) (au false)))))
def sk:AR->Option D:=aq 2 2 Cc
def Si(bl:Bl K w mg){c:Str}(F:Mq K c "says" "Rowed.says" (inClass (top 70) 1)):dS P w K mg base 1 c "says" ["self","watch"] (bu K 2 sk):=by
 refine er F Sh λhr=>?_
 exists rfl
def Sj:b9 ["self"] ["self"] (aBa (inClass (top 93) 1)):=aG
def Cd:AT:=ag (aI (b2 (cC (Yb (b1 (ab 0) (aY "Watch" "truths")) ae) ay) (cC (Yb (b1 (ab 0) (aY "Watch" "hands")) ae) ay) (au false)) (ah (kD .non)) ao) (ah (b2 (b1 (ab 0) (aY "Watch" "hands")) (cC (Yb (b1 (ab 0) (aY "Watch" "truths")) ae) ay) ai))
def Yn:AR->Option D:=aq 1 1 Cd
def Ce(bl:Bl K w mg){c:Str}(F:Mq K c "turn" "Watch.turn" (inClass (top 93) 1)):dS P w K mg base 1 c "turn" ["self"] (bu K 1 Yn):=by
 refine er F Sj λhr=>?_
 exists rfl
def Sk:b9 ["self"] ["self"] (aBa (inClass (top 93) 4)):=aG
def sq:AT:=ag (aI (b2 (b1 (ab 0) (bw "Watch" "turn" Yn)) (kD .non) (cw true)) (ah (kD .non)) ao) (ah (iC (b1 (cC (Yb (b1 (ab 0) (aY "Watch" "book")) (Yb (b1 (ab 0) (aY "Watch" "truths")) ae)) rK) aN) (kD (.str "keeper")) (kD (.str "storm"))))
def Yp:AR->Option D:=aq 1 1 sq
def Cg(bl:Bl K w mg){c:Str}(F:Mq K c "winner" "Watch.winner" (inClass (top 93) 4)):dS P w K mg base 5 c "winner" ["self"] (bu K 1 Yp):=by
 refine er F Sk λhr=>?_
 exists Ce bl bl.r_Watch_turn,P0 bl
def Sl:b9 ["self","lit"] ["self","lit"] (aBa (inClass (top 93) 5)):=aG
def Sn:Hm:=gu (i6 (b1 (ab 0) (bw "Watch" "winner" Yp)))
def So:Hm:=aU (mx 0 (ab 1)) Sn
def Sq:Hm:=aU (fI (aI (cM (b2 (aa 1) (kD (.bl true)) (iH true)) (b2 (aa 1) (kD (.bl false)) (iH true))) nS ao)) So
def Sr:Hm:=aU (mq (gY (b2 (b1 (ab 0) (bw "Watch" "turn" Yn)) (kD .non) (cw false))) (fI nS) fJ) Sq
def mS:Hf:=bN 2 Sr
def Ss(bl:Bl K w mg){c:Str}(F:Mq K c "settle" "Watch.settle" (inClass (top 93) 5)):dS P w K mg base 6 c "settle" ["self","lit"] (eM K 2 mS):=by
 refine jm F Sl λhr=>?_
 exists Ce bl bl.r_Watch_turn,Cg bl bl.r_Watch_winner
def Su:b9 ["self"] ["self"] (aBa (inClass (top 93) 2)):=aG
def Ju:AT:=(ah (cC (Yb (b1 (ab 0) (aY "Watch" "truths")) ae) aL))
def Yq:AR->Option D:=aq 1 1 Ju
def Jv(bl:Bl K w mg){c:Str}(F:Mq K c "evening" "Watch.evening" (inClass (top 93) 2)):dS P w K mg base 1 c "evening" ["self"] (bu K 1 Yq):=by
 refine er F Su λhr=>?_
 exists rfl
def Sv:b9 ["self","watch"] ["self","watch"] (aBa (inClass (top 71) 1)):=aG
def Jw:AT:=(ah (cC (Yb (b1 (ab 0) (aY "Papered" "paper")) (Yb (b1 (ab 0) (aY "Papered" "book")) (Yb (b1 (ab 0) (aY "Papered" "hands")) (Yb (b1 (ab 0) (aY "Papered" "start")) (Yb (b1 (ab 1) (bw "Watch" "evening" Yq)) ae))))) gA))
def j7:AR->Option D:=aq 2 2 Jw
def Sw(bl:Bl K w mg){c:Str}(F:Mq K c "says" "Papered.says" (inClass (top 71) 1)):dS P w K mg base 4 c "says" ["self","watch"] (bu K 2 j7):=by
 refine er F Sv λhr=>?_
 exists Cb bl,Jv bl bl.r_Watch_evening
def Sx:b9 ["self","watch"] ["self","watch"] (aBa (inClass (top 69) 1)):=aG
def Sy:AT:=(ah (kD (.bl false)))
def Jx:AR->Option D:=aq 2 2 Sy
def Sz(bl:Bl K w mg){c:Str}(F:Mq K c "says" "Settler.says" (inClass (top 69) 1)):dS P w K mg base 1 c "says" ["self","watch"] (bu K 2 Jx):=by
 refine er F Sx λhr=>?_
 exists rfl
def SA:b9 ["self","hand","lit"] ["self","hand","lit"] (aBa (inClass (top 70) 2)):=aG
def SB:Hm:=(mq (gY (b2 (aa 1) (b1 (ab 0) (aY "Rowed" "hand")) (au false))) (mw 0) fJ)
def mT:Hf:=bN 3 SB
def SC(bl:Bl K w mg){c:Str}(F:Mq K c "sees" "Rowed.sees" (inClass (top 70) 2)):dS P w K mg base 1 c "sees" ["self","hand","lit"] (eM K 3 mT):=by
 refine jm F SA λhr=>?_
 exists rfl
def SF:b9 ["self","hand","lit"] ["self","hand","lit"] (aBa (inClass (top 69) 2)):=aG
def Jy:Hm:=(fI ao)
def mU:Hf:=bN 3 Jy
def Jz(bl:Bl K w mg){c:Str}(F:Mq K c "sees" "Settler.sees" (inClass (top 69) 2)):dS P w K mg base 1 c "sees" ["self","hand","lit"] (eM K 3 mU):=by
 refine jm F SF λhr=>?_;unfold Jy
 exists rfl
def JA:Fs 3 72 ["watch","keeper","storm","hand","mover","lit"]:=aG
def mV:List (Str×(AR->Option D)):=[("Settler",Jx),("Rowed",sk),("Papered",j7)]
def SG(a:Bl K w mg):OkTb P w K mg base 4 "says" (bu K 2) mV:=⟨⟨_,jl (Sz a a.r_Settler_says)⟩,⟨⟨_,jl (Si a a.r_Rowed_says)⟩,⟨⟨_,jl (Sw a a.r_Papered_says)⟩,trivial⟩⟩⟩
def j8:List (Str×Hf):=[("Settler",mU),("Rowed",mT),("Papered",mU)]
def SH(a:Bl K w mg):OkTb P w K mg base 1 "sees" (eM K 3) j8:=⟨⟨_,jl (Jz a a.r_Settler_sees)⟩,⟨⟨_,jl (SC a a.r_Rowed_sees)⟩,⟨⟨_,jl (Jz a a.r_Papered_sees)⟩,trivial⟩⟩⟩
def sv:List (Str×Hf):=[("Watch",mS)]
def JB(a:Bl K w mg):OkTb P w K mg base 6 "settle" (eM K 2) sv:=⟨⟨_,jl (Ss a a.r_Watch_settle)⟩,trivial⟩
def JC:Hm:=(gZ (gv "sees" j8 (ab 2) (Yb (ab 3) (Yb (ab 5) ae))))
def JD:Hm:=(aU (gZ (gv "sees" j8 (ab 1) (Yb (ab 3) (Yb (ab 5) ae)))) JC)
def JE:Hm:=(aU (gZ (gv "settle" sv (ab 0) (Yb (ab 5) ae))) JD)
def JF:Hm:=(aU (dU 5 (i6 (ra "says" mV (ab 4) (Yb (ab 0) ae)))) JE)
def JG:Hm:=(aU (fI (aw 4 (iC (b2 (aa 3) (kD (.str "keeper")) (au false)) (ab 1) (ab 2)))) JF)
def sx:Hm:=(aU (dU 3 (i6 (b1 (ab 0) (bw "Watch" "turn" Yn)))) JG)
def JH:Hm:=(aU (Iw (gY (b2 (b1 (ab 0) (bw "Watch" "turn" Yn)) (kD .non) (cw true))) sx) (gu (i6 (b1 (ab 0) (bw "Watch" "winner" Yp)))))
def sA:Hf:=bN 6 JH
def SI:A7 P w K mg base 7 3 "play_out" ["watch","keeper","storm"] sA:=by
 refine Bn bl.f72 JA λhr=>?_
 exists Ce bl bl.r_Watch_turn,JA,SG bl,JB bl,SH bl,Cg bl bl.r_Watch_winner
def Ci:Fs 5 89 ["paper","book","hands","start","hand"]:=aG
def JI:AT:=(ag (aI (b2 (aa 4) (kD (.str "keeper")) (au false)) nS ao) (ah (cC (Yb (ab 0) (Yb (ab 1) (Yb (ab 2) (Yb (ab 3) ae)))) Yx)))
def mW:AR->Option D:=aq 5 5 JI
def Cj:aM P w K mg base 19 5 "good" ["paper","book","hands","start","hand"] mW:=by
 exists bl.f89,Ci,RQ bl
def SJ:Fs 1 91 ["thing"]:=aG
def SK:AT:=ah (b_ (mB (b1 (aa 0) (fx "str"))) (mB (b1 (aa 0) (yj false IB))))
def Ck:AR->Option D:=aq 1 1 SK
def SL:aM P w K mg base 1 1 "is_hand" ["thing"] Ck:=by
 exists bl.f91,SJ
def SM:Fs 2 92 ["book","hands"]:=aG
def SN:Cs ["book","hands"] 92 ["thing"] [none] [("thing",0),("is_hand",2)]:=bQ
def SO:Cs ["book","hands"] 92 ["beacon","hands"] [none,some 1] [("beacon",0),("len",2),("hands",1)]:=bQ
def Cm:AW:=cC (Yb (ab 0) ae) Ck
def Cn:AW:=mB (b2 (aa 0) (cC (Yb (aa 1) ae) ay) xi)
@[simp] def SQ:AT:=aI (b1 (cC (Yb (lF (Yv (b1 (cC (Yb (ab 0) ae) rM) Yc) [none,some 1] (ak 0) tY (Cn))) ae) dw) aN) nS ao
@[simp] def SU:AT:=ag (aI (bL (b1 (cC (Yb (lF (Yv (b1 (ab 1) Yc) [none] (ak 0) tY (Cm))) ae) c6) aN)) nS ao) SQ
def Co:AT:=ag (aI (b2 (cC (Yb (aa 1) ae) ay) (Zb 60) ix) nS ao) SU
def jo:AR->Option D:=aq 2 2 Co
def SV:aM P w K mg base 3 2 "check_hands" ["book","hands"] jo:=by
 exists bl.f92,SM,SN,SL bl,SO,P9 bl
def SW:Fs 2 95 ["script","k"]:=aG
def Cp:AT:=ag (aI (b2 (aa 1) (cC (Yb (aa 0) ae) ay) fZ) (ah (b2 (aa 0) (aa 1) ai)) ao) (ah (Zb 0))
def Ye:AR->Option D:=aq 2 2 Cp
def sC:aM P w K mg base 1 2 "_law_cell" ["script","k"] Ye:=by
 exists bl.f95,SW
def SX:Fs 2 96 ["cell","by"]:=aG
def JJ:AT:=ah (b2 (b2 (b2 (aa 0) (Zb 2305843009213693951) az) (aa 1) d_) (Zb 2305843009213693951) az)
def jq:AR->Option D:=aq 2 2 JJ
def sD:aM P w K mg base 1 2 "_law_mixed" ["cell","by"] jq:=by
 exists bl.f96,SX
def JK:Fs 2 97 ["cell","many","left","bits","k"]:=aG
def Cq:AT:=(ag (bZ 3 (mB (b2 (b2 (aa 2) (Zb 2) az) (Zb 1) (au false))) bc) (aw 2 (b2 (aa 2) (Zb 2) bp)))
@[simp] def JL:AT:=(wF [3] (ah (ab 3)))
@[simp] def JM:AT:=(ag (bM (cF (Yb (ab 1) ae) cD) (ak 4) Cq) JL)
@[simp] def JN:AT:=(ag (aW 3 (aX ae)) JM)
def Cr:AT:=(ag (aw 2 (cC (Yb (ab 0) (Yb (Zb 1442695040888963407) ae)) jq)) JN)
def jr:AR->Option D:=aq 2 5 Cr
def Cu:aM P w K mg base 2 2 "_law_bits" ["cell","many"] jr:=by
 refine ew bl.f97 JK λhr=>?_;unfold Cr JN JM JL
 exists JK,sD bl
def SY:Fs 3 98 ["kind","rule","evening","way"]:=aG
def SZ:Cs ["kind","rule","evening","way"] 98 ["saying","evening"] [none,some 2] [("saying",0),("evening",1)]:=bQ
def S0:Cs ["kind","rule","evening","way"] 98 ["beacon","evening"] [none,some 2] [("beacon",0),("int",2),("evening",1)]:=bQ
def S1:Cs ["kind","rule","evening","way"] 98 ["beacon","evening","way"] [none,some 2,some 3] [("beacon",0),("evening",1),("way",1)]:=bQ
def Cv:AW:=(mB (b2 (b2 (aa 1) (b2 (aa 0) (Zb 0) ai) ai) (b2 (aa 0) (Zb 1) ai) (au false)))
def Cw:AW:=(cC (Yb (b2 (aa 1) (aa 0) ai) ae) eK)
def Cy:AW:=(mB (b2 (b2 (aa 1) (aa 0) ai) (aa 2) (au true)))
@[simp] def Cz:AT:=(ah (b_ (mB (b2 (b2 (aa 1) (Zb 1) ai) (kD .non) (cw true))) (mB (b2 (b2 (aa 2) (b2 (aa 1) (Zb 1) ai) ai) (aa 3) (au false)))))
@[simp] def sE:AT:=(ag (aI (b1 (cC (Yb (lF (Yv (b1 (b2 (aa 1) (Zb 0) ai) Yc) [none,some 2,some 3] (ak 0) tY (Cy))) ae) dw) aN) (ah (kD (.bl true))) ao) Cz)
@[simp] def S2:AT:=(ag (aw 3 (mB (b2 (aa 0) (kD (.str "ifs")) (au false)))) sE)
@[simp] def S3:AT:=(ag (aI (b2 (aa 0) (kD (.str "sums")) (au false)) (ah (mB (b2 (mB (b2 (b2 (cC (Yb (lF (Yv (b1 (b2 (aa 1) (Zb 0) ai) Yc) [none,some 2] (ak 0) tY (Cw))) ae) gg) (Zb 2) az) (Zb 1) (au false))) (b2 (aa 1) (Zb 1) ai) (au false)))) ao) S2)
def mX:AT:=(ag (aI (b2 (aa 0) (kD (.str "eithers")) (au false)) (ah (cC (Yb (lF (Yv (b1 (ab 1) Yc) [none,some 2] (ak 0) tY (Cv))) ae) dw)) ao) S3)
def sF:AR->Option D:=aq 3 4 mX
def S4:aM P w K mg base 1 3 "_law_so" ["kind","rule","evening"] sF:=by
 exists bl.f98,SY,SZ,S0,S1
def S5:Fs 3 99 ["kind","cell","many","left","size","sayings","k","body"]:=aG
def sG:AT:=(ag (aI (b2 (aD (Yb (b2 (b2 (aa 3) (Zb 2) bp) (aa 2) az) (Yb (mB (b2 (b2 (aa 3) (Zb 2) az) (Zb 1) (au false))) ae))) (aa 5) (cG true)) (bZ 5 (aD (Yb (b2 (b2 (aa 3) (Zb 2) bp) (aa 2) az) (Yb (mB (b2 (b2 (aa 3) (Zb 2) az) (Zb 1) (au false))) ae))) bc) ao) (aw 3 (b2 (aa 3) (b2 (Zb 2) (aa 2) d_) bp)))
def sH:AT:=(ag (aI (b2 (b2 (aa 3) (aa 2) az) (aa 7) (cG true)) (bZ 7 (b2 (aa 3) (aa 2) az) bc) ao) (aw 3 (b2 (aa 3) (aa 2) bp)))
@[simp] def S6:AT:=(ah (aD (Yb (cC (Yb (lF (cF (Yb (aa 7) ae) fy)) ae) aL) (Yb (b2 (lF (aX (Yb (kD .non) (Yb (b2 (b2 (aa 3) (Zb 3) bp) (aa 2) az) ae)))) (cC (Yb (mB (b2 (b2 (aa 3) (Zb 3) az) (Zb 0) ix)) ae) eK) ai) ae))))
@[simp] def CA:AT:=(ag (aI (b2 (aa 0) (kD (.str "sums")) (au false)) (ah (aD (Yb (cC (Yb (lF (cF (Yb (aa 7) ae) fy)) ae) aL) (Yb (mB (b2 (b2 (aa 3) (Zb 2) az) (Zb 1) (au false))) ae)))) ao) S6)
@[simp] def S7:AT:=(ag (bM (cF (Yb (ab 4) ae) cD) (ak 6) sH) CA)
@[simp] def S8:AT:=(ag (aW 7 (aX ae)) S7)
@[simp] def S9:AT:=(ag (aI (b2 (aa 0) (kD (.str "eithers")) (au false)) (ag (aW 5 (aX ae)) (ag (bM (cF (Yb (ab 4) ae) cD) (ak 6) sG) (ah (cC (Yb (lF (cF (Yb (aa 5) ae) fy)) ae) aL)))) ao) S8)
@[simp] def S_:AT:=(ag (aw 3 (b2 (aa 3) (Zb 7) bp)) S9)
@[simp] def Ta:AT:=(ag (aw 4 (b2 (aa 3) (b2 (lF (aX (Yb (Zb 7) (Yb (Zb 3) ae)))) (cC (Yb (mB (b2 (aa 0) (kD (.str "eithers")) (au false))) ae) eK) ai) az)) S_)
def sI:AT:=(ag (aw 3 (cC (Yb (ab 1) (Yb (Zb 1181783497276652981) ae)) jq)) Ta)
def sJ:AR->Option D:=aq 3 8 sI
def Tb:aM P w K mg base 2 3 "_law_rule" ["kind","cell","many"] sJ:=by
 exists bl.f99,S5,sD bl
def Tc:Fs 2 100 ["cell","many"]:=aG
def Td:Cs ["cell","many"] 100 ["bit"] [none] [("bit",0),("int",2)]:=bQ
def CB:AW:=(b2 (lF (aX (Yb (kD (.str "storm")) (Yb (kD (.str "keeper")) ae)))) (cC (Yb (aa 0) ae) eK) ai)
def JO:AT:=(ah (lF (Yv (b1 (cC (Yb (ab 0) (Yb (ab 1) ae)) jr) Yc) [none] (ak 0) tY (CB))))
def mY:AR->Option D:=aq 2 2 JO
def Te:aM P w K mg base 3 2 "_law_hands" ["cell","many"] mY:=by
 exists bl.f100,Tc,Td,Cu bl
def Tf:Fs 3 101 ["hands","start","hand"]:=aG
def Tg:Cs ["hands","start","hand"] 101 ["beacon","hands","hand"] [none,some 0,some 2] [("beacon",0),("hand",1),("hands",1)]:=bQ
def CD:AV:=(b2 (b2 (aa 1) (aa 0) ai) (aa 2) (au false))
def CG:AW:=(ab 0)
def JP:AT:=(ah (lF (Yv (cF (Yb (ab 1) (Yb (cC (Yb (aa 0) ae) ay) ae)) ck) [none,some 0,some 2] (ak 0) (CD) (CG))))
def gB:AR->Option D:=aq 3 3 JP
def JQ:aM P w K mg base 1 3 "_law_own" ["hands","start","hand"] gB:=by
 exists bl.f101,Tf,Tg
def JR:Fs 1 102 ["cells","row","cell","number"]:=aG
def sL:AT:=(ag (aw 3 (b2 (aa 2) (b2 (Zb 10) (Zb 60) i0) az)) (ag (aI (b2 (b2 (cC (Yb (aa 1) ae) ay) (Zb 3) az) (Zb 2) (au false)) (aw 3 (b2 (b1 (Zb 1) bz) (aa 3) cY)) ao) (bZ 1 (ab 3) bc)))
@[simp] def JS:AT:=(wF [1] (ah (ab 1)))
@[simp] def JT:AT:=(ag (bM (b1 (ab 0) Yc) (ak 2) sL) JS)
def CH:AT:=(ag (aW 1 (aX ae)) JT)
def sM:AR->Option D:=aq 1 4 CH
def Th:aM P w K mg base 1 1 "_law_numbers_of" ["cells"] sM:=by
 refine ew bl.f102 JR λhr=>?_;unfold CH JT JS
 exists JR
def Ti:Fs 3 103 ["kind","rule","start","beacons"]:=aG
def Tj:Cs ["kind","rule","start","beacons"] 103 ["saying","start"] [none,some 2] [("saying",0),("start",1)]:=bQ
def Tn:Cs ["kind","rule","start","beacons"] 103 ["beacon","start"] [none,some 2] [("beacon",0),("start",1)]:=bQ
def CI:AW:=(aD (Yb (b2 (aa 1) (b2 (aa 0) (Zb 0) ai) bS) (Yb (b2 (aa 0) (Zb 1) ai) ae)))
def m5:AW:=(b2 (aa 1) (aa 0) bS)
@[simp] def To:AT:=(ah (aD (Yb (ab 3) (Yb (b2 (aa 2) (b2 (aa 1) (Zb 1) ai) bS) ae))))
@[simp] def Tp:AT:=(ag (aI (ec (b2 (aa 0) (kD (.str "sums")) (au false)) (b2 (b2 (aa 1) (Zb 1) ai) (kD .non) (cw false))) (ah (aD (Yb (ab 3) (Yb (b2 (aa 1) (Zb 1) ai) ae)))) ao) To)
@[simp] def Tq:AT:=(ag (aw 3 (cC (Yb (lF (Yv (b1 (b2 (aa 1) (Zb 0) ai) Yc) [none,some 2] (ak 0) tY (m5))) ae) aL)) Tp)
def m7:AT:=(ag (aI (b2 (aa 0) (kD (.str "eithers")) (au false)) (ah (cC (Yb (lF (Yv (b1 (ab 1) Yc) [none,some 2] (ak 0) tY (CI))) ae) aL)) ao) Tq)
def sN:AR->Option D:=aq 3 4 m7
def Tr:aM P w K mg base 1 3 "_law_moved" ["kind","rule","start"] sN:=by
 exists bl.f103,Ti,Tj,Tn
def Ts:Fs 4 104 ["script","kind","start","many"]:=aG
def aAa:Cs ["script","kind","start","many"] 104 ["cell","kind","many","start"] [none,some 1,some 3,some 2] [("cell",0),("_law_moved",2),("_law_rule",2),("kind",1),("many",1),("start",1)]:=bQ
def CJ:AW:=(cC (Yb (ab 1) (Yb (cC (Yb (ab 1) (Yb (ab 0) (Yb (b2 (aa 2) (aa 3) cY) ae))) sJ) (Yb (ab 3) ae))) sN)
def Tt:AT:=ao
def CK:AX:=(Yv (b1 (lF (iD (aa 0) (some (Zb 5)) (some (Zb 33)))) Yc) [none,some 1,some 3,some 2] (ak 0) tY (CJ))
def jt:AR->Option AR:=gm 4 4 Tt CK
def CL:pq P w K mg base 3 4 "_law_drawn" ["script","kind","start","many"] jt:=by
 refine Bj bl.f104 Ts λhr=>?_;exact(zU (HG aAa rfl (HC (zw (HA (fl:=(some (Zb 5))) (fh:=(some (Zb 33))) (ph 0) (zv (yQ yR)) (zv (yQ yR))))) (λ_ _ _ _ _=>(HE 0 aAa.nd)) (λ_ _ _ _ _=>HF) (λ_ _ _ _ _=>(pk (Tr bl) hr rfl (iP (lI 1) (iP (pk (Tb bl) hr rfl (iP (lI 1) (iP (lI 0) (iP (Hz (ph 2) (ph 3)) zx))) ru) (iP (lI 3) zx))) ru)) (GK (i:=0) rfl)))
def Tu:Fs 3 105 ["script","hands","start","many","storms","ends","road","cell","left","last","links","k"]:=aG
def Yy:AT:=(ag (aw 8 (cC (Yb (ab 7) (Yb (Zb 2049848353892358983) ae)) jq)) (bZ 6 (aD (Yb (b2 (aa 2) (b2 (b2 (aa 8) (Zb 2) bp) (b2 (aa 3) (aa 2) cY) az) bS) (Yb (mB (b2 (b2 (aa 8) (Zb 2) az) (Zb 1) (au false))) ae))) bc))
def m8:AT:=(bZ 10 (cC (Yb (lF (yM (lF (aX (Yb (aD (Yb (b2 (b2 (aa 6) (aa 11) ai) (Zb 0) ai) (Yb (cZ (b2 (b2 (aa 6) (aa 11) ai) (Zb 1) ai)) ae))) (Yb (b2 (aa 6) (b2 (aa 11) (Zb 1) bS) ai) ae)))))) ae) aL) bc)
@[simp] def Tv:AT:=(ah (aD (Yb (aD (Yb (kD (.str "cross")) (Yb (cC (Yb (aa 6) ae) aL) ae))) (Yb (aD (Yb (kD (.str "eithers")) (Yb (cC (Yb (lF (b2 (lF (cF (Yb (ab 0) (Yb (kD (.str "eithers")) (Yb (ab 2) (Yb (ab 3) ae)))) jt)) (aa 10) bD)) ae) aL) ae))) ae))))
@[simp] def m9:AT:=(ag (bM (cF (Yb (b2 (cC (Yb (aa 6) ae) ay) (Zb 1) cY) ae) cD) (ak 11) m8) Tv)
@[simp] def JU:AT:=(ag (aW 10 (aX ae)) m9)
@[simp] def sO:AT:=(ag (bZ 6 (ab 9) bc) JU)
@[simp] def sP:AT:=(ag (aI (b2 (aa 9) (b2 (aa 5) (Zb 0) ai) (au false)) (aw 9 (aD (Yb (b2 (aa 9) (Zb 0) ai) (Yb (cZ (b2 (aa 9) (Zb 1) ai)) ae)))) ao) sO)
@[simp] def sQ:AT:=(ag (aw 9 (aD (Yb (b2 (aa 4) (b2 (b2 (cC (Yb (ab 0) (Yb (Zb 4) ae)) Ye) (Zb 6) bp) (cC (Yb (aa 4) ae) ay) az) ai) (Yb (mB (b2 (b2 (b2 (cC (Yb (ab 0) (Yb (Zb 4) ae)) Ye) (Zb 384) bp) (Zb 2) az) (Zb 1) (au false))) ae)))) sP)
@[simp] def ju:AT:=(ag (bM (b1 (lF (iD (aa 0) (some (Zb 33)) (some (b2 (Zb 33) (b2 (cC (Yb (ab 0) (Yb (Zb 4) ae)) Ye) (Zb 6) az) bS)))) Yc) (ak 7) Yy) sQ)
@[simp] def Tw:AT:=(ag (aW 6 (cF (Yb (aa 5) ae) gc)) ju)
@[simp] def Tx:AT:=(ag (aW 5 (aX (Yb (aD (Yb (b2 (aa 4) (b2 (cC (Yb (ab 0) (Yb (Zb 3) ae)) Ye) (cC (Yb (aa 4) ae) ay) az) ai) (Yb (mB (b2 (b2 (b2 (cC (Yb (ab 0) (Yb (Zb 3) ae)) Ye) (Zb 64) bp) (Zb 2) az) (Zb 1) (au false))) ae))) ae))) Tw)
@[simp] def Tz:AT:=(ag (aw 4 (cC (Yb (ab 1) (Yb (ab 2) (Yb (kD (.str "storm")) ae))) gB)) Tx)
def CM:AT:=(ag (aw 3 (cC (Yb (aa 1) ae) ay)) Tz)
def j9:AR->Option D:=aq 3 12 CM
def TB:aM P w K mg base 4 3 "_law_cross" ["script","hands","start"] j9:=by
 exists bl.f105,Tu,JQ bl,sC bl,sD bl,CL bl
def TC:Fs 3 106 ["script","hands","start","last","rules","bits","places","place","pick","more"]:=aG
def TF:Cs ["script","hands","start","last","rules","bits","places","place","pick","more"] 106 ["place","bits"] [none,some 5] [("place",0),("bits",1)]:=bQ
def TH:Cs ["script","hands","start","last","rules","bits","places","place","pick","more"] 106 ["at","last"] [none,some 3] [("at",0),("last",1)]:=bQ
def TJ:Cs ["script","hands","start","last","rules","bits","places","place","pick","more"] 106 ["at","pick"] [none,some 8] [("at",0),("pick",1)]:=bQ
def sR:AV:=(b1 (b2 (aa 1) (aa 0) ai) aN)
def sS:AW:=(ab 0)
def CN:AV:=(b2 (aa 0) (aa 1) fZ)
def CO:AW:=(ab 0)
def jv:AT:=(oV 4 (aa 7) (aD (Yb (cC (Yb (lF (Yv (b1 (b2 (b2 (aa 4) (aa 7) ai) (Zb 0) ai) Yc) [none,some 3] (ak 0) (CN) (CO))) ae) aL) (Yb (b2 (b2 (aa 4) (aa 7) ai) (Zb 1) ai) ae))) fA)
def sT:AV:=(b1 (b2 (aa 1) (aa 0) ai) aN)
def sU:AW:=(ab 0)
@[simp] def TK:AT:=(ah (aD (Yb (aD (Yb (kD (.str "odd")) (Yb (cC (Yb (lF (b2 (aa 6) (lF (aX (Yb (cC (Yb (aa 4) ae) ay) ae))) bD)) ae) aL) ae))) (Yb (aD (Yb (kD (.str "sums")) (Yb (cC (Yb (lF (b2 (aa 4) (lF (aX (Yb (ab 9) ae))) bD)) ae) aL) ae))) ae))))
@[simp] def TL:AT:=(ag (aw 9 (aD (Yb (cC (Yb (lF (b2 (lF (Yv (cF (Yb (ab 2) (Yb (ab 3) ae)) ck) [none,some 8] (ak 0) (sT) (sU))) (lF (aX (Yb (ab 3) ae))) bD)) ae) aL) (Yb (b2 (aa 8) (aa 3) ai) ae)))) TK)
@[simp] def TM:AT:=(ag (aw 8 (cC (Yb (cC (Yb (ab 0) (Yb (Zb 4) ae)) Ye) (Yb (b2 (aa 3) (Zb 1) bS) ae)) jr)) TL)
@[simp] def TN:AT:=(ag (wF [6] (bM (b1 (ab 6) Yc) (ak 7) jv)) TM)
@[simp] def TQ:AT:=(ag (aW 6 (Yv (cF (Yb (cC (Yb (aa 4) ae) ay) ae) cD) [none,some 5] (ak 0) (sR) (sS))) TN)
@[simp] def TR:AT:=(ag (aw 5 (cC (Yb (cC (Yb (ab 0) (Yb (Zb 3) ae)) Ye) (Yb (cC (Yb (aa 4) ae) ay) ae)) jr)) TQ)
@[simp] def TU:AT:=(ag (aW 4 (cF (Yb (ab 0) (Yb (kD (.str "sums")) (Yb (ab 2) (Yb (b2 (aa 3) (Zb 1) bS) ae)))) jt)) TR)
def JV:AT:=(ag (aw 3 (b2 (cC (Yb (aa 1) ae) ay) (Zb 1) cY)) TU)
def j_:AR->Option D:=aq 3 10 JV
def TV:aM P w K mg base 4 3 "_law_odd" ["script","hands","start"] j_:=by
 exists bl.f106,TC,CL bl,Cu bl,sC bl,TF,TH,TJ
def TX:Fs 3 107 ["script","hands","start","last","rules","storms","lit","early","cell","left","own","known","body","late","places","paper"]:=aG
def TY:Cs ["script","hands","start","last","rules","storms","lit","early","cell","left","own","known","body","late","places","paper"] 107 ["at","last"] [none,some 3] [("at",0),("last",1)]:=bQ
def ka:AT:=(ag (aw 9 (cC (Yb (ab 8) (Yb (Zb 2049848353892358983) ae)) jq)) (ag (aw 10 (cC (Yb (ab 1) (Yb (ab 2) (Yb (kD (.str "keeper")) ae))) gB)) (aI (b2 (cC (Yb (aa 10) ae) ay) (Zb 0) ix) (ag (aW 11 (b2 (aa 5) (aa 6) bD)) (ag (aW 12 (aX (Yb (b2 (aa 11) (b2 (aa 9) (cC (Yb (aa 11) ae) ay) az) ai) (Yb (b2 (aa 11) (b2 (b2 (aa 9) (Zb 64) bp) (cC (Yb (aa 11) ae) ay) az) ai) ae)))) (ag (bZ 6 (b2 (aa 10) (b2 (b2 (aa 9) (Zb 4096) bp) (cC (Yb (aa 10) ae) ay) az) ai) bc) (bZ 7 (aD (Yb (cC (Yb (lF (gO (aa 12))) ae) aL) (Yb (b2 (aa 6) (b1 (Zb 1) bz) ai) ae))) bc)))) ao)))
def sV:AV:=(b2 (aa 0) (aa 1) (au true))
def sW:AW:=(ab 0)
@[simp] def TZ:AT:=(ah (aD (Yb (ab 15) (Yb (aD (Yb (kD (.str "ifs")) (Yb (cC (Yb (lF (b2 (lF (b2 (aa 4) (aa 7) bD)) (lF (aX (Yb (ab 13) ae))) bD)) ae) aL) ae))) ae))))
@[simp] def T3:AT:=(ag (aw 15 (aD (Yb (kD (.str "lone")) (Yb (ab 3) (Yb (ab 14) (Yb (aD (Yb (b2 (cC (Yb (aa 4) ae) ay) (cC (Yb (aa 7) ae) ay) bS) ae)) ae)))))) TZ)
@[simp] def T4:AT:=(ag (aw 14 (λρ=>(cF (Yb (cC (Yb (aa 4) ae) ay) (Yb (b2 (cC (Yb (aa 4) ae) ay) (cC (Yb (aa 7) ae) ay) bS) ae)) ck ρ).map D.tup)) T3)
@[simp] def T5:AT:=(ag (wF [12] (aw 13 (aD (Yb (ab 12) (Yb (b2 (lF (aX (Yb (kD .non) (Yb (ab 3) ae)))) (b2 (b2 (cC (Yb (ab 0) (Yb (Zb 4) ae)) Ye) (Zb 8) bp) (Zb 2) az) ai) ae))))) T4)
@[simp] def T6:AT:=(ag (aw 12 (cC (Yb (lF (gO (lF (Yv (b1 (lF (b2 (aa 6) (aa 5) bD)) Yc) [none,some 3] (ak 0) (sV) (sW))))) ae) aL)) T5)
@[simp] def T7:AT:=(ag (bM (b1 (lF (iD (aa 0) (some (Zb 33)) (some (b2 (Zb 33) (b2 (cC (Yb (ab 0) (Yb (Zb 4) ae)) Ye) (Zb 8) az) bS)))) Yc) (ak 8) ka) T6)
@[simp] def T8:AT:=(ag (aW 7 (aX ae)) T7)
@[simp] def T9:AT:=(ag (aW 6 (aX ae)) T8)
@[simp] def T_:AT:=(ag (aw 5 (cC (Yb (ab 1) (Yb (ab 2) (Yb (kD (.str "storm")) ae))) gB)) T9)
@[simp] def Ua:AT:=(ag (aW 4 (cF (Yb (ab 0) (Yb (kD (.str "ifs")) (Yb (ab 2) (Yb (b2 (aa 3) (Zb 1) bS) ae)))) jt)) T_)
def JW:AT:=(ag (aw 3 (b2 (cC (Yb (aa 1) ae) ay) (Zb 1) cY)) Ua)
def kb:AR->Option D:=aq 3 16 JW
def Ub:aM P w K mg base 4 3 "_law_lone" ["script","hands","start"] kb:=by
 exists bl.f107,TX,CL bl,JQ bl,sC bl,sD bl,TY
def Uc:b9 ["self","hand"] ["self","hand"] (aBa (inClass (top 69) 0)):=aG
def Ud:Hm:=(da 0 "hand" ["Settler","Rowed","Papered"] (ab 1))
def sX:Hf:=bN 2 Ud
def JX:Bb P w K mg base 1 2 "Settler" "__init__" ["self","hand"] sX:=by
 refine Bg bl.k_Settler bl.c_Settler Uc (λhr=>?_)
 exists rfl
def Ue:b9 ["self","hand","row"] ["self","hand","row"] (aBa (inClass (top 70) 0)):=aG
def Ug:Hm:=(da 0 "seen" ["Rowed"] (Zb 0))
def Uh:Hm:=(aU (da 0 "row" ["Rowed"] (cC (Yb (aa 2) ae) aL)) Ug)
def Ui:Hm:=(aU (gZ (i8 (Yb (ab 0) (Yb (ab 1) ae)) sX)) Uh)
def sY:Hf:=bN 3 Ui
def Uj:jY P w K mg base 3 3 "Rowed" ["self","hand","row"] [] sY:=by
 refine my bl.i_Rowed bl.c_Rowed Ue (λhr=>?_)
 exists JX bl
def JY:b9 ["self","book","beacon","lit"] ["self"] (aBa (inClass (top 93) 3)):=aG
def sZ:AT:=aw 1 (cC (Yb (ab 1) (Yb (ab 2) (Yb (ab 3) ae))) rR)
@[simp] def Uk:AT:=ah (ab 1)
@[simp] def Ul:AT:=ag (bM (b1 (b1 (ab 0) (aY "Watch" "truths")) oW) (eT 2 3) sZ) Uk
def JZ:AT:=ag (aw 1 (b1 (ab 0) (aY "Watch" "book"))) Ul
def jw:AR->Option D:=aq 1 4 JZ
def Um(bl:Bl K w mg){c:Str}(F:Mq K c "left" "Watch.left" (inClass (top 93) 3)):dS P w K mg base 5 c "left" ["self"] (bu K 1 jw):=by
 refine er F JY λhr=>?_
 exists JY,QT bl
def Uo:b9 ["self","hand","paper","book","hands","start"] ["self","hand","paper","book","hands","start"] (aBa (inClass (top 71) 0)):=aG
def Up:Hm:=(da 0 "start" ["Papered"] (ab 5))
def Uq:Hm:=(aU (da 0 "hands" ["Papered"] (cC (Yb (aa 4) ae) aL)) Up)
def Ur:Hm:=(aU (da 0 "book" ["Papered"] (ab 3)) Uq)
def Us:Hm:=(aU (da 0 "paper" ["Papered"] (ab 2)) Ur)
def Ut:Hm:=(aU (gZ (i8 (Yb (ab 0) (Yb (ab 1) ae)) sX)) Us)
def s_:Hf:=bN 6 Ut
def Uu:jY P w K mg base 3 6 "Papered" ["self","hand","paper","book","hands","start"] [] s_:=by
 refine Bi bl.i_Papered bl.c_Papered Uo (λhr=>?_) (λ_ _ _ _ _ _ _ _ us hl=>by obtain⟨_,_,_,_,_,_,rfl⟩:=fE hl;exact⟨_,rfl,rfl⟩)
 exists JX bl
def Uv:b9 ["self","book","hands"] ["self","book","hands"] (aBa (inClass (top 93) 0)):=aG
def Uw:Hm:=mv 0 "truths" ["Watch"]
def Ux:Hm:=aU (da 0 "hands" ["Watch"] (cC (Yb (aa 2) ae) aL)) Uw
def Uy:Hm:=aU (da 0 "book" ["Watch"] (ab 1)) Ux
def Uz:Hm:=aU (fI (iO (cC (Yb (ab 1) (Yb (ab 2) ae)) jo))) Uy
def m_:Hf:=bN 3 Uz
def UA:jY P w K mg base 4 3 "Watch" ["self","book","hands"] [] m_:=by
 refine my bl.i_Watch bl.c_Watch Uv (λhr=>?_)
 exists SV bl
def J0:Fs 1 108 ["script","many","hands","start","way","paper","book","watch","ahead","beacon","rest","player","found"]:=aG
def UB:Cs ["script","many","hands","start","way","paper","book","watch","ahead","beacon","rest","player","found"] 108 ["rule","book","watch"] [none,some 6,some 7] [("rule",0),("_law_so",2),("book",1),("watch",1)]:=bQ
def J1:Hm:=(gZ (gv "settle" sv (ab 7) (Yb (b2 (aa 8) (aa 9) ai) ae)))
def td:AW:=(cC (Yb (b2 (aa 1) (Zb 0) ai) (Yb (ab 0) (Yb (b1 (ab 2) (bw "Watch" "evening" Yq)) ae))) sF)
def J2:Hm:=(gu (i6 (cZ (cC (Yb (lF (Yv (b1 (b2 (aa 6) (Zb 1) ai) Yc) [none,some 6,some 7] (ak 0) tY (td))) ae) c6))))
def CP:Hm:=(aU (mq (gY (ec (bL (b1 (mB (b1 (aa 12) (fx "str"))) aN)) (ec (b2 (aa 12) (kD (.str "storm")) (au true)) (b2 (b1 (ab 7) (bw "Watch" "winner" Yp)) (kD (.str "storm")) (au true))))) (fI (ah (kD (.bl false)))) fJ) J2)
def CQ:Hm:=(aU (dU 12 (rm 3 (mu (q5 (ab 7)) (mu (jk "Rowed" false [] [] (Yb (kD (.str "keeper")) (Yb (cC (Yb (lF (iD (aa 0) none (some (Zb 63)))) ae) sM) ae)) sY) (mu (q5 (ab 11)) i7))) sA)) CP)
def J3:Hm:=(aU (dU 11 (jk "Papered" true [2] [] (Yb (kD (.str "storm")) (Yb (ab 5) (Yb (ab 10) (Yb (ab 2) (Yb (ab 3) ae))))) s_)) CQ)
def CS:Hm:=(aU (fI (wF [2] (aI (b2 (cC (Yb (ab 5) (Yb (ab 10) (Yb (ab 2) (Yb (ab 3) (Yb (kD (.str "storm")) ae))))) mW) (kD (.bl true)) (iH true)) (ah (kD (.bl false))) ao))) J3)
def CT:Hm:=(aU (dU 10 (Bh (b1 (ab 7) (bw "Watch" "left" jw)))) CS)
def CU:Hm:=(aU (i3 (cF (Yb (ab 3) ae) cD) (ak 9) J1) CT)
def CV:Hm:=(aU (fI (aw 8 (cC (Yb (b2 (cC (Yb (ab 0) (Yb (Zb 2) ae)) Ye) (Zb 61) bp) (Yb (ab 1) ae)) jr))) CU)
def CW:Hm:=(aU (dU 7 (jk "Watch" true [2] [] (Yb (ab 6) (Yb (ab 2) ae)) m_)) CV)
def CY:AT:=(rb CW)
def CZ:AT:=(ag (aI (b2 (aa 4) (Zb 3) (au false)) (aw 6 (cC (Yb (ab 6) ae) gz)) ao) CY)
def C0:AT:=(ag (aI (b2 (aa 4) (Zb 0) (au false)) (wF [2] (fH (cC (Yb (ab 0) (Yb (ab 2) (Yb (ab 3) ae))) j9) (eT 5 6))) (aI (b2 (aa 4) (Zb 1) (au false)) (wF [2] (fH (cC (Yb (ab 0) (Yb (ab 2) (Yb (ab 3) ae))) j_) (eT 5 6))) (wF [2] (fH (cC (Yb (ab 0) (Yb (ab 2) (Yb (ab 3) ae))) kb) (eT 5 6))))) CZ)
def C1:AT:=(ag (aw 4 (b2 (cC (Yb (ab 0) (Yb (Zb 0) ae)) Ye) (Zb 4) az)) C0)
def C2:AT:=(ag (aw 3 (b2 (lF (aX (Yb (Zb 0) (Yb (b2 (cC (Yb (ab 0) (Yb (Zb 2) ae)) Ye) (aa 1) az) ae)))) (b2 (b2 (cC (Yb (ab 0) (Yb (Zb 0) ae)) Ye) (Zb 4) bp) (Zb 2) az) ai)) C1)
def C3:AT:=(ag (aW 2 (b2 (cC (Yb (cC (Yb (ab 0) (Yb (Zb 1) ae)) Ye) (Yb (b2 (aa 1) (Zb 1) cY) ae)) mY) (lF (aX (Yb (kD (.str "storm")) ae))) bD)) C2)
def nc:AT:=(ag (aw 1 (b2 (Zb 2) (b2 (b2 (cC (Yb (ab 0) (Yb (Zb 0) ae)) Ye) (Zb 8) bp) (Zb 15) az) bS)) C3)
def kf:AR->Option D:=aq 1 13 nc
def C4(bl:Bl K w mg)(F:Fun K "law" "law" (top 108) a fd):FnOk P w K mg base bK 20 a fd ["script"] (bu K 1 kf):=by
 refine zJ (k:=19) F J0 rfl rfl λcdv A outer s H E hr=>?_
 exists J0,sC bl,Te bl,TB bl,TV bl,Ub bl,IT bl,UA bl,Cu bl,JB bl,Um bl bl.r_Watch_left,Cj bl,Uu bl,SI bl,Uj bl,Th bl,Cg bl bl.r_Watch_winner,UB,S4 bl,Jv bl bl.r_Watch_evening
end
abbrev J4:Nat:=20
theorem all_mk{l:W.OpenLaw}{w:World}{K:W7}{h:Heap}{mg:AE}{fa uv:Addr}(X:K.In h)(G:h.Ns mainGlobals mg)(hfa:mg "law"=some (.ref fa)){vc uy:Option Addr}{ve:Array (Option Value)}{vf uz u0 u4 ut u5:Value}(F_both_added:Fk K "both_added" 2)(F_added:Fk K "added" 3)(F_beacons_with:Fk K "beacons_with" 6)(F_is_rising:Fk K "is_rising" 7)(F_contrary:Fk K "contrary" 9)(F_led_to:Fk K "led_to" 10)(F_is_road:Fk K "is_road" 11)(F_exchanged_rule:Fk K "exchanged_rule" 14)(F_exchanged:Fk K "exchanged" 15)(F_either_holds:Fk K "either_holds" 23)(F_sum_holds:Fk K "sum_holds" 24)(F_if_holds:Fk K "if_holds" 25)(F_rule_holds:Fk K "rule_holds" 26)(F_broken_rules:Fk K "broken_rules" 27)(F_holds:Fk K "holds" 28)(F_beacons_in:Fk K "beacons_in" 29)(F_beacons_of:Fk K "beacons_of" 30)(F_is_void:Fk K "is_void" 31)(F_without:Fk K "without" 32)(F_either_left:Fk K "either_left" 33)(F_sum_left:Fk K "sum_left" 34)(F_if_left:Fk K "if_left" 35)(F_rule_left:Fk K "rule_left" 36)(F_left_behind:Fk K "left_behind" 37)(F_is_place:Fk K "is_place" 39)(F_body_is_known:Fk K "body_is_known" 40)(F_is_step:Fk K "is_step" 41)(F_is_derivation:Fk K "is_derivation" 42)(F_derived:Fk K "derived" 43)(F_is_broken:Fk K "is_broken" 45)(F_lead_there_and_back:Fk K "lead_there_and_back" 46)(F_clash_good:Fk K "clash_good" 47)(F_cross_good:Fk K "cross_good" 48)(F_late_good:Fk K "late_good" 49)(F_odd_good:Fk K "odd_good" 50)(F_first_ones:Fk K "first_ones" 51)(F_is_first_part:Fk K "is_first_part" 52)(F_is_last_part:Fk K "is_last_part" 53)(F_lone_good:Fk K "lone_good" 54)(F_either_paper_good:Fk K "either_paper_good" 55)(F_storm_good:Fk K "storm_good" 56)(F_is_odd_count:Fk K "is_odd_count" 59)(F_cross_said:Fk K "cross_said" 63)(F_odd_said:Fk K "odd_said" 65)(F_lone_said:Fk K "lone_said" 66)(F_said:Fk K "said" 67)(F_play_out:Fk K "play_out" 72)(F_good:Fk K "good" 89)(F_is_hand:Fk K "is_hand" 91)(F_check_hands:Fk K "check_hands" 92)(F_law_cell:Fk K "_law_cell" 95)(F_law_mixed:Fk K "_law_mixed" 96)(F_law_bits:Fk K "_law_bits" 97)(F_law_so:Fk K "_law_so" 98)(F_law_rule:Fk K "_law_rule" 99)(F_law_hands:Fk K "_law_hands" 100)(F_law_own:Fk K "_law_own" 101)(F_law_numbers_of:Fk K "_law_numbers_of" 102)(F_law_moved:Fk K "_law_moved" 103)(F_law_drawn:Fk K "_law_drawn" 104)(F_law_cross:Fk K "_law_cross" 105)(F_law_odd:Fk K "_law_odd" 106)(F_law_lone:Fk K "_law_lone" 107)(vg:W.nsIn K mainGlobals "law"=some (some (.ref uv)))(vi:K.lookup uv=some ⟨vf,vc,.func (W.fnOf "law" "law" (aEa (top 108)) (aDa (top 108)) (aBa (top 108)) .none uz u0 u4 uy ut u5),ve⟩)(vj:W.codeIn K ut "law"=true)(vk:W.keepIn K (.ref uv)=true)(R_Papered_says:Mq K "Papered" "says" "Papered.says" (inClass (top 71) 1))(R_Papered_sees:Mq K "Papered" "sees" "Settler.sees" (inClass (top 69) 2))(R_Rowed_says:Mq K "Rowed" "says" "Rowed.says" (inClass (top 70) 1))(R_Rowed_sees:Mq K "Rowed" "sees" "Rowed.sees" (inClass (top 70) 2))(R_Settler_says:Mq K "Settler" "says" "Settler.says" (inClass (top 69) 1))(R_Settler_sees:Mq K "Settler" "sees" "Settler.sees" (inClass (top 69) 2))(R_Watch_evening:Mq K "Watch" "evening" "Watch.evening" (inClass (top 93) 2))(R_Watch_left:Mq K "Watch" "left" "Watch.left" (inClass (top 93) 3))(R_Watch_settle:Mq K "Watch" "settle" "Watch.settle" (inClass (top 93) 5))(R_Watch_turn:Mq K "Watch" "turn" "Watch.turn" (inClass (top 93) 1))(R_Watch_winner:Mq K "Watch" "winner" "Watch.winner" (inClass (top 93) 4))(I_Rowed:jZ K "Rowed" "Rowed.__init__" (inClass (top 70) 0))(I_Papered:rh K "Papered" "Papered.__init__" (inClass (top 71) 0))(I_Watch:jZ K "Watch" "Watch.__init__" (inClass (top 93) 0))(Q_Settler:Kq K "Settler" "__init__" "Settler.__init__" (inClass (top 69) 0))(N_Papered_book:Nq K "Papered" "book")(N_Papered_hand:Nq K "Papered" "hand")(N_Papered_hands:Nq K "Papered" "hands")(N_Papered_paper:Nq K "Papered" "paper")(N_Papered_start:Nq K "Papered" "start")(N_Rowed_hand:Nq K "Rowed" "hand")(N_Rowed_row:Nq K "Rowed" "row")(N_Rowed_seen:Nq K "Rowed" "seen")(N_Settler_hand:Nq K "Settler" "hand")(N_Watch_book:Nq K "Watch" "book")(N_Watch_hands:Nq K "Watch" "hands")(N_Watch_truths:Nq K "Watch" "truths"){up:Tok}(uq:W.nsIn K mainGlobals "BEACON_COUNT"=some (some (.int 60 up))){uc:Addr}{ul:_}{ud ue uf ug uh ui uj uk:_}(um:W.nsIn K mainGlobals "EXCHANGED_KINDS"=some (some (.ref uc)))(uo:K.lookup uc=some ⟨.type "dict",none,.dict #[⟨PyData.keyHash w.params (Str.ofString "eithers"),.str "eithers" ud,.str "eithers" ue⟩,⟨PyData.keyHash w.params (Str.ofString "sums"),.str "sums" uf,.str "sums" ug⟩,⟨PyData.keyHash w.params (Str.ofString "ifs"),.str "ifs" uh,.str "nots" ui⟩,⟨PyData.keyHash w.params (Str.ofString "nots"),.str "nots" uj,.str "ifs" uk⟩] ul,#[]⟩){uu:Addr}{u6:_}{u7:_}{u8:_}{uw ux:_}(u9:W.nsIn K mainGlobals "HANDS"=some (some (.ref uu)))(va:K.lookup uu=some ⟨.type "tuple",u6,.seq #[.str "keeper" uw,.str "storm" ux] u7,u8⟩)(z_len:W.nsIn K mainGlobals "len"=some none)(z_range:W.nsIn K mainGlobals "range"=some none)(z_list:W.nsIn K mainGlobals "list"=some none)(z_tuple:W.nsIn K mainGlobals "tuple"=some none)(z_int:W.nsIn K mainGlobals "int"=some none)(z_str:W.nsIn K mainGlobals "str"=some none)(z_sorted:W.nsIn K mainGlobals "sorted"=some none)(z_any:W.nsIn K mainGlobals "any"=some none)(z_all:W.nsIn K mainGlobals "all"=some none)(z_sum:W.nsIn K mainGlobals "sum"=some none)(z_isinstance:W.nsIn K mainGlobals "isinstance"=some none)(z_enumerate:W.nsIn K mainGlobals "enumerate"=some none)(z_set:W.nsIn K mainGlobals "set"=some none): ∃fd:FuncData,(∀(s:Shared) (v:Value),BindsTo s fd ⟨[v],[]⟩ [("script",v)])/\∀base:Heap,K.In base->base.Ns mainGlobals mg->FnOk l.prog w K mg base bK J4 fa fd ["script"] (bu K 1 kf):=by
 have e:=hfa.symm.trans (W.mg_of X G vg);cases e
 have bl:Bl K w mg:=⟨W.mg_none_of X G z_len,W.mg_none_of X G z_range,W.mg_none_of X G z_list,W.mg_none_of X G z_tuple,W.mg_none_of X G z_int,W.mg_none_of X G z_str,W.mg_none_of X G z_sorted,W.mg_none_of X G z_any,W.mg_none_of X G z_all,W.mg_none_of X G z_sum,W.mg_none_of X G z_isinstance,W.mg_none_of X G z_enumerate,W.mg_none_of X G z_set,⟨_,W.mg_of X G uq⟩,⟨_,_,_,_,W.mg_of X G um,uo,⟨rfl,rfl,rfl⟩,rfl,(.cons ⟨rfl,⟨_,rfl⟩,⟨_,rfl⟩,by decide +kernel⟩ (.cons ⟨rfl,⟨_,rfl⟩,⟨_,rfl⟩,by decide +kernel⟩ (.cons ⟨rfl,⟨_,rfl⟩,⟨_,rfl⟩,by decide +kernel⟩ (.cons ⟨rfl,⟨_,rfl⟩,⟨_,rfl⟩,by decide +kernel⟩ .nil))))⟩,⟨_,_,_,_,W.mg_of X G u9,va,rfl,rfl,(.cons ⟨⟨_,rfl⟩,by decide +kernel⟩ (.cons ⟨⟨_,rfl⟩,by decide +kernel⟩ .nil))⟩,F_both_added.on X G,F_added.on X G,F_beacons_with.on X G,F_is_rising.on X G,F_contrary.on X G,F_led_to.on X G,F_is_road.on X G,F_exchanged_rule.on X G,F_exchanged.on X G,F_either_holds.on X G,F_sum_holds.on X G,F_if_holds.on X G,F_rule_holds.on X G,F_broken_rules.on X G,F_holds.on X G,F_beacons_in.on X G,F_beacons_of.on X G,F_is_void.on X G,F_without.on X G,F_either_left.on X G,F_sum_left.on X G,F_if_left.on X G,F_rule_left.on X G,F_left_behind.on X G,F_is_place.on X G,F_body_is_known.on X G,F_is_step.on X G,F_is_derivation.on X G,F_derived.on X G,F_is_broken.on X G,F_lead_there_and_back.on X G,F_clash_good.on X G,F_cross_good.on X G,F_late_good.on X G,F_odd_good.on X G,F_first_ones.on X G,F_is_first_part.on X G,F_is_last_part.on X G,F_lone_good.on X G,F_either_paper_good.on X G,F_storm_good.on X G,F_is_odd_count.on X G,F_cross_said.on X G,F_odd_said.on X G,F_lone_said.on X G,F_said.on X G,F_play_out.on X G,F_good.on X G,F_is_hand.on X G,F_check_hands.on X G,F_law_cell.on X G,F_law_mixed.on X G,F_law_bits.on X G,F_law_so.on X G,F_law_rule.on X G,F_law_hands.on X G,F_law_own.on X G,F_law_numbers_of.on X G,F_law_moved.on X G,F_law_drawn.on X G,F_law_cross.on X G,F_law_odd.on X G,F_law_lone.on X G,R_Papered_says,R_Papered_sees,R_Rowed_says,R_Rowed_sees,R_Settler_says,R_Settler_sees,R_Watch_evening,R_Watch_left,R_Watch_settle,R_Watch_turn,R_Watch_winner,I_Rowed,I_Papered,I_Watch,Q_Settler,N_Papered_book,N_Papered_hand,N_Papered_hands,N_Papered_paper,N_Papered_start,N_Rowed_hand,N_Rowed_row,N_Rowed_seen,N_Settler_hand,N_Watch_book,N_Watch_hands,N_Watch_truths,λC h=>W.mg_of X G h,λC h=>W.mg_of X G h,λC h=>W.mg_of X G h,λC h=>W.mg_of X G h⟩
 have vl:=kX (st:=(top 108)) vi vj vk;refine⟨W.fnOf "law" "law" (aEa (top 108)) (aDa (top 108)) (aBa (top 108)) .none uz u0 u4 uy ut u5,λs v=>.of_eq rfl,λbase _ _=>?_⟩;exact C4 bl vl
theorem walk(e:∀ns:AG,ns.length<=63->kf [.scr ns]=some (.bl true)){l:W.OpenLaw}{K:Params->W7}(p:l.most=some 63)(j:d.params.defaults=[])(n:∀(w:World) (h:Heap),YP w h->(K w.params).In h)(F:∀(w:World) (i:AE) (m:Addr) (h:Heap),(K w.params).In h->h.Ns mainGlobals i->i d.name=some (.ref m)->
  ∃k:FuncData,(∀(s:Shared) (u:Value),BindsTo s k ⟨[u],[]⟩ [("script",u)])/\∀c:Heap,(K w.params).In c->c.Ns mainGlobals i->FnOk l.prog w (K w.params) i c bK J4 m k ["script"] (bu (K w.params) 1 kf)):
 W.WalkO q loose XP YP l.row.toRowW d [] (λf vs=>PySem.call f vs):=
 L2.walk_of p (by decide) j ⟨rfl,by decide,by decide⟩ n F
  (λw H a ns o _ t=>⟨rfl,[.scr ns],.bl _,H,.refl H,.one (by rw[Rp];symm),e ns o,λv y x g r=>r⟩) λ_ _ _ _ _ z=>z
end Lw
namespace Lw
variable {is S:AF}{ga:AX}{pp:D}{ns:AG}{x3 x4 x0 x1 x2:Int}{HH:AR}{bits:AH}
open PySem L2 M Bk
theorem J5:∀(l a:AG) (x:Int),x∈ba a l↔x∈a\/x∈l
 | [],a,x=>by simp[ba]
 | k::l,a,x=>by
   rw[ba,J5];by_cases h:k∈a
   .rw[if_pos h]
    simp;constructor
    .rintro(b|b)
     .exact .inl b
     .exact .inr (.inr b)
    .rintro(b|b|b)
     .exact .inl b
     .subst b;exact .inl h
     .exact .inr b
   .rw[if_neg h]
    simp[or_assoc]
theorem J6:∀(l a:AG),a.Nodup->(ba a l).Nodup
 | [],_,h=>h
 | k::l,a,h=>by
   refine J6 l _ ?_;by_cases b:k∈a
   .rwa [if_pos b]
   .rw[if_neg b,List.nodup_append]
    refine⟨h,by simp,λx d y c z=>?_⟩;simp at c;subst c;exact b (z ▸ d)
theorem ng{n:Nat}(s:n<64)(l:AF)(h:∀x∈l,x<n)(r:l.length<4000):∃b:AF,b.Pairwise (·<·)/\(∀x,x∈b↔x∈l)/\iJ (l.map nD)=some (b.map nD):=by
 have e1:l.map nD=(l.map Int.ofNat).map D.int:=by simp[wv]
 generalize hd:ba [] (l.map Int.ofNat)=d
 have k:d.Nodup:=by rw[<-hd];exact J6 _ _ .nil
 have c:∀x,x∈d↔∃y∈l,y=x:=λx=>by rw[<-hd,J5];simp
 have i:=y6 d;have hs:=gN d
 obtain⟨b,e2⟩:∃b:AF,dO d=b.map Int.ofNat:=by
  refine⟨(dO d).map Int.toNat,?_⟩;rw[Qf];refine(List.map_id _).symm.trans (Qq λx j=>?_);obtain⟨y,_,rfl⟩:=(c x).mp (i.mem_iff.mp j);simp[wv]
 have e:∀x,x∈b↔x∈l:=λx=>by
  have q:x∈b↔(x:Int)∈dO d:=by
   rw[e2];constructor
   .exact λh=>List.mem_map_of_mem h
   .intro h
    obtain⟨y,m,g⟩:=qy h
    have:=by simpa using g
    exact this ▸ m
  rw[q,i.mem_iff,c];constructor
  .rintro⟨y,m,g⟩
   have:y=x:=by lia
   exact this ▸ m
  .exact λh=>⟨x,h,rfl⟩
 have f:=by
  rw[e2]at i hs
  have o:b.Nodup:=by
   have:=i.nodup_iff.mpr k;rw[List.nodup_iff_pairwise_ne,List.pairwise_map]at this;exact this.imp λh z=>h (by rw[z])
  exact(((List.pairwise_map.mp hs).imp λh=>by simpa using h).and o).imp λh=>Nat.lt_of_le_of_ne h.1 h.2
 have p:d.length<=n:=by
  rw[<-i.length_eq,e2,qf];exact qT f λx j=>h x ((e x).mp j)
 refine⟨b,f,e,?_⟩;unfold iJ;rw[e1,HY];dsimp only;rw[if_pos ⟨by rw[qf];exact r,by lia⟩,hd,e2];simp[wv]
def C5(ns:AG)(k:Nat):Ye [.scr ns,.int k]=some (.int (ns.getD k 0)):=by
 rw[Ye,Yj (by rfl)];by_cases h:k<ns.length
 .have e:bj (ns.map D.int) k=some (.int ns[k]):=by
   rw[eD,eU h];rfl
  simp[Cp,Yd,h,e]
 .simp[Cp,Yd,h]
def g9(ns:AG)(k:Nat)(i:Int)(a:i=(k:Int)):Ye [.scr ns,.int i]=some (.int (ns.getD k 0)):=by
 subst a;exact C5 ns k
def J7(ns:AG)(a b:Nat):bB (ns.map D.int) (some (a:Int)) (some (b:Int))=((ns.drop (min a ns.length)).take (min b ns.length-min a ns.length)).map D.int:=by
 unfold bB;rw[HT.sIx_nat,HT.sIx_nat];simp
theorem tf(c m:Int):∃v:Int,0<=v/\jq [.int c,.int m]=some (.int v):=by
 refine⟨c%2305843009213693951*m%2305843009213693951,Int.emod_nonneg _ (by decide),?_⟩;rw[jq,Yj (by rfl)];have a:d_ (.int (c%2305843009213693951)) (.int m)=_:=HN ⟨by lia,by lia⟩;simp[JJ,Yd,a]
theorem tj(c:Int)(n:Nat)(m:n<=1000):∃ev:AH,ev.length=n/\jr [.int c,.int n]=some (.lst (ev.map D.bl)):=by
 obtain⟨v,_,k⟩:=tf c 1442695040888963407
 obtain⟨ρ',e1,d,b,y,h,rfl⟩:=fF (gt:=ak 4) (fb:=Cq) (λi:Nat=>D.int (0+i)) (λg ρ=>∃(d:AH) (b:Int) (y:AS),d.length=g.length/\
  ρ=[↑(.int c),↑(.int n),↑(.int b),some (.ow (d.map D.bl)),y]) (List.range n) []
  [↑(.int c),↑(.int n),↑(.int v),some (.ow []),none] ⟨[],v,none,rfl,rfl⟩ (by
   rintro q a r ρ e ⟨d,b,y,h,rfl⟩
   have l:q.length<n:=by have:=congrArg List.length e;simp at this;lia
   have f:d.length<1000000:=by lia
   refine⟨_,_,rfl,by simp[Cq,bc,f];rfl,d++[decide (b%2=1)],b/2,↑(.int (0+a)),by simp[h],by simp⟩)
 refine⟨d,by simpa using h,?_⟩;rw[jr,Yj (by rfl)];have j:=qF (n:=n) ∅ ∅;rw[gW]at j;simp[Cr,Yd,k,j]at e1 ⊢;rw[e1];simp
theorem UC(l:AF)(hn:l.Nodup)(hl:l.length<64):∃l':AF,l'.Perm l/\l'.Pairwise (·<·)/\fy [.lst (l.map nD)]=some (l'.map nD):=by
 have e1:l.map nD=(l.map Int.ofNat).map D.int:=by simp[nD,wv]
 have hp:=y6 (l.map Int.ofNat);have hs:=gN (l.map Int.ofNat)
 have e2:∃l':AF,dO (l.map Int.ofNat)=l'.map Int.ofNat:=by
  have hm:∀x∈dO (l.map Int.ofNat),0<=x:=λx hx=>by
   obtain⟨y,_,rfl⟩:=qy (hp.mem_iff.mp hx);exact Int.natCast_nonneg y
  refine⟨(dO (l.map Int.ofNat)).map Int.toNat,?_⟩;rw[Qf];refine(List.map_id _).symm.trans (Qq λx hx=>?_);have:=hm x hx;simp[wv];lia
 obtain⟨l',e2⟩:=e2;rw[e2]at hp hs
 have hp':l'.Perm l:=by
  have:=hp.map Int.toNat;simpa [wv]using this
 refine⟨l',hp',?_,?_⟩
 .have hn':l'.Nodup:=hp'.nodup_iff.mpr hn
  have hs':l'.Pairwise (·<=·):=by
   have:=List.pairwise_map.mp hs
   exact this.imp λh=>by simpa using h
  exact(hs'.and hn').imp λh=>Nat.lt_of_le_of_ne h.1 h.2
 .show oU (l.map nD)=_
  rw[e1];unfold oU;rw[HY];simp[hl,e2,nD,wv]
theorem UD(l:AZ)(h:l.length<=2)(hn:l.Nodup):∃l':AZ,l'.Perm l/\l'.Pairwise gn/\fy [.lst (l.map af)]=some (l'.map af):=by
 match l,h,hn with
 | [],_,_=>exact⟨[],.refl _,.nil,rfl⟩
 | [a],_,_=>exact⟨[a],.refl _,by simp,rfl⟩
 | [a,b],_,hn=>
   have hab:a≠b:=by simpa using hn
   have e:fy [.lst ([a,b].map af)]=some (if bX b.1 b.2 a.1 a.2=true then [af b,af a]else [af a,af b]):=rfl;obtain⟨x,p⟩:=a;obtain⟨y,q⟩:=b
   cases hp:bX (y:Int) q (x:Int) p with
   | true=>
     refine⟨[(y,q),(x,p)],.swap _ _ [],?_,by rw[e];simp[hp]⟩;unfold bX at hp
     have:gn (y,q) (x,p):=by
      unfold gn
      split at hp
      .rename_i hxy
       simp at hp;exact .inr ⟨by lia,hp.1,hp.2⟩
      .simp at hp
       exact .inl hp
     simpa using this
   | false=>
     refine⟨[(x,p),(y,q)],.refl _,?_,by rw[e];simp[hp]⟩;unfold bX at hp
     have:gn (x,p) (y,q):=by
      unfold gn
      split at hp
      .rename_i hxy
       have hxy':y=x:=by lia
       subst hxy';have hpq:p≠q:=λz=>hab (by rw[z]);refine .inr ⟨rfl,?_⟩;cases p<;>cases q<;>simp at hp hpq ⊢
      .rename_i hxy
       simp at hp;left;show x<y;lia
     simpa using this
theorem C6(k:Kd)(c:Int)(n:Nat)(h0:0<n)(hn:n<=1000):∃r:Rl,In k n r/\dR r/\sJ [aJ k,.int c,.int n]=some (aA r):=by
 obtain⟨v,hv0,hv⟩:=tf c 1181783497276652981
 have hn0:(0:Int)<n:=by lia
 have hn1:(n:Int)<1073741824:=by lia
 have hn2:2*(n:Int)<1073741824:=by lia
 have hn3:(0:Int)<2*n:=by lia
 have hmod:∀x:Int,az (.int x) (.int (n:Int))=some (.int (x%n)):=λx=>lU hn0;have hdiv:∀x:Int,bp (.int x) (.int (n:Int))=some (.int (x/n)):=λx=>HP hn0 hn1;have hdiv2:∀x:Int,bp (.int x) (.int (2*(n:Int)))=some (.int (x/(2*n))):=λx=>HP hn3 hn2;have hmul:d_ (.int 2) (.int (n:Int))=some (.int (2*n)):=HN ⟨by decide,by decide⟩;have hst:Yd 8 [aJ k,.int c,.int n]=[↑(aJ k),↑(.int c),↑(.int n),none,none,none,none,none]:=rfl;rw[sJ,Yj (by rfl),hst];by_cases hk:k=.e
 .subst hk
  generalize hsz:v%3=size
  have hs0:0<=size:=by lia
  have hs3:size<3:=by lia
  obtain⟨ρ',e1,l,left,y,hl,hnd,hlt,hlf,rfl⟩:=fF (gt:=ak 6) (fb:=sG) (λi:Nat=>D.int (0+(i:Nat))) (λpre ρ=>∃(l:AZ) (left:Int) (y:AS),l.length<=pre.length/\l.Nodup/\(∀s∈l,s.1<n)/\0<=left/\
   ρ=[↑(aJ .e),↑(.int c),↑(.int n),↑(.int left),↑(.int size),some (.ow (l.map af)),y,none]) (List.range (size-0).toNat) []
   [↑(aJ .e),↑(.int c),↑(.int n),↑(.int (v/7)),↑(.int size),some (.ow []),none,none] ⟨[],v/7,none,qv _,.nil,by simp,by lia,rfl⟩ (by
    rintro q a r ρ e ⟨l,left,y,hl,hnd,hlt,hlf,rfl⟩
    have hq:q.length<1000:=by have:=congrArg List.length e;simp at this;lia
    have hcap:l.length<1000000:=by lia
    obtain⟨b,hb⟩:∃b:Nat,left/2%(n:Int)=(b:Int):=⟨(left/2%n).toNat,by have:=Int.emod_nonneg (left/2) (show(n:Int)≠0 by lia);lia⟩
    have hbn:b<n:=by have:=Int.emod_lt_of_pos (left/2) hn0;lia
    have hsd:D.tup [.int (b:Int),.bl (decide (left%2=1))]=af (b,decide (left%2=1)):=rfl;have hin:=qP (c:=.lst (l.map af)) (b,decide (left%2=1)) l true rfl;have hd:0<=left/(2*(n:Int)):=Int.ediv_nonneg hlf ∅;by_cases hm:(b,decide (left%2=1))∈l
    .refine⟨_,_,rfl,?_,l,left/(2*n),↑(.int (0+(a:Int))),by simp;lia,hnd,hlt,hd,rfl⟩
     simp[sG,hmod,hdiv2,hb,hsd,hin,hm,hmul,hn2,hn3]
    .refine⟨_,_,rfl,?_,l++[(b,decide (left%2=1))],left/(2*n),↑(.int (0+(a:Int))),by simp;lia,?_,?_,hd,rfl⟩
     .simp[sG,hmod,hdiv2,hb,hsd,hin,hm,hmul,hn2,hn3,bc,hcap]
     .rw[List.nodup_append]
      refine⟨hnd,by simp,?_⟩;intro x hx y hy z;simp at hy;subst hy;exact hm (z ▸ hx)
     .intro s hs
      rcases qw hs with hs|hs
      .exact hlt s hs
      .simp at hs
       subst hs
       exact hbn)
  have hl2:l.length<=2:=by simp at hl;lia
  obtain⟨l',hp,hpw,hs⟩:=UD l hl2 hnd;refine⟨.ei l',⟨rfl,λs hs=>hlt s (hp.mem_iff.mp hs)⟩,⟨by rw[hp.length_eq];exact hl2,hpw⟩,?_⟩;have hr:=qF (n:=size) ∅ ∅;rw[gW]at hr;simp[sI,hv,hsz,hr]at e1 ⊢;rw[e1];simp[hs,aA]
 .generalize hsz:v%7=size
  have hs0:0<=size:=by lia
  have hs3:size<7:=by lia
  obtain⟨ρ',e1,l,left,y,hl,hnd,hlt,hlf,rfl⟩:=fF (gt:=ak 6) (fb:=sH) (λi:Nat=>D.int (0+(i:Nat))) (λpre ρ=>∃(l:AF) (left:Int) (y:AS),l.length<=pre.length/\l.Nodup/\(∀s∈l,s<n)/\0<=left/\
   ρ=[↑(aJ k),↑(.int c),↑(.int n),↑(.int left),↑(.int size),none,y,some (.ow (l.map nD))]) (List.range (size-0).toNat) []
   [↑(aJ k),↑(.int c),↑(.int n),↑(.int (v/7)),↑(.int size),none,none,some (.ow [])] ⟨[],v/7,none,qv _,.nil,by simp,by lia,rfl⟩ (by
    rintro q a r ρ e ⟨l,left,y,hl,hnd,hlt,hlf,rfl⟩
    have hq:q.length<1000:=by have:=congrArg List.length e;simp at this;lia
    have hcap:l.length<1000000:=by lia
    obtain⟨b,hb⟩:∃b:Nat,left%(n:Int)=(b:Int):=⟨(left%n).toNat,by have:=Int.emod_nonneg left (show(n:Int)≠0 by lia);lia⟩
    have hbn:b<n:=by have:=Int.emod_lt_of_pos left hn0;lia
    have hin:=c_ (c:=.lst (l.map nD)) b l true rfl;simp only[nD]at hin;have hd:0<=left/(n:Int):=Int.ediv_nonneg hlf ∅;by_cases hm:b∈l
    .refine⟨_,_,rfl,?_,l,left/n,↑(.int (0+(a:Int))),by simp;lia,hnd,hlt,hd,rfl⟩
     simp[sH,hmod,hdiv,hb,hin,hm,nD]
    .refine⟨_,_,rfl,?_,l++[b],left/n,↑(.int (0+(a:Int))),by simp;lia,?_,?_,hd,rfl⟩
     .simp[sH,hmod,hdiv,hb,hin,hm,bc,hcap,nD]
     .rw[List.nodup_append]
      refine⟨hnd,by simp,?_⟩;intro x hx y hy z;simp at hy;subst hy;exact hm (z ▸ hx)
     .intro s hs
      rcases qw hs with hs|hs
      .exact hlt s hs
      .simp at hs
       subst hs
       exact hbn)
  have hl6:l.length<64:=by simp at hl;lia
  obtain⟨l',hp,hpw,hs⟩:=UC l hnd hl6;have hr:=qF (n:=size) ∅ ∅;rw[gW]at hr
  have pre:sI [↑(aJ k),↑(.int c),↑(.int n),none,none,none,none,none]=CA [↑(aJ k),↑(.int c),↑(.int n),↑(.int left),↑(.int size),none,y,some (.ow (l.map nD))]:=by
   simp[sI,hv,hsz,hr,hk,-CA]at e1 ⊢;rw[e1];rfl
  clear e1 hr hv;rw[pre];by_cases hks:k=.s
  .subst hks
   refine⟨.su l' (decide (left%2=1)),⟨rfl,λs hs=>hlt s (hp.mem_iff.mp hs)⟩,hpw,?_⟩;simp[hs,aA]
  .have hki:k=.i\/k=.n:=by cases k<;>simp at hk hks ⊢
   obtain⟨b,hb⟩:∃b:Nat,left/3%(n:Int)=(b:Int):=⟨(left/3%n).toNat,by have:=Int.emod_nonneg (left/3) (show(n:Int)≠0 by lia);lia⟩
   have hbn:b<n:=by have:=Int.emod_lt_of_pos (left/3) hn0;lia
   by_cases h3:0<left%3
   .refine⟨.im l' (some b),⟨hki,λs hs=>hlt s (hp.mem_iff.mp hs),λx hx=>by cases hx;exact hbn⟩,hpw,?_⟩
    simp[hs,aA,hks,h3,hb,hmod,aj]
   .refine⟨.im l' none,⟨hki,λs hs=>hlt s (hp.mem_iff.mp hs),λx hx=>by cases hx⟩,hpw,?_⟩
    simp[hs,aA,hks,h3,hb,hmod,aj]
theorem UE(ev:AH)(b:AF):(b.map λx=>if aC ev x=true then (1:Int)else 0).sum=((b.filter (aC ev)).length:Int):=by
 induction b with
 | nil=>rfl
 | cons a b c=>
   rw[Qd,List.sum_cons,c]
   cases h:aC ev a with
   | true=>rw[List.filter_cons_of_pos h,qt];lia
   | false=>rw[List.filter_cons_of_neg (by simp[h])];simp
theorem C7{c:D}{ev:AH}(g:Yc c=some (ev.map D.bl)){k:Kd}{r:Rl}(m:In k ev.length r):sF [aJ k,aA r,c]=some (.bl (so k ev r)):=by
 rw[sF,Yj (by rfl)]
 cases r with
 | ei l=>
   obtain⟨rfl,d⟩:=m
   have h:=di (fe:=Cv) (r:=[↑c]) (enc:=af) (λs=>.bl (aC ev s.1==s.2)) (l:=l) (λs hs=>by
    simp[Cv,g,fR (d s hs)])
   simp[mX,Yd,ar,h,so]
 | su b o=>
   obtain⟨rfl,d⟩:=m
   have h:=di (fe:=Cw) (r:=[↑c]) (enc:=nD) (λx=>.int (if aC ev x=true then 1 else 0)) (l:=b) (λs hs=>by
    simp[Cw,g,nD,fR (d s hs)])
   have e:∀n:Nat,decide ((n:Int)%2=1)=decide (n%2=1):=λn=>by
    by_cases z:n%2=1
    .have:(n:Int)%2=1:=by lia
     simp[z,this]
    .have:¬(n:Int)%2=1:=by lia
     simp[z,this]
   simp[mX,Yd,ar,h,so,UE,e]
 | im b h=>
   obtain⟨t,d,u⟩:=m;generalize f:decide (k=Kd.i)=w
   have p:=di (fe:=Cy) (r:=[↑c,↑(.bl w)]) (enc:=nD) (λx=>.bl (aC ev x != w)) (l:=b) (λs hs=>by
    simp[Cy,g,nD,fR (d s hs),bne])
   have j:¬k=.e:=by rcases t with rfl|rfl<;>decide
   have i:¬k=.s:=by rcases t with rfl|rfl<;>decide
   have a:mX (Yd 4 [aJ k,aA (.im b h),c])=sE [↑(aJ k),↑(aA (.im b h)),↑c,↑(.bl w)]:=by
    simp[mX,Yd,j,i,f,-sE]
   have q:sE [↑(aJ k),↑(aA (.im b h)),↑c,↑(.bl w)]=if (b.any λx=>aC ev x != w)=true then some (.rt (.bl true))else Cz [↑(aJ k),↑(aA (.im b h)),↑c,↑(.bl w)]:=by
    cases hb:(b.any λx=>aC ev x != w)<;>simp[ar,p,hb,-Cz]
   rw[a,q];clear a q p
   cases hb:(b.any λx=>aC ev x != w)with
   | true=>simp[hb,so,f]
   | false=>
     cases h with
     | none=>simp[hb,so,f,aj,hd]
     | some x=>simp[hb,so,f,aj,hd,g,fR (u x rfl)]
section
variable {c:D}{ev:AH}(hc:Yc c=some (ev.map D.bl))
include hc
def UF(a:∀s∈l,s.1<ev.length):rE [aA (.ei l),c]=some (.bl (l.any λs=>aC ev s.1==s.2)):=by
 rw[rE,Yj (by rfl)]
 simp[IU,Yd,ar,di (fe:=BA) (r:=[↑c]) (enc:=af) (λs=>.bl (aC ev s.1==s.2)) (l:=l) (λs b=>by
  simp[BA,hc,fR (a s b)])]
theorem UG(a:∀x∈b,x<ev.length):rF [aA (.su b o),c]=some (.bl (decide ((b.filter (aC ev)).length%2=1)==o)):=by
 have e:∀n:Nat,decide ((n:Int)%2=1)=decide (n%2=1):=λn=>by
  symm
 rw[rF,Yj (by rfl)]
 simp[IV,Yd,ar,ek (fc:=BC) (fe:=BE) (r:=[↑c]) (enc:=nD) (aC ev) nD (l:=b) (λs d=>by
  simp[BC,hc,fR (a s d)]) (λs _ _=>by simp[BE]),e]
def J8(d:∀x∈b,x<ev.length)(e:∀x,h=some x->x<ev.length):rH [aA (.im b h),c,.bl w]=some (.bl ((b.any λx=>aC ev x != w)||hd ev w h)):=by
 have a:=di (fe:=BF) (r:=[↑c,↑(.bl w)]) (enc:=nD) (λx=>.bl (aC ev x != w)) (l:=b) (λs i=>by
  simp[BF,hc,fR (d s i),bne])
 rw[rH,Yj (by rfl)]
 cases f:(b.any _)with
 | true=>simp[rG,Yd,ar,a,f]
 | false=>
   cases h with
   | none=>simp[rG,Yd,ar,a,f,aj,hd]
   | some x=>simp[rG,Yd,ar,a,f,aj,hd,hc,fR (e x rfl)]
def J9{r:Rl}(d:In k ev.length r):mF [aJ k,aA r,c]=some (.bl (so k ev r)):=by
 rw[mF,Yj (by rfl)]
 cases r with
 | ei l=>
   obtain⟨rfl,a⟩:=d;simp[mE,Yd,UF hc a,so]
 | su b o=>
   obtain⟨rfl,a⟩:=d;simp[mE,Yd,UG hc a,so]
 | im b h=>
   obtain⟨f,a,e⟩:=d;rcases f with rfl|rfl
   .simp[mE,Yd,J8 hc a e,so]
   .simp[mE,Yd,J8 hc a e,so]
end
section
variable {c:D}{ev:AH}(hc:Yc c=some (ev.map D.bl))
include hc
theorem UH{k:Kd}{R:List Rl}(b:∀r∈R,In k ev.length r):rJ [Yk k R,c]=some (.lst ((brk k ev R).map nD)):=by
 rw[rJ,Yj (by rfl)]
 simp[IX,Yd,ar,Ar,Al (fc:=BG) (fe:=BH) (r:=[↑(Yk k R),↑c]) (e1:=λi:Nat=>.int i) (e2:=λi=>aA (gq R i)) (λi=>!so k ev (gq R i)) nD (l:=.range R.length) (λi a=>by
  simp[BG,J9 hc (b (gq R i) (Aq (Qb a)))]) (λi _ _=>by simp[BH]),brk]
end
section
variable {c:D}{ev:AH}(hc:Yc c=some (ev.map D.bl))
include hc
def C8{k:Kd}{R:List Rl}(a:∀r∈R,In k ev.length r):rK [Yk k R,c]=some (.bl (decide (brk k ev R=[]))):=by
 rw[rK,Yj (by rfl)];simp[IY,Yd,UH hc a]
end
theorem C9{r:Rl}(f:In k n r)(hs:sz r<=999999):j5 [aJ k,aA r]=some (.lst ((cx r).map nD)):=by
 rw[j5,Yj (by rfl)]
 cases r with
 | ei l=>
   obtain⟨rfl,_⟩:=f;have h:=di (fe:=BI) (r:=[]) (enc:=af) (λs=>nD s.1) (l:=l) (λs _=>by simp[BI]);simp[rL,Yd,ar,h,cx,wv]
 | su b o=>
   obtain⟨rfl,_⟩:=f;constructor<;>lia
 | im b h=>
   obtain⟨g,_⟩:=f
   have c:¬k=.e:=by symm
   have d:¬k=.s:=by symm
   have e:b.length+1<=1000000:=by simp[sz]at hs;ext
   cases h with
   | none=>simp[rL,Yd,cx,c,aj]
   | some x=>simp[rL,Yd,cx,c,d,aj,bD,e]
def C_(r:Rl):(cx r).length<=sz r+1:=by
 cases r with
 | ei l=>simp[cx,sz]
 | su l o=>simp[cx,sz]
 | im l h=>cases h<;>simp[cx,sz]
theorem UI{k:Kd}{n m:Nat}(t:n<64){R:List Rl}(o:∀r∈R,In k n r/\sz r+1<=m)(A:R.length*m<4000):∃l:AF,l.Pairwise (·<·)/\(∀x,x∈l↔∃r∈R,x∈cx r)/\rM [Yk k R]=some (.lst (l.map nD)):=by
 obtain⟨E,D,f,y,b,d,rfl⟩:=fF (gt:=ak 2) (fb:=BK) aA (λc C=>∃(f:AF) (y:AS),f=c.flatMap cx/\f.length<=c.length*m/\
  C=[↑(Yk k R),some (.ow (f.map nD)),y]) R [] [some _,some (.ow []),none] ⟨[],none,rfl,by simp,rfl⟩ (by
  rintro q a r C e ⟨f,y,b,d,rfl⟩
  have u:a∈R:=by rw[Qj]at e;rw[e];simp
  obtain⟨i,p⟩:=o a u
  have v:q.length<R.length:=by rw[Qj]at e;rw[e];simp
  have j:=by
   have:=Nat.mul_le_mul_right m (v);exact this
  have z:=C_ a
  have g:f.length+(cx a).length<=1000000:=by lia
  refine⟨_,_,rfl,?_,f++cx a,↑(aA a),by rw[b];simp,?_,rfl⟩
  .simp[BK,C9 i ∅,gh,g]
  .simp
   lia)
 rw[Qj]at b d
 obtain⟨l,i,p,s⟩:=ng t f (λx h=>by
  rw[b]at h;obtain⟨r,w,h⟩:=List.mem_flatMap.mp h
  exact Ip (o r w).1 x h) ∅
 refine⟨l,i,λx=>?_,?_⟩
 .rw[p,b,List.mem_flatMap]
 .rw[rM,Yj (by rfl)]
  simp[IZ,Yd,D,s]
theorem J_(l:AF)(b:Nat):g7 [.tup (l.map nD),.int (b:Int)]=some (.tup ((Bk.wo b l).map nD)):=by
 rw[g7,Yj (by rfl)]
 simp[BM,Yd,ar,ek (fc:=mH) (fe:=mI) (r:=[↑(.int b)]) (enc:=nD) (λx=>!decide (x=b)) nD (l:=l) (λx _=>by
  simp[mH]) (λx _ _=>by simp[mI]),Bk.wo]
theorem UJ(l:AZ)(b:Nat)(e:Bool):rN [aA (.ei l),.int (b:Int),.bl e]=some (bT (cH .e b e (.ei l))):=by
 have c:.tup _=af (b,e):=rfl;have a:=qP (c:=aA (.ei l)) (b,e) l false rfl;rw[rN,Yj (by rfl)];by_cases d:(b,e)∈l
 .simp[BQ,Yd,c,a,d,cH,bT]
 .simp[BQ,Yd,ar,c,a,d,cH,bT,ek (fc:=BO) (fe:=BP) (r:=[↑(.int b)]) (enc:=af) (λs=>!decide (s.1=b)) af (l:=l) (λx _=>by
  simp[BO]) (λx _ _=>by simp[BP]),iY,Il]
theorem UK(l:AF)(o:Bool)(b:Nat)(d:Bool)(e:b∈l):rO [aA (.su l o),.int (b:Int),.bl d]=some (bT (cH .s b d (.su l o))):=by
 have c:=J_ l b;rw[rO,Yj (by rfl),cH];generalize Bk.wo b l=q at c ⊢
 cases q with
 | nil=>cases o<;>cases d<;>simp[BR,Yd,c,e]<;>rfl
 | cons a q=>cases o<;>cases d<;>simp[BR,Yd,c,e]<;>first|rfl|lia
def UL(k:Kd)(l:AF)(h:AN)(b:Nat)(i:Bool):rP [aA (.im l h),.int (b:Int),.bl (i==decide (k=.i))]=some (bT (cH k b i (.im l h))):=by
 have f:=J_ l b;have a:=c_ (c:=.tup _) b l false rfl;rw[rP,Yj (by rfl)];generalize g:(i==decide (k=.i))=w
 have d:(i=decide (k=.i))↔w=true:=by rw[<-g];simp
 rw[cH];simp [d];by_cases e:h=some b
 .by_cases c:b∈l
  .cases w<;>simp[mJ,Yd,a,e,c,bT]
  .cases w<;>simp[mJ,Yd,a,e,c,f,bT,OG]
 .by_cases c:b∈l
  .cases w<;>simp[mJ,Yd,a,e,c,f,bT,Im]
  .cases w<;>simp[mJ,Yd,a,e,c,f,bT,Im]
theorem UM{k:Kd}{n:Nat}{r:Rl}(d:In k n r)(hs:sz r<=999999)(b:Nat)(i:Bool):rQ [aJ k,aA r,.int (b:Int),.bl i]=some (bT (cH k b i r)):=by
 have j:=C9 d hs;have a:=c_ (c:=.lst _) b (cx r) true rfl;rw[rQ,Yj (by rfl)];by_cases c:b∈cx r
 .cases r with
  | ei l=>
    obtain⟨rfl,_⟩:=d;simp[mK,Yd,j,a,c,UJ]
  | su l o=>
    obtain⟨rfl,_⟩:=d;simp[mK,Yd,j,a,c,UK l o b i c]
  | im l h=>
    obtain⟨g,_⟩:=d
    have f:¬k=.e:=by rcases g with rfl|rfl<;>decide
    have e:¬k=.s:=by rcases g with rfl|rfl<;>decide
    simp[mK,Yd,j,a,c,f,e,UL]
 .have:cH k b i r=_:=OH c
  simp[mK,Yd,j,a,c,this,bT]
theorem UN{k:Kd}{n:Nat}{R:List Rl}(f:∀r∈R,In k n r)(hs:∀r∈R,sz r<=999999)(b:Nat)(a:Bool):rR [Yk k R,.int (b:Int),.bl a]=some (Yk k (R.filterMap (cH k b a))):=by
 have e:∀Q,dN _ _ _ _ _=_:=λQ=>by
  have:=ek (fc:=BU) (fe:=BV) (r:=[]) (enc:=bT) (λo=>o.isSome) bT (l:=Q) (λo _=>by
   cases o<;>simp[BU,bT]) (λo _ _=>by simp[BV])
  rw[this,iZ]
 have c:=e (R.map (cH k b a));rw[rR,Yj (by rfl)];simp[wv]at c
 simp[I_,Yd,ar,di (fe:=BS) (r:=[↑(Yk k R),↑(.int b),↑(.bl a)]) (enc:=aA) (λr=>bT (cH k b a r)) (l:=R) (λr d=>by
  simp[BS,UM (f r d) (hs r d)]),c,OF]
def cy(s:bh):bh:=(s.1,!s.2)
theorem Ka(s:bh):j3 [af s]=some (af (cy s)):=by
 rw[j3,Yj (by rfl)];constructor<;>lia
def jx:AZ->AZ
 | [a,b]=>if bX b.1 b.2 a.1 a.2=true then [b,a]else [a,b]
 | l=>l
def Da(h:l.length<=2):fy [.lst (l.map af)]=some ((jx l).map af):=by
 match l,h with
 | [],_=>rfl
 | [a],_=>rfl
 | [a,b],_=>
   have e:fy [.lst ([a,b].map af)]=some (if bX b.1 b.2 a.1 a.2=true then _ else _):=rfl;rw[e,jx]
   split<;>rfl
theorem UO{r:Rl}(b:In k n r)(hs:sz r<=999999):mG [aJ k,aA r]=some (.bl (bx (aA r) (aA (vd k)))):=by
 rw[mG,Yj (by rfl)];have d:=C9 b hs;by_cases a:cx r=[]
 .have c:In k 0 r:=by
   cases r with
   | ei l=>
     simp[cx]at a;subst a;exact⟨b.1,by simp⟩
   | su l o=>
     subst a;exact⟨b.1,by simp⟩
   | im l o=>
     cases o with
     | none=>
       subst a;exact⟨b.1,by simp,by simp⟩
     | some x=>simp[cx]at a
  have f:=J9 (c:=.tup []) (ev:=[]) rfl c
  have e:bx (aA r) (aA (vd k))=!so k [] r:=by
   cases r with
   | ei l=>
     obtain⟨rfl,_⟩:=b;simp[cx]at a;subst a;simp[aA,vd,so]
   | su l o=>
     obtain⟨rfl,_⟩:=b;subst a;cases o<;>simp[aA,vd,so]
   | im l o=>
     cases o with
     | none=>
       subst a
       have:bx .non .non=true:=by simp[bx,aE,PyData.eqv]
       rcases b.1 with rfl|rfl<;>simp[aA,vd,so,aj,hd,this]
     | some x=>simp[cx]at a
  rw[a]at d;simp[BL,Yd,d,f,e]
 .have e:bx (aA r) (aA (vd k))=false:=by
   cases r with
   | ei l=>
     obtain⟨rfl,_⟩:=b
     cases l with
     | nil=>simp[cx]at a
     | cons s l=>simp[aA,vd]
   | su l o=>
     obtain⟨rfl,_⟩:=b
     cases l with
     | nil=>simp[cx]at a
     | cons s l=>constructor<;>lia
   | im l o=>
     have g:∀x,bx (.int x) .non=false:=λx=>by simp[bx,aE,PyData.eqv]
     cases l with
     | nil=>cases o with
       | none=>simp[cx]at a
       | some x=>rcases b.1 with rfl|rfl<;>simp[aA,vd,aj,g]
     | cons s l=>rcases b.1 with rfl|rfl<;>simp[aA,vd]
  simp[BL,Yd,d,a,e]
def jy:Rl->Rl
 | .ei l=>.ei (jx (l.map cy))
 | .su l o=>.su l (o != decide (l.length%2=1))
 | .im l h=>.im l h
def tm:Kd->Kd
 | .e=>.e
 | .s=>.s
 | .i=>.n
 | .n=>.i
theorem UP{r:Rl}(h:In k n r)(hs:dR r):rD [aJ k,aA r]=some (aA (jy r)):=by
 rw[rD,Yj (by rfl)]
 cases r with
 | ei l=>
   obtain⟨rfl,_⟩:=h;have b:=Da (l:=l.map cy) (by simpa using hs.1);simp[wv]at b;simp[rC,Yd,ar,di (fe:=By) (r:=[]) (enc:=af) (λs=>af (cy s)) (l:=l) (λs _=>by simp[By,Ka]),b,jy,Il]
 | su l o=>
   obtain⟨rfl,_⟩:=h
   have e:((l.length:Int)%2=1)↔(l.length%2=1):=by constructor<;>lia
   simp[rC,Yd,jy];cases o<;>by_cases h:l.length%2=1<;>simp[aA,e]
 | im l h=>
   obtain⟨c,_⟩:=h;rcases c with rfl|rfl<;>simp[rC,Yd,jy]
def UQ(k:Kd):oY gt_EXCHANGED_KINDS (aJ k)=some (aJ (tm k)):=by
 have h:gt_EXCHANGED_KINDS.lookup (kS k)=some (kS (tm k)):=by cases k<;>decide +kernel
 show(gt_EXCHANGED_KINDS.lookup _).map _=_;rw[h];rfl
def Kb{R:List Rl}(h:∀r∈R,In k n r/\dR r):gz [Yk k R]=some (Yk (tm k) (R.map jy)):=by
 rw[gz,Yj (by rfl)];simp[IS,Yd,Yk,ar,UQ,di (fe:=Bz) (r:=[↑(aJ k)]) (enc:=aA) (λr=>aA (jy r)) (l:=R) (λr b=>by simp[Bz,UP (h r b).1 (h r b).2]),wv]
def kn(b a:AF):Bool:=b.all λx=>decide (x∈a)
abbrev aS:=List Nat×AN
def aO(r:aS):D:=.tup [.tup (r.1.map nD),aj r.2]
structure UR(r:aS):Prop where
 b:∀x∈r.1,x<60
 h:∀x,r.2=some x->x<60
 p:r.1.Pairwise (·<·)
 l:r.1.length<=3
@[simp] def nh(r:aS):Yc (aO r)=some [.tup (r.1.map nD),aj r.2]:=nr rfl
def cO(R:List aS):D:=.tup [.str "ifs",.tup (R.map aO)]
@[simp] def g_(R:List aS):Yc (cO R)=some [.str "ifs",.tup (R.map aO)]:=nr rfl
def Kc(r:aS)(fs:AF)(hd:Yc d=some (fs.map nD)):mL [aO r,d]=some (.bl (kn r.1 fs)):=by
 rw[mL,Yj (by rfl)];simp[Ja,Yd,ar,di (fe:=BY) (r:=[↑d]) (enc:=nD) (λx=>.bl (decide (x∈fs))) (l:=r.1) (λx _=>by simp[BY,c_ x fs false hd]),kn]
def De(R:List aS)(i:Int):g8 [cO R,.int i]=some (.bl (decide (0<=i/\i<R.length))):=by
 rw[g8,Yj (by rfl)];by_cases h:0<=i<;>simp[BW,Yd,h]
def bg(R:List aS)(i:Int):aS:=R.getD i.toNat ([],none)
theorem kg(h:0<=i/\i<R.length):bj (R.map aO) i=some (aO (bg R i)):=by
 rw[eD,HU (j:=i.toNat) (v:=bg R i) ∅ (by rw[bg,Qt,qr ∅];simp)];rfl
def fK(R:List aS)(fs:AF)(i:Int):Bool:=decide (0<=i/\i<R.length)&&((bg R i).2.isSome&&kn (bg R i).1 fs)
def US(R:List aS){d:D}(fs:AF)(i:Int)(hd:Yc d=some (fs.map nD)):rT [cO R,d,.int i]=some (.bl (fK R fs i)):=by
 rw[rT,Yj (by rfl)];by_cases h:0<=i/\i<R.length
 .have h1:=kg h
  have h2:=Kc (bg R i) fs hd;have h3:=De R i;rw[wm h]at h3;unfold fK;rw[wm h]
  cases hh:(bg R i).2 with
  | none=>simp[rS,Yd,h3,h1,hh,aj]
  | some x=>simp[rS,Yd,h3,h1,h2,hh,aj]
 .have h3:=De R i
  rw[wt h]at h3;unfold fK;rw[wt h];simp[rS,Yd,h3]
def aT(r:aS):Nat:=r.2.getD 0
def bF(R:List aS):AF->AG->Bool
 | _,[]=>true
 | fs,i::is=>fK R fs i&&bF R (fs++[aT (bg R i)]) is
def Ke{R:List aS}{fs:AF}{i:Int}(h:fK R fs i=true):(0<=i/\i<R.length)/\aj (bg R i).2=nD (aT (bg R i)):=by
 unfold fK at h;simp only[Qe,wj]at h;refine⟨h.1,?_⟩;obtain⟨x,hx⟩:=Option.isSome_iff_exists.mp h.2.1;rw[aT,hx];rfl
theorem Kf(R:List aS)(c d:D):∀(is:AG) (fs:AF) (y:AS),fs.length+is.length<=1000->
 (bF R fs is=true/\∃ρ',M.forM (ak 4) Yr (is.map D.int) [↑(cO R),↑c,↑d,some (.ow (fs.map nD)),y]=some (.nx ρ'))\/
 (bF R fs is=false/\M.forM (ak 4) Yr (is.map D.int) [↑(cO R),↑c,↑d,some (.ow (fs.map nD)),y]=some (.rt (.bl false)))
 | [],fs,y,_=>.inl ⟨rfl,_,rfl⟩
 | i::is,fs,y,hl=>by
   have hs:=US R (d:=.lst (fs.map nD)) fs i rfl;rw[bF,Qd,M.forM]
   cases h:fK R fs i with
   | false=>
     rw[h]at hs;right;refine⟨rfl,?_⟩;simp[Yr,hs]
   | true=>
     rw[h]at hs;obtain⟨h1,h2⟩:=Ke h;have ih:=Kf R c d is (fs++[aT (bg R i)]) (↑(.int i)) (by simp at hl ⊢;lia)
     have hb:Yr [↑(cO R),↑c,↑d,some (.ow (fs.map nD)),↑(.int i)]=some (.nx [↑(cO R),↑c,↑d,some (.ow ((fs++[aT (bg R i)]).map nD)),↑(.int i)]):=by
      have hcap:fs.length<1000000:=by simp at hl;lia
      simp[Yr,hs,kg h1,h2,bc,hcap]
     simp only[z6,List.set,qd,hb,Bool.true_and];exact ih
def Kg(R:List aS){c d:D}(fs:AF)(is:AG)(hc:Yc c=some (fs.map nD))(hd:Yc d=some (is.map D.int))(hl:fs.length+is.length<=1000):mM [cO R,c,d]=some (.bl (bF R fs is)):=by
 rw[mM,Yj (by rfl)];rcases Kf R c d is fs none hl with⟨h1,ρ',h2⟩|⟨h1,h2⟩
 .simp[BZ,Yd,hc,hd,h2,h1]
 .simp[BZ,Yd,hc,hd,h2,h1]
abbrev fl(n:Nat)(P:AJ):AF:=(List.range n).filter P
theorem Df(d:l.Pairwise (·<·))(h:∀x∈l,x<n):l=fl n λx=>decide (x∈l):=by
 have c:(fl n λx=>decide (x∈l)).Pairwise _:=List.pairwise_lt_range.filter _;have e:∀{m:AF},m.Pairwise (·<·)->_:=λh=>h.imp qm
 exact((List.perm_ext_iff_of_nodup (e d) (e c)).mpr λx=>by
  ext).eq_of_pairwise (λa b _ _ c f=>absurd (Nat.lt_trans c f) (Nat.lt_irrefl _)) d c
theorem ni(l:AF):c5 (l.map nD)=some (l.map λx:Nat=>(x:Int)):=by ext
theorem Dg(n:Nat)(P:AJ):(fl n P).length<=n:=by symm
theorem Kh(c:m.Nodup)(h:∀x:Int,x∈m↔∃y:Nat,y∈fl n R/\(y:Int)=x):dO m=(fl n R).map λy:Nat=>(y:Int):=by
 have d:((fl n R).map λy:Nat=>(y:Int)).Pairwise (·<=·):=by
  rw[List.pairwise_map]
  exact(List.pairwise_lt_range.filter R).imp λh=>by lia
 have b:((fl n R).map λy:Nat=>(y:Int)).Nodup:=by
  rw[List.nodup_iff_pairwise_ne,List.pairwise_map]
  exact(List.pairwise_lt_range.filter R).imp λh=>by lia
 exact W.ksm_same ((y6 m).trans ((List.perm_ext_iff_of_nodup c b).mpr λx=>by
  symm)) (gN m) d
theorem Dh(q:n<64)(P Q:AJ):pd ((fl n P).map nD) ((fl n Q).map nD)=some ((fl n λx=>P x != Q x).map nD):=by
 unfold pd;rw[ni,ni,qd,qd];generalize i:((fl n P).map _)=a;generalize t:((fl n Q).map _)=b
 have s:a.length<=n:=by symm
 have m:b.length<=n:=by symm
 have d:∀l,(ba [] l).length<=l.length:=λl=>by
  have:∀(r c:AG),(ba c r).length<=c.length+r.length:=λr=>by
   induction r with
   | nil=>intro c;simp[ba]
   | cons k r j=>
     intro c;rw[ba];symm
  symm
 have f:∀x,x∈dy a b↔∃y:Nat,y∈(fl n λx=>P x != Q x)/\y=x:=λx=>by
  rw[Hl,<-t];symm
 have h:(dy a b).length<=n:=by
  have e:=Kh (yC a b) f;have:=(y6 (dy a b)).length_eq;symm
 have g:(b.all λk=>decide (0<=k/\k<1024))=true:=by
  symm
 have o:=d a;have p:=d b;rw[if_pos ⟨by lia,by lia,by lia,by lia,g,by lia⟩,Kh (yC a b) f,Qf];rfl
abbrev bO(P:AJ)(o:Bool):D:=.tup [.tup ((fl 60 P).map nD),.bl o]
def UT(P Q:AJ)(o a:Bool):mC [bO P o,bO Q a]=some (bO (λx=>P x != Q x) (o != a)):=by
 rw[mC,Yj (by rfl)];have e:(!_)=(o != a):=rfl;have d:Yd 2 [bO P o,bO Q a]=[_,_]:=rfl;have b:Yc (bO P o)=some _:=rfl;have c:Yc (bO Q a)=some _:=rfl;rw[d];simp[IF,Dh (n:=60) (by decide) P Q,b,c,e]
abbrev Sm:=(AJ)×Bool
abbrev aP(r:Sm):D:=bO r.1 r.2
def rg(R:List Sm)(p:Nat):Sm:=R.getD p (λ_=>false,false)
def cn(R:List Sm)(ps:AF)(x:Nat):Nat:=(ps.filter λp=>decide (x∈fl 60 (rg R p).1)).length
def dB(R:List Sm)(ps:AF):Bool:=ps.foldl (λo p=>o != (rg R p).2) false
theorem UU(R:List Sm)(ps:AF)(p x:Nat):cn R (ps++[p]) x=if x∈fl 60 (rg R p).1 then cn R ps x+1 else cn R ps x:=by
 unfold cn
 split<;>ext
def UV(R:List Sm)(ps:AF)(p:Nat):dB R (ps++[p])=(dB R ps != (rg R p).2):=by
 unfold dB;rw[List.foldl_append];rfl
theorem Ki(h:∀x,x<60->P x=Q x):bO P o=bO Q o:=by
 have:=List.filter_congr λx a=>h x (Qb a);symm
def nj{R:List Sm}{p:Nat}(h:p<R.length):bj (R.map aP) (p:Int)=some (aP (rg R p)):=by
 rw[eD,eU h];simp[rg,h]
abbrev cU(R:List Sm)(ps:AF):D:=bO (λx=>decide (cn R ps x%2=1)) (dB R ps)
theorem UW(R:List Sm)(q:AF)(p:Nat):bO (λx=>decide (cn R q x%2=1)!=(rg R p).1 x) (dB R q != (rg R p).2)=cU R (q++[p]):=by
 unfold cU;rw[UV];refine Ki λx hx=>?_;rw[UU];by_cases h:(rg R p).1 x=true
 .rw[if_pos (List.mem_filter.mpr ⟨List.mem_range.mpr hx,h⟩),h]
  by_cases z:cn R q x%2=1
  .have z2:¬(cn R q x+1)%2=1:=by lia
   simp[z,z2]
  .have z2:(cn R q x+1)%2=1:=by lia
   simp[z,z2]
 .rw[if_neg λz=>h (Qc z).2]
  simp[h]
theorem Di{cp:D}{R:List Sm}{ps:AF}(hp:Yc cp=some (ps.map nD))(hlt:∀p∈ps,p<R.length):g6 [.tup [.str "sums",.tup (R.map aP)],cp]=some (cU R ps):=by
 rw[g6,Yj (by rfl)];generalize hb:D.tup [.str "sums",.tup (R.map aP)]=Bo
 have hbi:Yc Bo=some [.str "sums",.tup (R.map aP)]:=by rw[<-hb];rfl
 have h0:cU R []=.tup [.tup [],.bl false]:=by
  have:(fl 60 λx=>decide (cn R [] x%2=1))=[]:=by
   rw[List.filter_eq_nil_iff];intro x _;simp[cn]
  unfold cU bO;rw[this];rfl
 obtain⟨ρ1,e1,y3,rfl⟩:=fF (gt:=ak 3) (fb:=Bq) nD (λpre ρ=>∃y3:AS,ρ=[↑Bo,↑cp,↑(cU R pre),y3]) ps []
  [↑Bo,↑cp,↑(.tup [.tup [],.bl false]),none] ⟨none,by rw[h0]⟩ (by
   rintro q p r ρ e ⟨y3,rfl⟩;have hpl:p<R.length:=hlt p (by rw[Qj]at e;rw[e];simp);have hat:=nj hpl;have hba:=UT (λx=>decide (cn R q x%2=1)) (rg R p).1 (dB R q) (rg R p).2;rw[UW]at hba;refine⟨_,[↑Bo,↑cp,↑(cU R (q++[p])),↑(nD p)],rfl,?_,_,rfl⟩;have hpn:nD p=.int (p:Int):=rfl;rw[hpn];generalize cU R (q++[p])=T2,R.map aP=A at *;have hat':bj A (p:Int)=some (bO (rg R p).1 (rg R p).2):=hat;generalize bO (rg R p).1 (rg R p).2=S at *
   change mC [cU R q,S]=_ at hba
   generalize cU R q=T1 at *
   simp[Bq,hbi,hat',hba])
 have hst:Yd 4 [Bo,cp]=[↑Bo,↑cp,none,none]:=rfl;rw[hst];rw[Qj]at e1;generalize cU R ps=T at *;simp[IG,hp]at e1 ⊢;rw[e1];simp
def nk{l:AF}(a:l.Pairwise (·<·))(h:∀x∈l,x<60)(o:Bool):D.tup [.tup (l.map nD),.bl o]=aP (λx=>decide (x∈l),o):=by
 unfold aP bO;rw[<-Df a h]
def aK(b:Bool):D:=.str (if b=true then .ofString "keeper" else .ofString "storm")
def UX(c:Int)(n:Nat)(a:n<=1000):∃hs:AH,hs.length=n/\mY [.int c,.int n]=some (.lst (hs.map aK)):=by
 obtain⟨ev,e,d⟩:=tj c n a;refine⟨ev,e,?_⟩;rw[mY,Yj (by rfl)]
 simp[JO,Yd,d,ar,(di (fe:=CB) (r:=[]) (enc:=D.bl) aK (l:=ev) (λb _=>by
  cases b<;>simp[CB,aK]))]
def tp(a b:Bool):au false (aK a) (aK b)=some (a==b):=by
 cases a<;>cases b<;>decide +kernel
def aH(hs:AH)(st:Nat)(b:Bool):AF:=(List.range hs.length).filter λi=>decide (st<=i)&&(hs.getD i false==b)
theorem Yz(hs:AH)(h:Yc c=some (hs.map aK))(q:hs.length<=1000)(st:Nat)(n:st<=hs.length)(b:Bool):j0 [c,.int st,aK b]=some (.lst ((aH hs st b).map nD)):=by
 rw[j0,Yj (by rfl)];have g:=qG (a:=st) (n:=hs.length) ∅ ∅ ∅ ∅;rw[gW]at g
 have d:=ek (fc:=Br) (fe:=Bs) (r:=[↑c,↑(aK b)]) (enc:=λi:Nat=>D.int (st+i)) (λi=>hs.getD (st+i) false==b) (λi=>nD (st+i)) (l:=List.range ((hs.length:Int)-st).toNat) (λi p=>by
  have e:st+i<hs.length:=by symm
  have k:st+(i:Int)=((st+i:Nat)):=by lia
  have f:bj (hs.map aK) ((st+i:Nat))=some (aK (hs.getD (st+i) false)):=by
   rw[eD,eU e];simp[e]
  rw[k]
  simp only[Br,iQ,H8,HZ,qd,HQ,h,f,tp]) (λi _ _=>by simp[Bs,nD])
 have m:(((List.range ((hs.length:Int)-st).toNat).filter λi=>hs.getD (st+i) false==b).map λi=>nD (st+i))=(aH hs st b).map nD:=by
  unfold aH
  have o:List.range hs.length=List.range st++(List.range (hs.length-st)).map (st+·):=by
   rw[<-List.range_add]
   ext
  rw[o,List.filter_append,List.filter_map]
  have l:(List.range st).filter (λi=>decide (st<=i)&&(hs.getD i false==b))=[]:=by
   rw[List.filter_eq_nil_iff];symm
  rw[l,Qj];simp[wv]
 have j:((hs.length:Int)-st).toNat=hs.length-st:=by ext
 rw[m,j]at d;simp[II,Yd,h,g,ar,d]
theorem Dj{c:D}(hs:AH)(h:Yc c=some (hs.map aK))(r:hs.length<=1000)(st:Nat)(q:st<=hs.length)(b:Bool):gB [c,.int st,aK b]=some (.lst ((aH hs st b).map nD)):=by
 rw[gB,Yj (by rfl)];have g:=qG (a:=st) (n:=hs.length) ∅ ∅ ∅ ∅;rw[gW]at g
 have d:=ek (fc:=CD) (fe:=CG) (r:=[↑c,↑(aK b)]) (enc:=λi:Nat=>D.int (st+i)) (λi=>hs.getD (st+i) false==b) (λi=>nD (st+i)) (l:=List.range ((hs.length:Int)-st).toNat) (λi o=>by
  have e:st+i<hs.length:=by simp at o;lia
  have l:st+(i:Int)=((st+i:Nat)):=by lia
  have f:bj (hs.map aK) ((st+i:Nat))=some (aK (hs.getD (st+i) false)):=by
   rw[eD,eU e];simp[e]
  rw[l]
  simp only[CD,iQ,H8,HZ,qd,HQ,h,f,tp]) (λi _ _=>by simp[CG,nD])
 have k:(((List.range ((hs.length:Int)-st).toNat).filter λi=>hs.getD (st+i) false==b).map λi=>nD (st+i))=(aH hs st b).map nD:=by
  unfold aH
  have p:List.range hs.length=List.range st++(List.range (hs.length-st)).map (st+·):=by
   rw[<-List.range_add]
   congr 1
   lia
  rw[p,List.filter_append,List.filter_map]
  have m:(List.range st).filter (λi=>decide (st<=i)&&(hs.getD i false==b))=[]:=by
   rw[List.filter_eq_nil_iff];intro x j;have:=Qb j;lia
  rw[m,Qj];simp[wv]
 have n:((hs.length:Int)-st).toNat=hs.length-st:=by lia
 rw[k,n]at d;simp[JP,Yd,h,g,ar,d]
def tq(h:x∈aH hs st b):x<hs.length:=Qb (Qc h).1
abbrev Dk:D:=.tup [.str "broken"]
def cP{a b:String}(h:(Str.ofString a==Str.ofString b)=false)(neg:Bool):au neg (.str (Str.ofString a)) (.str (Str.ofString b))=some neg:=by
 rw[ej nofun nofun,HR,h];cases neg<;>rfl
def gC(a:String)(neg:Bool):au neg (.str (Str.ofString a)) (.str (Str.ofString a))=some (!neg):=by
 rw[ej nofun nofun,HR];cases neg<;>simp
def jz:AG:=(List.range 120).map λi=>pH (((i/2:Nat)),decide (i%2=1))
def tr:AG->Bool
 | []=>true
 | a::l=>!(l.contains a)&&tr l
def Dl:tr jz=true:=by decide +kernel
theorem Kj:∀{l:AG},tr l=true->l.Nodup
 | [],_=>.nil
 | a::l,h=>by
   rw[tr,Qe]at h;refine List.nodup_cons.mpr ⟨λb=>?_,Kj h.2⟩
   have:l.contains a=true:=by simpa using b
   rw[this]at h;exact Bool.noConfusion h.1
def cq(s:bh):Nat:=2*s.1+if s.2 then 1 else 0
theorem Kk(s:bh)(h:s.1<60):jz[cq s]?=some (pH ((s.1:Int),s.2)):=by
 obtain⟨b,l⟩:=s
 have a:cq (b,l)<120:=by cases l<;>simp[cq]at *<;>lia
 unfold jz;rw[Qm,List.getElem?_range a,Option.map_some];cases l
 .have e1:cq (b,false)/2=b:=by simp[cq]
  have e2:cq (b,false)%2=0:=by simp[cq]
  rw[e1,e2];rfl
 .have e1:cq (b,true)/2=b:=by simp [cq];lia
  have e2:cq (b,true)%2=1:=by simp only[cq];lia
  rw[e1,e2];rfl
def Dm{T:AG}(a:T.Nodup){i j:Nat}{x:Int}(d:T[i]?=some x)(b:T[j]?=some x):i=j:=by
 obtain⟨f,c⟩:=qo d;obtain⟨g,e⟩:=qo b;exact(List.getElem_inj a).mp (c.trans e.symm)
theorem UY{s t:bh}(h:cq s=cq t):s=t:=by
 obtain⟨b,l⟩:=s;obtain⟨c,m⟩:=t;cases l<;>cases m<;>simp[cq]at h ⊢<;>lia
def Dn{s t:bh}(hs:s.1<60)(c:t.1<60)(a:s≠t):pH ((s.1:Int),s.2)≠pH ((t.1:Int),t.2):=λe=>by
 have b:=Kk t c;rw[<-e]at b;exact a (UY (Dm (Kj Dl) (Kk s hs) b))
def Do(c:Bool)(a b:bh):au c (af a) (af b)=some (if c then !decide (a=b)else decide (a=b)):=by
 rw[ej nofun nofun,Ij]
def hJ(a:bh)(l:AZ):Option bh:=if a∈l then some ((l.filter λt=>!decide (t=a)).headD a)else none
def cV(L:AY)(s:bh):AZ:=L.filterMap (hJ (cy s))
abbrev dV(l:AZ):D:=aA (.ei l)
abbrev eX(L:AY):D:=.tup [aJ .e,.tup (L.map dV)]
theorem UZ(p:L.length<=1000)(s:bh):rA [eX L,af s]=some (.lst ((cV L s).map af)):=by
 have k:∀a,(∃r,[]++L=a++r)->(cV a s).length<1000000:=λa ⟨r,e⟩=>by
  have u:(cV a s).length<=a.length:=List.length_filterMap_le _ _
  ext<;>lia
 obtain⟨n,m,y,z,rfl⟩:=fF (gt:=ak 4) (fb:=mD) dV (λa j=>∃(y z:AS),
  j=[some _,some _,some _,some (.ow ((cV a s).map af)),y,z]) L []
  [some _,some _,↑(af (cy s)),some (.ow []),none,none] ⟨none,none,rfl⟩ (by
   rintro q l r j e ⟨y,z,rfl⟩;have f:=qP (c:=dV l) (cy s) l false rfl
   have b:cV (q++[l]) s=cV q s++(hJ (cy s) l).toList:=by
    simp only[cV];symm
   by_cases h:cy s∈l
   .have g:=ek (fc:=Bu) (fe:=Bv) (r:=[↑(af (cy s))]) (enc:=af) (λt=>!decide (t=cy s)) af (l:=l) (λx _=>by
     simp[Bu,Do]) (λx _ _=>by simp[Bv])
    have i:hJ (cy s) l=some ((l.filter λt=>!decide (t=cy s)).headD (cy s)):=by rw[hJ,if_pos h]
    rw[i]at b;generalize (l.filter _)=os at g b;have c:∀d:D,bc ((cV q s).map af) d=_:=λd=>iV (by ext);refine⟨_,_,rfl,?_,↑(dV l),some (.ow (os.map af)),rfl⟩
    cases os with
    | nil=>simp[mD,f,h,ar,g,c,b]
    | cons o os=>simp[mD,f,h,ar,g,c,b]
   .have i:hJ (cy s) l=none:=by rw[hJ,if_neg h]
    rw[i]at b;refine⟨_,_,rfl,?_,↑(dV l),z,rfl⟩
    simp[mD,f,h,b])
 rw[rA,Yj (by rfl)];simp[Bw,Yd,Ka];rw[m];constructor<;>lia
def aQ(a:AZ)(i:Nat):bh:=a.getD i (0,false)
def Dp{road:AZ}{i:Nat}(h:i<road.length):bj (road.map af) (i:Int)=some (af (aQ road i)):=by
 rw[eD,eU h];simp[aQ,h]
def nq(L:AY)(a:AZ)(i:Nat):Bool:=decide (aQ a (i+1)∈cV L (aQ a i))
def kh(L:AY)(a:AZ):Bool:=decide (0<a.length)&&(List.range (a.length-1)).all (nq L a)
theorem U0{c:D}{L:AY}(hL:L.length<=1000){road:AZ}(hc:Yc c=some (road.map af))(hl:road.length<=200):j4 [eX L,c]=some (.bl (kh L road)):=by
 rw[j4,Yj (by rfl)]
 have e:((road.length:Int)-1).toNat=road.length-1:=by lia
 have hall:=HV (gt:=ak 2) (fb:=rB) (λi:Nat=>D.int (1+(i:Nat))) (nq L road) (.bl false)
  (λρ=>∃y,ρ=[↑(eX L),↑c,y]) (List.range (road.length-1)) [↑(eX L),↑c,none] ⟨_,rfl⟩ (by
   rintro i hi ρ ⟨y,rfl⟩
   have hi':i+1<road.length:=by
    have:=Qb hi;lia
   have a1:bj (road.map af) (1+(i:Int))=some (af (aQ road (i+1))):=by
    have:=Dp hi';rw[show((i+1:Nat):Int)=1+(i:Int) by lia]at this;exact this
   have a2:bj (road.map af) (i:Int)=some (af (aQ road i)):=Dp ∅
   have hi1:1+(i:Int)-1=(i:Int):=by lia
   have hled:=UZ hL (aQ road i);have hin:cG true (af (aQ road (i+1))) (.lst ((cV L (aQ road i)).map af))=some (!nq L road i):=qP (aQ road (i+1)) (cV L (aQ road i)) true rfl;refine⟨_,rfl,?_⟩;generalize eX L=bk at *
   cases hm:nq L road i with
   | true=>exact .inl ⟨rfl,[↑bk,↑c,↑(.int (1+(i:Int)))],by simp[rB,hc,a1,a2,hi1,hled,hin,hm],_,rfl⟩
   | false=>exact .inr ⟨rfl,by simp[rB,hc,a1,a2,hi1,hled,hin,hm]⟩)
 have hr:=qG (a:=1) (n:=(road.length:Int)) ∅ ∅ (by decide) (by decide);rw[gW,e]at hr;unfold kh;generalize eX L=bk at *;rcases hall with⟨h1,ρ',e1,y,rfl⟩|⟨h1,e1⟩
 .rw[h1]
  simp[Bx,Yd,hc,hr,e1]
 .rw[h1]
  simp[Bx,Yd,hc,hr,e1]
def ey(l:AZ):bh:=aQ l (l.length-1)
theorem Kl{l:AZ}(h:0<l.length):bj (l.map af) (-1)=some (af (ey l)):=by
 have e:dZ (l.map af).length (-1)=some (l.length-1):=by
  unfold dZ;rw[qf,if_neg ∅,if_pos ∅]
  congr 1
  lia
 unfold bj;have hx:l[l.length-1]?=some (l[l.length-1]'∅):=qr _;rw[e,qd,Qm,ey,aQ,Qt,hx];rfl
def Km{l:AZ}(h:0<l.length):bj (l.map af) 0=some (af (aQ l 0)):=Dp (i:=0) h
def Dq(L:AY):Yk .e (L.map Rl.ei)=eX L:=by simp[Yk,wv]
def there(L:AY)(o k:AZ):Bool:=kh L o&&(kh L k&&(decide (ey o=aQ k 0)&&decide (ey k=aQ o 0)))
abbrev eN(x:String)(ps:AR):D:=.tup (.str (Str.ofString x)::ps)
def Dr(x:String)(l:List String):Prop:=∀y∈l,(Str.ofString x==Str.ofString y)=false
def Ds{R:List Rl}{c:D}{hs:AH}(hc:Yc c=some (hs.map aK))(hl:hs.length<=1000){st:Nat}(hst:st<=hs.length){x:String}{ps:AR}(hx:Dr x ["broken"]){d:Bool}(h:Yu [eN x ps,Yk .e R,.lst ((aH hs st true).map nD),.lst ((aH hs st false).map nD)]=some (.bl d)):Yx [eN x ps,Yk .e R,c,.int st]=some (.bl d):=by
 rw[Yx,Yo,Yj (by rfl)];have b1:=Yz hs hc hl st hst true;have b2:=Yz hs hc hl st hst false;simp[aK]at b1 b2;have e1:=cP (hx "broken" nofun) false;simp[mR,Yd,b1,b2,e1]at h ⊢;rw[h];simp
def eO(r:aS):Rl:=.im r.1 r.2
def Dt(R:List aS):(R.map eO).map aA=R.map aO:=by rw[Qf];rfl
def aV(R:List aS)(a:AG):AF:=a.map λi=>aT (bg R i)
theorem Du{R:List aS}:∀{is:AG}{fs:AF},bF R fs is=true->∀i∈is,(0<=i/\i<R.length)/\aj (bg R i).2=nD (aT (bg R i))/\∃x,(bg R i).2=some x
 | [],_,_,i,hi=>by simp at hi
 | j::is,fs,h,i,hi=>by
   rw[bF,Qe]at h;rcases qu hi with rfl|hi
   .obtain⟨h1,h2⟩:=Ke h.1
    refine⟨h1,h2,?_⟩;have:=h.1;unfold fK at this;simp only[Qe]at this;exact Option.isSome_iff_exists.mp this.2.1
   .exact Du h.2 i hi
theorem Dv{R:List aS}{n:Nat}(hR:∀r∈R,∀x,r.2=some x->x<n){is:AG}{fs:AF}(h:bF R fs is=true):∀x∈aV R is,x<n:=λx hx=>by
 obtain⟨i,hi,rfl⟩:=qy hx;obtain⟨h1,_,y,hy⟩:=Du h i hi
 have hm:bg R i∈R:=by
  unfold bg;rw[Qt,qr ∅];exact Qs _
 rw[aT,hy];exact hR _ hm y hy
def Dw{R:List aS}{is:AG}{fs:AF}(h:bF R fs is=true){fe:AW}{r:Ro}(hf:∀i∈is,(0<=i/\i<R.length)->fe (some (.sh (.int i))::r)=some (aj (bg R i).2)):
 dN (ak 0) tY fe (none::r) (is.map D.int)=some ((aV R is).map nD):=by
 rw[di (fe:=fe) (r:=r) (enc:=D.int) (λi=>nD (aT (bg R i))) (l:=is) (λi hi=>by
  obtain⟨h1,h2,_⟩:=Du h i hi
  rw[hf i hi h1,h2])]
 simp[aV,wv]
theorem U1(R:List aS){n:Nat}(hn:n<64)(hR:∀r∈R,∀x,r.2=some x->x<n){c d:D}{fs:AF}{is:AG}(hfs:∀x∈fs,x<n)(hc:Yc c=some (fs.map nD))(hd:Yc d=some (is.map D.int))(hl:fs.length+is.length<=1000)(h:bF R fs is=true):
 ∃l:AF,(∀x,x∈l↔x∈fs++aV R is)/\rV [cO R,c,d]=some (.lst (l.map nD)):=by
 have hcm:=Dw h (fe:=B0) (r:=[↑(cO R)]) (λi hi hv=>by
  have hat:=kg hv
  simp[B0,hat])
 obtain⟨l,_,hm,hs⟩:=ng hn (fs++aV R is) (λx hx=>(qw hx).elim (hfs x) (Dv hR h x)) (by simp[aV];lia);refine⟨l,hm,?_⟩;have hcat:=fG (a:=fs.map nD) (b:=(aV R is).map nD) (by simp[aV];lia);rw[Qk]at hs;rw[rV,Yj (by rfl)];generalize cO R=bk,fs.map nD=F1,(aV R is).map nD=F2 at *;simp[Jd,Yd,hc,hd,ar,hcm,hcat,hs]
theorem U2{α:Type}(f:α->D)(l:List α):bB (l.map f) none (some (-1))=l.dropLast.map f:=by
 have e:HT.sIx (l.map f).length (l.map f).length (some (-1))=l.length-1:=by
  rw[qf];unfold HT.sIx;simp;lia
 unfold bB;rw[e,HT.sIx_none];simp[List.dropLast_eq_take]
theorem U3{l:AG}(h:0<l.length):bj (l.map D.int) (-1)=some (.int (l.getD (l.length-1) 0)):=by
 have e:dZ (l.map D.int).length (-1)=some (l.length-1):=by
  unfold dZ;rw[qf,if_neg ∅,if_pos ∅]
  congr 1
  lia
 have hx:l[l.length-1]?=some (l[l.length-1]'∅):=qr _;unfold bj;rw[e,qd,Qm,Qt,hx];rfl
theorem Dx(a:Bool)(x:Nat)(b:AN):au a (.int (x:Int)) (aj b)=some (if a then !decide (some x=b)else decide (some x=b)):=by
 cases b with
 | none=>
   have:bx (.int x) .non=false:=by simp[bx,aE,PyData.eqv]
   rw[ej nofun nofun];simp[aj,this]
 | some y=>simp[aj]
theorem Kn(neg:Bool)(a b:AN):au neg (aj a) (aj b)=some (if neg then !decide (a=b)else decide (a=b)):=by
 cases a with
 | some x=>exact Dx neg x b
 | none=>
   rw[ej nofun nofun]
   cases b with
   | none=>
     have:bx .non .non=true:=by simp[bx,aE,PyData.eqv]
     simp[aj,this]
   | some y=>
     have:bx .non (.int (y:Int))=false:=by simp[bx,aE,PyData.eqv]
     simp[aj,this]
def eY(b:AN)(S:AF):AF:=S.filter λy=>!decide (some y=b)
theorem U4(S:AF)(b:AN):g7 [.lst (S.map nD),aj b]=some (.tup ((eY b S).map nD)):=by
 rw[g7,Yj (by rfl)]
 simp[BM,Yd,ar,ek (fc:=mH) (fe:=mI) (r:=[↑(aj b)]) (enc:=nD) (λy=>!decide (some y=b)) nD (l:=S) (λy _=>by
  simp[mH,Dx]) (λ_ _ _=>by simp[mI]),eY]
def gD(R:List aS)(S:AF)(b:AN)(a:AG):Bool:=match b with
 | none=>decide (a.length=0)
 | some x=>decide (x∈S)&&bF R S a
theorem U5(R:List aS){S:AF}(b:AN){is:AG}(hl:S.length+is.length<=1000):rY [aj b,.tup (is.map D.int),cO R,.lst (S.map nD)]=some (.bl (gD R S b is)):=by
 have hd:=Kg R (c:=.lst (S.map nD)) (d:=.tup (is.map D.int)) S is rfl rfl hl;rw[rY,Yj (by rfl)]
 have hlen:((is.map D.int).length:Int)=(is.length:Int):=by simp
 unfold gD
 cases b with
 | none=>
   have:((is.length:Int)=0)↔is.length=0:=by lia
   simp[B6,Yd,aj,hlen,this]
 | some x=>
   have hin:=c_ (c:=.lst (S.map nD)) x S false rfl;generalize hS:D.lst (S.map nD)=SS at *;generalize cO R=bk at *;generalize D.tup (is.map D.int)=ii at *;by_cases hx:x∈S<;>simp[B6,Yd,aj,hin,hx,hd]
def cz(R:List aS)(a:AF)(b:AN)(c:AG):AF:=match b with
 | none=>[]
 | some x=>a.filter λy=>decide (y<x)&&decide (y∈aV R c)
theorem U6(R:List aS){S Kp:AF}(b:AN){is:AG}(h:gD R S b is=true):jn [aj b,.tup (is.map D.int),cO R,.lst (Kp.map nD)]=some (.lst ((cz R Kp b is).map nD)):=by
 rw[jn,Yj (by rfl)];unfold cz
 cases b with
 | none=>simp[j6,Yd,aj]
 | some x=>
   unfold gD at h;rw[Qe]at h
   have hcm:=Dw h.2 (fe:=mN) (r:=[↑(cO R)]) (λi hi hv=>by
    have hat:=kg hv
    simp[mN,hat])
   have hc2:=ek (fc:=mO) (fe:=mP) (r:=[↑(.int (x:Int)),↑(.lst ((aV R is).map nD))]) (enc:=nD) (λy=>decide (y<x)&&decide (y∈aV R is)) nD (l:=Kp) (λy _=>by
    have hin:=c_ (c:=.lst ((aV R is).map nD)) y (aV R is) false rfl;generalize D.lst ((aV R is).map nD)=hh at *
    by_cases hy:y<x<;>simp[mO,hy,hin]) (λ_ _ _=>by simp[mP])
   have hsh:aj (some x)=.int (x:Int):=rfl;rw[hsh];generalize cO R=bk,(aV R is).map nD=hh,Kp.map nD=kk at *;have hit:Yc (.tup (is.map D.int))=some (is.map D.int):=rfl;generalize hti:D.tup (is.map D.int)=ii at *;simp[j6,Yd,hit,ar,hcm,hc2]
def nt(R:List aS)(b:AN)(a:AG)(fs:AF):Bool:=decide (0<a.length)&&(decide (0<=a.getD (a.length-1) 0/\a.getD (a.length-1) 0<R.length)&&(bF R fs a.dropLast&&(kn (bg R (a.getD (a.length-1) 0)).1 (fs++aV R a.dropLast)&&(decide ((bg R (a.getD (a.length-1) 0)).2=none)||decide ((bg R (a.getD (a.length-1) 0)).2=b)))))
theorem Dy(h:∀x,x∈ks↔x∈fs):kn b ks=kn b fs:=by
 unfold kn;symm
theorem U7(R:List aS){n:Nat}(hn:n<64)(hR:∀r∈R,∀x,r.2=some x->x<n)(b:AN){is:AG}{fs:AF}(hfs:∀x∈fs,x<n)(hl:fs.length+is.length<=1000):
 rZ [aj b,.tup (is.map D.int),cO R,.lst (fs.map nD)]=some (.bl (nt R b is fs)):=by
 rw[rZ,Yj (by rfl)]
 have hlen:((is.map D.int).length:Int)=(is.length:Int):=by simp
 unfold nt;by_cases h0:0<is.length
 .have hne:¬is=[]:=λz=>by subst z;simp at h0
  have hla:=U3 h0
  have hz:¬(is.length:Int)=0:=by lia
  have hcut:=U2 D.int is
  have hdl:is.dropLast.length<=is.length:=by simp
  have hd:=Kg R (c:=.lst (fs.map nD)) (d:=.tup (is.dropLast.map D.int)) fs is.dropLast rfl rfl ∅;generalize is.getD (is.length-1) 0=la at *;have hp:=De R la;by_cases hv:0<=la/\la<R.length
  .have hat:=kg hv
   cases hdb:bF R fs is.dropLast with
   | false=>
     rw[hdb]at hd;rw[wm hv]at hp;generalize cO R=bk,fs.map nD=FF,is.dropLast.map D.int=dd,is.map D.int=ii at *;simp[mQ,Yd,hlen,hne,hla,hp,hcut,hd]
   | true=>
     obtain⟨l,hm,hde⟩:=U1 R hn hR (c:=.lst (fs.map nD)) (d:=.tup (is.dropLast.map D.int)) hfs rfl rfl ∅ hdb;have hbk:=Kc (d:=.lst (l.map nD)) (bg R la) l rfl;rw[Dy hm]at hbk;rw[hdb]at hd;rw[wm hv]at hp
     have hin:cG false (aj (bg R la).2) (.tup [.non,aj b])=some (decide ((bg R la).2=none)||decide ((bg R la).2=b)):=by
      have q1:=Kn false none (bg R la).2;have q2:=Kn false b (bg R la).2;rw[ej nofun nofun]at q1 q2
      have q1':bx .non (aj (bg R la).2)=decide (none=(bg R la).2):=by simpa [aj]using q1
      have q2':bx (aj b) (aj (bg R la).2)=decide (b=(bg R la).2):=by simpa using q2
      rw[Ag (l:=[.non,aj b]) rfl nofun nofun];have e1:decide ((bg R la).2=none)=decide (none=(bg R la).2):=decide_eq_decide.mpr ⟨Eq.symm,Eq.symm⟩;have e2:decide ((bg R la).2=b)=decide (b=(bg R la).2):=decide_eq_decide.mpr ⟨Eq.symm,Eq.symm⟩;rw[e1,e2,<-q1',<-q2'];simp[fO]
     have hib:(Yc (cO R))=some [.str "ifs",.tup (R.map aO)]:=rfl;have hir:Yc (aO (bg R la))=some [.tup ((bg R la).1.map nD),aj (bg R la).2]:=rfl;generalize cO R=bk,kn (bg R la).1 (fs++aV R is.dropLast)=kk,l.map nD=LL,fs.map nD=FF,is.dropLast.map D.int=dd,is.map D.int=ii,aO (bg R la)=rr at *;cases kk<;>simp[mQ,Yd,hlen,hne,hla,hp,hcut,hd,hde,hib,hat,hbk,hir,hin,h0,hv.1,hv.2]
  .rw[wt hv]at hp
   generalize cO R=bk,is.map D.int=ii at *;simp[mQ,Yd,hlen,hne,hla,hp,hv]
 .have hz:is.length=0:=by lia
  have:is=[]:=List.eq_nil_of_length_eq_zero hz;subst this;simp[mQ,Yd]
def eP(R:List aS)(c S:AF)(b:AN)(a js:AG):Bool:=gD R S b a&&nt R b js (eY b S++cz R c b a)
theorem U8(R:List aS){n:Nat}(hn:n<64)(hR:∀r∈R,∀x,r.2=some x->x<n){Kp S:AF}(hK:∀x∈Kp,x<n)(hS:∀x∈S,x<n)(hKl:Kp.length<=100)(hSl:S.length<=100)(b:AN){is js:AG}(hil:is.length<=300)(hjl:js.length<=300):
 r6 [.tup [.str "lone",aj b,.tup (is.map D.int),.tup (js.map D.int)],cO R,.lst (Kp.map nD),.lst (S.map nD)]=some (.bl (eP R Kp S b is js)):=by
 have h1:=U5 R (S:=S) b (is:=is) ∅;have hw:=U4 S b;have hwl:(eY b S).length<=100:=Qg (Qn _ _) hSl
 have hfl:(cz R Kp b is).length<=100:=by
  unfold cz
  cases b with
  | none=>simp
  | some x=>exact Qg (Qn _ _) hKl
 have h3:=U7 R hn hR b (is:=js) (fs:=eY b S++cz R Kp b is) (λx hx=>by
  rcases qw hx with hx|hx
  .exact hS x (Qc hx).1
  .unfold cz at hx
   cases b with
   | none=>simp at hx
   | some y=>exact hK x (Qc hx).1) (by simp;lia)
 rw[r6,Yj (by rfl)];have a2:∀a b c d:D,bj [a,b,c,d] 2=some c:=λa b c d=>rfl;have a3:∀a b c d:D,bj [a,b,c,d] 3=some d:=λa b c d=>rfl;unfold eP
 cases hf:gD R S b is with
 | false=>
   rw[hf]at h1;generalize D.tup (is.map D.int)=ii,D.tup (js.map D.int)=jj,cO R=bk,S.map nD=SS,Kp.map nD=KK at *;simp[r0,Yd,a2,h1]
 | true=>
   have h2:=U6 R (Kp:=Kp) b hf;have hcat:=fG (a:=(eY b S).map nD) (b:=(cz R Kp b is).map nD) (by simp;lia);rw[<-Qk]at hcat;rw[hf]at h1;generalize D.tup (is.map D.int)=ii,D.tup (js.map D.int)=jj,cO R=bk,(eY b S++cz R Kp b is).map nD=WF,(eY b S).map nD=W1,(cz R Kp b is).map nD=W2,S.map nD=SS,Kp.map nD=KK at *;simp[r0,Yd,a2,a3,h1,hw,h2,hcat,h3]
theorem Dz(c:Bool)(a b:AF):au c (.lst (a.map nD)) (.lst (b.map nD))=some (if c then !decide (a=b)else decide (a=b)):=by
 have h:∀l:AF,bA (l.map nD)<=1:=λl=>Ap (λx=>by simp) l;have f:=h a;have d:=h b
 have e:bx (.lst (a.map nD)) (.lst (b.map nD))=d9 (a.map nD) (b.map nD):=by simp
 rw[ej (by simp;lia) (by simp;lia),e,Ik iW]
def ts(l:AF):Bool:=decide (l.Pairwise (·<·))
theorem Ko:∀{a b:AF},a.Pairwise (·<·)->b.Pairwise (·<·)->(∀x,x∈a↔x∈b)->a=b
 | [],[],_,_,_=>rfl
 | [],y::b,_,_,h=>absurd ((h y).mpr qh) nofun
 | x::a,[],_,_,h=>absurd ((h x).mp qh) nofun
 | x::a,y::b,d,g,h=>by
   rw[List.pairwise_cons]at d g
   have c:x=y:=by
    have f:=(h x).mp qh;have e:=(h y).mpr qh;symm
   subst c
   have:=Ko d.2 g.2 λz=>by
    symm
   rw[this]
theorem DA{l:AF}(h:∀x∈l,x<60)(g:l.length<=3700):∃a:AF,iJ (l.map nD)=some (a.map nD)/\decide (l=a)=ts l:=by
 obtain⟨a,b,c,f⟩:=ng ∅ l h ∅;refine⟨a,f,?_⟩;unfold ts;by_cases d:l.Pairwise (·<·)
 .have:=Ko d b λx=>(c x).symm
  simp[d,<-this]
 .have:¬l=a:=λe=>d (e ▸ b)
  simp[d,this]
def U9{l:AF}(h:∀x∈l,x<60)(d:l.length<=3700):rz [.tup (l.map nD)]=some (.bl (ts l)):=by
 obtain⟨c,a,e⟩:=DA h d;have b:=Dz false l c;simp [e]at b;rw[rz,Yj (by rfl)];simp[IK,Yd,a,b]
def mem_ofH{hs:AH}{st:Nat}{b:Bool}{x:Nat}:x∈aH hs st b↔x<hs.length/\st<=x/\hs.getD x false=b:=by
 unfold aH;simp
theorem Kr{α β:Type}{fe:AW}{r:Ro}{enc:α->D}{g:β->D}{P:α->β->Prop}:∀(l:List α),(∀a∈l,∃x,P a x/\fe (some (.sh (enc a))::r)=some (g x))->
 ∃R:List β,R.length=l.length/\(∀a∈l,∃x∈R,P a x)/\(∀x∈R,∃a∈l,P a x)/\dN (ak 0) tY fe (none::r) (l.map enc)=some (R.map g)
 | [],_=>⟨[],rfl,by simp,by simp,rfl⟩
 | a::l,h=>by
   obtain⟨R,h1,h2,h3,h4⟩:=Kr l λb hb=>h b (qg _ hb);obtain⟨x,p,e⟩:=h a qh;refine⟨x::R,by simp[h1],λb hb=>?_,λy hy=>?_,?_⟩
   .rcases qu hb with rfl|hb
    .exact⟨x,by simp,p⟩
    .obtain⟨y,hy,q⟩:=h2 b hb
     exact⟨y,qg _ hy,q⟩
   .rcases qu hy with rfl|hy
    .exact⟨a,by simp,p⟩
    .obtain⟨b,hb,q⟩:=h3 y hy
     exact⟨b,qg _ hb,q⟩
   .rw[Qd,Qd,dN]
    show(fe (some (.sh (enc a))::r)).bind _=_;rw[e,qd,h4];rfl
theorem U_{n:Nat}{s t:bh}(hs:s.1<n)(ht:t.1<n)(hn:n<=60):∃l:AZ,In .e n (.ei l)/\dR (.ei l)/\(∀x,x∈l↔x=s\/x=t)/\iN [af s,af t]=some (l.map af):=by
 have hp:dP [af s,af t]=some [((s.1:Int),s.2),((t.1:Int),t.2)]:=rfl;by_cases e:s=t
 .subst e
  refine⟨[s],⟨rfl,by simpa using hs⟩,⟨by simp,by simp⟩,λx=>by simp,?_⟩;unfold iN;rw[hp,qd];dsimp only;rw[if_pos rfl];rfl
 .have hne:((s.1:Int),s.2)≠((t.1:Int),t.2):=λz=>e (by
   have h1:=congrArg Prod.fst z;have h2:=congrArg Prod.snd z
   exact Prod.ext (by simpa using h1) h2)
  have hh:=Dn (s:=s) (t:=t) ∅ ∅ e;generalize hP:bX (t.1:Int) t.2 (s.1:Int) s.2=b;refine⟨if b=true then [t,s]else [s,t],⟨rfl,λx hx=>?_⟩,⟨by split<;>simp,?_⟩,λx=>?_,?_⟩
  .split at hx<;>simp at hx<;>rcases hx with rfl|rfl<;>assumption
  .obtain⟨x,p⟩:=s
   obtain⟨y,q⟩:=t;unfold bX at hP;dsimp only at hP;by_cases hxy:(y:Int)=x
   .rw[if_pos hxy]at hP
    have:x=y:=by lia
    subst this;have hpq:p≠q:=λz=>e (by rw[z]);cases p<;>cases q<;>simp at hP hpq<;>subst hP<;>simp[gn]
   .rw[if_neg hxy]at hP
    subst hP;by_cases hlt:(y:Int)<x
    .simp[hlt,gn];lia
    .simp[hlt,gn];lia
  .cases b with
   | true=>simp[or_comm]
   | false=>simp
  .unfold iN
   rw[hp,qd];dsimp only;rw[if_neg hne,if_pos hh,hP];cases b<;>rfl
def cb(s t:bh)(l:AZ):Prop:=∀x,x∈l↔x=cy s\/x=t
def Va{s t:bh}{l:AZ}(h:cb s t l):hJ (cy s) l=some t:=by
 unfold hJ;rw[if_pos ((h _).mpr (.inl rfl))]
 congr 1
 cases hf:l.filter (λx=>!decide (x=cy s))with
 | nil=>
   show cy s=t;by_cases e:t=cy s
   .exact e.symm
   .have:t∈l.filter (λx=>!decide (x=cy s)):=List.mem_filter.mpr ⟨(h t).mpr (.inr rfl),by simp[e]⟩
    rw[hf]at this;cases this
 | cons a m=>
   show a=t
   have ha:a∈l.filter (λx=>!decide (x=cy s)):=by rw[hf];exact qh
   obtain⟨g1,g2⟩:=Qc ha;rcases(h a).mp g1 with z|z
   .simp[z]at g2
   .exact z
theorem Vb{L:AY}{road:AZ}(h0:0<road.length)(h:∀i,i+1<road.length->∃l∈L,cb (aQ road i) (aQ road (i+1)) l):kh L road=true:=by
 unfold kh;rw[Qe];refine⟨wm h0,List.all_eq_true.mpr λi hi=>?_⟩;have hi':=Qb hi;obtain⟨l,hl,p⟩:=h i ∅;unfold nq;exact wm (List.mem_filterMap.mpr ⟨l,hl,Va p⟩)
def dW(ev:AH)(s:bh):Bool:=aC ev s.1==s.2
def DB{ev:AH}{s t:bh}{l:AZ}(h:cb s t l)(hl:so .e ev (.ei l)=true)(hs:dW ev s=true):dW ev t=true:=by
 have hl':(l.any λx=>aC ev x.1==x.2)=true:=hl;rw[List.any_eq_true]at hl';obtain⟨x,hx,e⟩:=hl';rcases(h x).mp hx with z|z
 .subst z
  exfalso
  revert e hs
  unfold dW;show(aC ev s.1==s.2)=true->(aC ev s.1==!s.2)=true->False;cases aC ev s.1<;>cases s.2<;>simp
 .subst z
  exact e
theorem Ks{ev:AH}{L:AY}{road:AZ}(h:∀i,i+1<road.length->∃l∈L,cb (aQ road i) (aQ road (i+1)) l)(hL:∀l∈L,so .e ev (.ei l)=true)(h0:dW ev (aQ road 0)=true):∀i,i<road.length->dW ev (aQ road i)=true
 | 0,_=>h0
 | i+1,hi=>by
   obtain⟨l,hl,p⟩:=h i hi;exact DB p (hL l hl) (Ks h hL h0 i ∅)
theorem nu{l:AF}(h:0<l.length)(v:Int):∃x∈l,az (.int v) (.int (l.length:Int))=some (.int (v%(l.length:Int)))/\bj (l.map nD) (v%(l.length:Int))=some (.int (x:Int)):=by
 have hpI:(0:Int)<(l.length:Int):=by lia
 obtain⟨y,hy,e⟩:=Ah (l:=l) (i:=v%(l.length:Int)) (Int.emod_nonneg _ ∅) (Int.emod_lt_of_pos _ hpI);exact⟨y,hy,lU hpI,by rw[eD,e];rfl⟩
inductive Ends (K S:AF):String->bh->bh->Prop
 | cross {a b:bh} (ha:a.1∈S) (hb:b.1∈S) (h:a≠b):Ends K S "cross" a b
 | late {a b:bh} (ha:a.1∈S) (hb:b.1∈K) (h:b.1<a.1):Ends K S "late" a b
 | clash {a:bh}:Ends K S "clash" a (cy a)
def DC(a:bh):a≠cy a:=λz=>by
 have:=congrArg Prod.snd z
 revert this
 show a.2=!a.2->False;cases a.2<;>simp
structure cc(n:Nat)(road:AZ)(a b:bh):Prop where
 pos:0<road.length
 few:road.length<=65
 lt:∀s∈road,s.1<n
 hd:aQ road 0=a
 tl:ey road=b
theorem DD{n:Nat}{a b:bh}{mid:AZ}(ha:a.1<n)(hb:b.1<n)(hm:∀s∈mid,s.1<n)(hl:mid.length<=63):cc n (a::mid++[b]) a b where
 pos:=by simp
 few:=by simp;lia
 lt:=λs hs=>by
  rcases qw hs with h|h
  .rcases qu h with rfl|h
   .exact ha
   .exact hm s h
  .rw[Qu]at h
   subst h;exact hb
 hd:=rfl
 tl:=by
  unfold ey aQ;simp
inductive dC (n:Nat) (K S:AF):D->AY->Prop
 | broken:dC n K S Dk []
 | cross {a b:bh}{out:AZ}{L:AY} (he:Ends K S "cross" a b) (ho:cc n out a b) (hL:∀l∈L,In .e n (.ei l)/\dR (.ei l)) (hl:L.length<=200) (hk:∀i,i+1<out.length->∃l∈L,cb (aQ out i) (aQ out (i+1)) l):dC n K S (eN "cross" [.tup (out.map af)]) L
 | both {w:String}{a b:bh}{out back:AZ}{L:AY} (hw:w≠"cross") (he:Ends K S w a b) (ho:cc n out a b) (hb:cc n back b a) (hL:∀l∈L,In .e n (.ei l)/\dR (.ei l)) (hl:L.length<=200) (hk:∀i,i+1<out.length->∃l∈L,cb (aQ out i) (aQ out (i+1)) l) (hk2:∀i,i+1<back.length->∃l∈L,cb (aQ back i) (aQ back (i+1)) l):dC n K S (eN w [.tup (out.map af),.tup (back.map af)]) L
def gE(st:Nat):Rl->Rl
 | .ei l=>.ei (l.map λs=>(st+s.1,s.2))
 | .su b o=>.su (b.map (st+·)) o
 | .im b h=>.im (b.map (st+·)) (h.map (st+·))
theorem DE{k:Kd}{st n:Nat}(hst:st<=n){r:Rl}(h:In k (n-st) r)(hs:dR r):In k n (gE st r)/\dR (gE st r):=by
 cases r with
 | ei l=>
   refine⟨⟨h.1,λs hm=>?_⟩,⟨by simpa using hs.1,?_⟩⟩
   .obtain⟨t,ht,rfl⟩:=qy hm
    have:=h.2 t ht;show st+t.1<n;lia
   .rw[List.pairwise_map]
    exact hs.2.imp λ{a b} hab=>by
     rcases hab with h|⟨h1,h2,h3⟩
     .exact .inl (show st+a.1<st+b.1 by lia)
     .exact .inr ⟨show st+a.1=st+b.1 by lia,h2,h3⟩
 | su b o=>
   refine⟨⟨h.1,λx hm=>?_⟩,?_⟩
   .obtain⟨t,ht,rfl⟩:=qy hm
    have:=h.2 t ht;lia
   .show(b.map (st+·)).Pairwise (·<·)
    rw[List.pairwise_map];exact List.Pairwise.imp (λ{a b} hab=>by lia) (show b.Pairwise (·<·) from hs)
 | im b o=>
   refine⟨⟨h.1,λx hm=>?_,λx hx=>?_⟩,?_⟩
   .obtain⟨t,ht,rfl⟩:=qy hm
    have:=h.2.1 t ht;lia
   .cases o with
    | none=>cases hx
    | some y=>
      cases hx;have:=h.2.2 y rfl;show st+y<n;lia
   .show(b.map (st+·)).Pairwise (·<·)
    rw[List.pairwise_map];exact List.Pairwise.imp (λ{a b} hab=>by lia) (show b.Pairwise (·<·) from hs)
theorem Vc{k:Kd}{m:Nat}{r:Rl}(h:In k m r)(st:Nat):sN [aJ k,aA r,.int st]=some (aA (gE st r)):=by
 have hkE:au false (aJ k) (.str "eithers")=some (decide (k=.e)):=by
  have e:D.str "eithers"=aJ .e:=rfl;rw[e,ej nofun nofun,md];rfl
 have hkS:au false (aJ k) (.str "sums")=some (decide (k=.s)):=by
  have e:D.str "sums"=aJ .s:=rfl;rw[e,ej nofun nofun,md];rfl
 rw[sN,Yj (by rfl)]
 cases r with
 | ei l=>
   have hc:=di (fe:=CI) (r:=[↑(.int (st:Int))]) (enc:=af) (λs=>af (st+s.1,s.2)) (l:=l) (λs _=>by
    have hi:Yc (af s)=some [.int s.1,.bl s.2]:=rfl
    have hs2:af (st+s.1,s.2)=.tup [.int ((st:Int)+(s.1:Int)),.bl s.2]:=by
     show D.tup [.int ((st+s.1:Nat):Int),.bl s.2]=_;rw[show((st+s.1:Nat):Int)=(st:Int)+(s.1:Int) by lia]
    rw[hs2];generalize af s=ss at *
    simp[CI,hi])
   have hm:aA (gE st (.ei l))=.tup (l.map λs=>af (st+s.1,s.2)):=by
    show D.tup ((l.map λs=>((st+s.1,s.2):bh)).map af)=_;rw[Qf];rfl
   have hk:=h.1;subst hk;simp only[decide_true]at hkE;have hit:Yc (aA (.ei l))=some (l.map af):=rfl;rw[hm];generalize aJ .e=kd,(l.map λs=>af (st+s.1,s.2))=LL,aA (.ei l)=rr,l.map af=L1 at *;simp[m7,Yd,hkE,hit,ar,hc]
 | su b o=>
   have hc:=di (fe:=m5) (r:=[↑(.int (st:Int))]) (enc:=nD) (λx=>nD (st+x)) (l:=b) (λx _=>by
    have e:nD (st+x)=.int ((st:Int)+(x:Int)):=by
     show D.int ((st+x:Nat):Int)=_;rw[show((st+x:Nat):Int)=(st:Int)+(x:Int) by lia]
    rw[e]
    simp[m5])
   have hm:aA (gE st (.su b o))=.tup [.tup (b.map λx=>nD (st+x)),.bl o]:=by
    show D.tup [.tup ((b.map (st+·)).map nD),.bl o]=_;rw[Qf];rfl
   have hk:=h.1;subst hk;simp only[decide_true]at hkS;have hkE':au false (aJ .s) (.str "eithers")=some false:=hkE;have hit:Yc (aA (.su b o))=some [.tup (b.map nD),.bl o]:=rfl;rw[hm];clear hkE;generalize aJ .s=kd,(b.map λx=>nD (st+x))=LL,aA (.su b o)=rr,b.map nD=L1 at *;simp[m7,Yd,hkE',hkS,hit,ar,hc]
 | im b o=>
   have hc:=di (fe:=m5) (r:=[↑(.int (st:Int))]) (enc:=nD) (λx=>nD (st+x)) (l:=b) (λx _=>by
    have e:nD (st+x)=.int ((st:Int)+(x:Int)):=by
     show D.int ((st+x:Nat):Int)=_;rw[show((st+x:Nat):Int)=(st:Int)+(x:Int) by lia]
    rw[e]
    simp[m5])
   have hm:aA (gE st (.im b o))=.tup [.tup (b.map λx=>nD (st+x)),aj (o.map (st+·))]:=by
    show D.tup [.tup ((b.map (st+·)).map nD),aj (o.map (st+·))]=_;rw[Qf];rfl
   have hke:¬k=.e:=by rcases h.1 with rfl|rfl<;>decide
   have hks:¬k=.s:=by rcases h.1 with rfl|rfl<;>decide
   simp only[hke,decide_false]at hkE;simp only[hks,decide_false]at hkS;have hit:Yc (aA (.im b o))=some [.tup (b.map nD),aj o]:=rfl;rw[hm]
   cases o with
   | none=>
     have ho:aj none=.non:=rfl;rw[ho]at hit;show _=some (D.tup [.tup (b.map λx=>nD (st+x)),.non]);generalize aJ k=kd,(b.map λx=>nD (st+x))=LL,aA (.im b none)=rr,b.map nD=L1 at *;simp[m7,Yd,hkE,hkS,hit,ar,hc]
   | some y=>
     have ho:aj (some y)=.int (y:Int):=rfl;rw[ho]at hit
     have ho2:aj ((some y).map (st+·))=.int ((st:Int)+(y:Int)):=by
      show D.int ((st+y:Nat):Int)=_;rw[show((st+y:Nat):Int)=(st:Int)+(y:Int) by lia]
     rw[ho2];generalize aJ k=kd,(b.map λx=>nD (st+x))=LL,aA (.im b (some y))=rr,b.map nD=L1 at *;simp[m7,Yd,hkE,hkS,hit,ar,hc]
def DF{k:Kd}:au false (aJ k) (.str "ifs")=some (decide (k=.i)):=by
 have h:D.str "ifs"=aJ .i:=rfl;rw[h,ej nofun nofun,md];rfl
def dX(out:AZ)(ev:AH):Bool:=if ev.length=(aQ out 0).1 then (aQ out 0).2 else if ev.length=(ey out).1 then !(ey out).2 else false
theorem Vd{out:AZ}(h0:0<out.length)(ev:AH):sd [.tup (out.map af),.tup (ev.map D.bl)]=some (.bl (dX out ev)):=by
 have a1:=Km h0;have a2:=Kl h0;have i1:Yc (af (aQ out 0))=some [.int (aQ out 0).1,.bl (aQ out 0).2]:=rfl;have i2:Yc (af (ey out))=some [.int (ey out).1,.bl (ey out).2]:=rfl
 have hlen:((ev.map D.bl).length:Int)=(ev.length:Int):=by simp
 rw[sd,Yj (by rfl)];unfold dX;generalize af (aQ out 0)=s1,af (ey out)=s2,out.map af=OO,ev.map D.bl=EE at *;by_cases d1:ev.length=(aQ out 0).1
 .simp[r_,Yd,hlen,a1,i1,d1]
 .by_cases d2:ev.length=(ey out).1
  .have d3:¬(ey out).1=(aQ out 0).1:=by rw[<-d2];exact d1
   rw[if_neg d1,if_pos d2];simp[r_,Yd,hlen,a1,a2,i1,i2,d2,d3]
  .simp[r_,Yd,hlen,a1,a2,i1,i2,d1,d2]
theorem Ve{out:AZ}(h0:0<out.length)(k:Kd)(R:List Rl)(c s:D)(ev:AH):gA [eN "cross" [.tup (out.map af)],Yk k R,c,s,.tup (ev.map D.bl)]=some (.bl (dX out ev)):=by
 have h:=Vd h0 ev;have hpi:Yc (eN "cross" [.tup (out.map af)])=some [.str "cross",.tup (out.map af)]:=rfl;have hbi:Yc (Yk k R)=some [aJ k,.tup (R.map aA)]:=rfl;have hk:=DF (k:=k);have e1:=cP (a:="cross") (b:="plan") (by decide +kernel) false;have e2:=cP (a:="cross") (b:="sums") (by decide +kernel) false;have e3:=cP (a:="cross") (b:="rows") (by decide +kernel) false;have e4:=gC "cross" false;simp only[Bool.not_false]at e4;rw[gA,Yj (by rfl)];generalize eN "cross" [.tup (out.map af)]=pp,Yk k R=bk,decide (k=.i)=w,aJ k=kd,dX out ev=du,out.map af=OO,ev.map D.bl=EE,R.map aA=RL at *;simp[sj,Yd,hpi,hbi,hk,e1,e2,e3,e4,h]
def Ends.crossed{K S:AF}{w:String}{a b:bh}(h:Ends K S w a b)(hw:w="cross"):a.1∈S/\b.1∈S/\a≠b:=by
 cases h with
 | cross ha hb h=>exact⟨ha,hb,h⟩
 | late=>exact absurd hw (by decide)
 | clash=>exact absurd hw (by decide)
theorem Vf{n:Nat}{L:AY}(hL:L.length<=1000){K S:AF}{a b:bh}(he:Ends K S "cross" a b){out:AZ}(ho:cc n out a b)(hk:∀i,i+1<out.length->∃l∈L,cb (aQ out i) (aQ out (i+1)) l):
 Yu [eN "cross" [.tup (out.map af)],eX L,.lst (K.map nD),.lst (S.map nD)]=some (.bl true):=by
 have hr:=U0 hL (c:=.tup (out.map af)) rfl (by have:=ho.few;lia);rw[Vb ho.pos hk]at hr;have a1:=Km ho.pos;have a2:=Kl ho.pos;rw[ho.hd]at a1;rw[ho.tl]at a2;obtain⟨ha,hb,hne⟩:a.1∈S/\b.1∈S/\a≠b:=he.crossed rfl;have hq:=Do false a b;simp only[hne,decide_false,Qo,if_false]at hq;have i1:Yc (af a)=some [.int a.1,.bl a.2]:=rfl;have i2:Yc (af b)=some [.int b.1,.bl b.2]:=rfl;have n1:=c_ (c:=.lst (S.map nD)) a.1 S false rfl;have n2:=c_ (c:=.lst (S.map nD)) b.1 S false rfl;simp only[nD,ha,hb,decide_true,Qo,if_false]at n1 n2
 have hg:rW [.tup (out.map af),eX L,.lst (S.map nD)]=some (.bl true):=by
  rw[rW,Yj (by rfl)];generalize eX L=bk,af a=sa,af b=sb,out.map af=OO,S.map nD=SS at *;simp[Jh,Yd,hr,a1,a2,hq,i1,i2,n1,n2]
 have e1:=cP (a:="cross") (b:="clash") (by decide +kernel) false;have e2:=gC "cross" false;simp only[Bool.not_false]at e2;have hpi:Yc (eN "cross" [.tup (out.map af)])=some [.str "cross",.tup (out.map af)]:=rfl;rw[Yu,Yj (by rfl)];generalize eN "cross" [.tup (out.map af)]=pp,eX L=bk,out.map af=OO,S.map nD=SS,K.map nD=KK at *;simp[Jr,Yd,hpi,e1,e2,hg]
def DG(road:AZ):ey road=aQ road (road.length-1):=rfl
theorem Vg{n:Nat}{L:AY}{K S:AF}{a b:bh}(he:Ends K S "cross" a b){out:AZ}(ho:cc n out a b)(hk:∀i,i+1<out.length->∃l∈L,cb (aQ out i) (aQ out (i+1)) l){ev:AH}(hS:∀x∈S,x<ev.length)(hev:∀x∈S,aC ev x=dX out (ev.take x)):¬∀l∈L,so .e ev (.ei l)=true:=λhall=>by
 obtain⟨ha,hb,hne⟩:a.1∈S/\b.1∈S/\a≠b:=he.crossed rfl
 have h1:dW ev a=true:=by
  unfold dW;rw[hev a.1 ha];unfold dX;have:=hS a.1 ha;rw[ho.hd,if_pos (by rw[List.length_take];lia)];simp
 have h2:=Ks hk hall (by rw[ho.hd];exact h1) (out.length-1) (by have:=ho.pos;lia);rw[<-DG,ho.tl]at h2
 revert h2
 unfold dW;rw[hev b.1 hb];unfold dX;have:=hS b.1 hb;rw[ho.hd,ho.tl]
 have hl:(ev.take b.1).length=b.1:=by rw[List.length_take];lia
 rw[hl];by_cases e:b.1=a.1
 .rw[if_pos e]
  intro h2;exact hne (Prod.ext e.symm (by simpa using h2))
 .rw[if_neg e,if_pos rfl]
  cases b.2<;>simp
def od(l:AF)(E:AJ):Bool:=decide ((l.filter E).length%2=1)
theorem DH(a:Nat)(l:AF)(E:AJ):od (a::l) E=(E a != od l E):=by
 unfold od;symm
def Vh(h:∀x∈l,E x=F x):od l E=od l F:=by
 unfold od;rw[List.filter_congr h]
theorem Kt(h:∀x∈l,E x=false):od l E=false:=by
 unfold od;rw[List.filter_eq_nil_iff.mpr λx a=>by symm];rfl
def xr(T E:AJ):Bool:=od (.range 60) (λx=>T x&&E x)
theorem Ku(f g:AJ):∀l:AF,od l (λx=>f x != g x)=(od l f != od l g)
 | []=>rfl
 | a::l=>by
   rw[DH,DH,DH,Ku f g l];cases f a<;>cases g a<;>cases od l f<;>cases od l g<;>rfl
theorem DI(T S E:AJ):xr (λx=>T x != S x) E=(xr T E != xr S E):=by
 unfold xr;rw[<-Ku];symm
theorem nv(f E:AJ):od (fl 60 f) E=xr f E:=by
 unfold od xr od fl;rw[List.filter_filter];symm
def bP{α:Type}(Q:List α)(f:α->Bool):Bool:=decide ((Q.filter f).length%2=1)
theorem jA{α:Type}(a:α)(l:List α)(E:α->Bool):bP (a::l) E=(E a != bP l E):=by
 unfold bP;rw[List.filter_cons]
 cases E a with
 | false=>
   rw[if_neg nofun];cases decide ((l.filter E).length%2=1)<;>rfl
 | true=>
   rw[if_pos rfl,qt];by_cases h:(l.filter E).length%2=1
   .have h2:¬((l.filter E).length+1)%2=1:=by lia
    simp[h,h2]
   .have h2:((l.filter E).length+1)%2=1:=by lia
    simp[h,h2]
theorem DJ{α:Type}(E:α->Bool)(b:List α):∀a:List α,bP (a++b) E=(bP a E != bP b E)
 | []=>by
   show bP b E=(false != bP b E);cases bP b E<;>rfl
 | x::a=>by
   rw[List.cons_append,jA,jA,DJ E b a];cases E x<;>cases bP a E<;>cases bP b E<;>rfl
def aR(Q:List Sm)(x:Nat):Bool:=bP Q (λq=>q.1 x)
def a_(Q:List Sm):Bool:=bP Q (·.2)
theorem Kv{ev:AJ}:∀{Q:List Sm},(∀q∈Q,xr q.1 ev=q.2)->xr (aR Q) ev=a_ Q
 | [],_=>Kt λx _=>by simp[aR,bP]
 | q::Q,h=>by
   have e:aR (q::Q)=λx=>q.1 x != aR Q x:=funext λx=>jA _ _ _;have e2:a_ (q::Q)=(q.2 != a_ Q):=jA _ _ _;rw[e,e2,DI,h q qh,Kv λx hx=>h x (qg _ hx)]
theorem DK{l:AF}(b:l.Nodup)(h:∀x∈l,x<60):l.length<=60:=by
 have c:l.Perm (fl 60 λx=>decide (x∈l)):=(List.perm_ext_iff_of_nodup b (List.nodup_range.filter _)).mpr λx=>by
  rw[Ql,List.mem_range];exact⟨λa=>⟨h x a,by simpa using a⟩,λa=>by simpa using a.2⟩
 rw[c.length_eq];exact Qg (Qn _ _) nofun
def Vi(R:List Sm)(ps:AF){x:Nat}(hx:x<60):decide (cn R ps x%2=1)=aR (ps.map (rg R)) x:=by
 unfold cn aR bP;rw[List.filter_map,qf]
 have e:ps.filter (λp=>decide (x∈fl 60 (rg R p).1))=ps.filter ((λq:Sm=>q.1 x) ∘ rg R):=List.filter_congr λp _=>by
  show decide (x∈fl 60 (rg R p).1)=(rg R p).1 x
  have h:x∈fl 60 (rg R p).1↔(rg R p).1 x=true:=by
   show x∈(List.range 60).filter (rg R p).1↔_;rw[Ql,List.mem_range];exact⟨λh=>h.2,λh=>⟨hx,h⟩⟩
  by_cases z:x∈fl 60 (rg R p).1
  .rw[wm z,h.mp z]
  .rw[wt z]
   cases hq:(rg R p).1 x with
   | false=>rfl
   | true=>exact absurd (h.mpr hq) z
 rw[e]
theorem Kw(R:List Sm):∀(ps:AF) (o:Bool),ps.foldl (λo p=>o != (rg R p).2) o=(o != a_ (ps.map (rg R)))
 | [],o=>by cases o<;>rfl
 | p::ps,o=>by
   rw[List.foldl_cons,Kw R ps,Qd];have e:a_ (rg R p::ps.map (rg R))=((rg R p).2 != a_ (ps.map (rg R))):=jA _ _ _;rw[e];cases o<;>cases (rg R p).2<;>cases a_ (ps.map (rg R))<;>rfl
def Kx{R:List Sm}{ps:AF}{cp:D}(hp:Yc cp=some (ps.map nD))(hlt:∀p∈ps,p<R.length):g6 [.tup [.str "sums",.tup (R.map aP)],cp]=some (aP (aR (ps.map (rg R)),a_ (ps.map (rg R)))):=by
 rw[Di hp hlt]
 congr 1
 have e:dB R ps=a_ (ps.map (rg R)):=by
  unfold dB;rw[Kw];cases a_ (ps.map (rg R))<;>rfl
 show bO _ (dB R ps)=bO _ _;rw[e];exact Ki λx hx=>Vi R ps hx
def nz{R:List Sm}{p:Nat}(h:p<R.length):rg R p∈R:=by
 unfold rg;rw[Qt,qr h];exact Qs h
def DL{R:List Sm}{q:Sm}{p:Nat}(h:p<R.length):rg (R++[q]) p=rg R p:=by
 unfold rg;rw[Qt,Qt,List.getElem?_append_left h]
def DM(R:List Sm)(q:Sm):rg (R++[q]) R.length=q:=by
 unfold rg;simp
structure dj(n:Nat)(S:AF)(R:List Sm)(ps:AF):Prop where
 bd:∀q∈R,∀x,q.1 x=true->x<n
 pw:ps.Pairwise (·<·)
 lt:∀p∈ps,p<R.length
 few:R.length<=60
 tot:((∀x,x<60->aR (ps.map (rg R)) x=false)/\a_ (ps.map (rg R))=true)\/∃l∈S,aR (ps.map (rg R)) l=true/\∀x,l<x->x<60->aR (ps.map (rg R)) x=false
def Ky{R:List Sm}{ps:AF}(hlt:∀p∈ps,p<R.length)(q:Sm):(ps++[R.length]).map (rg (R++[q]))=ps.map (rg R)++[q]:=by
 rw[Qk,Qd,List.map_nil,DM]
 congr 1
 exact Qq λp hp=>DL (hlt p hp)
def Kz(Q:List Sm)(q:Sm)(x:Nat):aR (Q++[q]) x=(aR Q x != q.1 x):=by
 unfold aR;rw[DJ,jA];show(_ != (q.1 x != false))=_;cases q.1 x<;>cases bP Q (λq=>q.1 x)<;>rfl
def KA{Q:List Sm}{x:Nat}(h:∀q∈Q,q.1 x=false):aR Q x=false:=by
 unfold aR bP;rw[List.filter_eq_nil_iff.mpr λq hq=>by rw[h q hq];exact qi];rfl
def DN{ps:AF}{m:Nat}(hp:ps.Pairwise (·<·))(hlt:∀p∈ps,p<m):(ps++[m]).Pairwise (·<·):=by
 rw[List.pairwise_append];exact⟨hp,by simp,λa ha b hb=>by rw[Qu]at hb;subst hb;exact hlt a ha⟩
def DO(q:Sm):Yc (aP q)=some [.tup ((fl 60 q.1).map nD),.bl q.2]:=rfl
theorem KC{f:AJ}{l:Nat}(hl:l<60)(h1:f l=true)(h2:∀x,l<x->x<60->f x=false):∃F:AF,fl 60 f=F++[l]/\∀x∈F,x<l:=by
 have hr:List.range 60=List.range l++l::(List.range (60-l-1)).map (l+1+·):=by
  have e:60=l+(1+(60-l-1)):=by lia
  rw[show List.range 60=List.range (l+(1+(60-l-1))) by rw[<-e],List.range_add,List.range_add];simp[wv,Nat.add_assoc]
 refine⟨(List.range l).filter f,?_,λx hx=>Qb (Qc hx).1⟩;show(List.range 60).filter f=_;rw[hr,List.filter_append,List.filter_cons,if_pos h1]
 congr 2
 rw[List.filter_eq_nil_iff];intro x hx;obtain⟨i,hi,rfl⟩:=qy hx;have:=Qb hi;rw[h2 _ ∅ ∅];exact qi
abbrev de(R:List Sm):D:=.tup [.str "sums",.tup (R.map aP)]
theorem Vj(R:List Sm)(i:Nat)(h:i<R.length):g8 [de R,.int (i:Int)]=some (.bl true):=by
 rw[g8,Yj (by rfl)]
 have hlen:((R.map aP).length:Int)=(R.length:Int):=by simp
 have h1:(0:Int)<=(i:Int):=by lia
 have h2:(i:Int)<(R.length:Int):=by lia
 generalize R.map aP=RR at *;simp[BW,Yd,hlen,h,h1,h2]
theorem DP{l:AF}(x:Nat):bj ((l++[x]).map nD) (-1)=some (.int (x:Int)):=by
 unfold bj dZ;rw[qf,if_neg ∅,if_pos (by simp;lia)];simp
 have e:(-1+((l.length:Int)+1)).toNat=l.length:=by lia
 rw[e];simp
theorem Vk{n:Nat}{S:AF}{R:List Sm}{ps:AF}(h:dj n S R ps)(hS:∀x∈S,x<60):rX [.tup (ps.map nD),de R,.lst (S.map nD)]=some (.bl true):=by
 have hps60:∀x∈ps,x<60:=λx hx=>by have:=h.lt x hx;have:=h.few;lia
 have hpl:ps.length<=3700:=by
  have:=DK (h.pw.imp λhab=>qm hab) hps60;lia
 have hri:=U9 hps60 hpl;have hr1:ts ps=true:=wm h.pw;rw[hr1]at hri
 have hc:=di (fe:=B4) (r:=[↑(de R)]) (enc:=nD) (λ_=>.bl true) (l:=ps) (λp hp=>by
  have hpl:=Vj R p (h.lt p hp);generalize de R=bk at *
  simp[B4,hpl])
 have hb:bE (ps.map λ_=>D.bl true)=some (ps.map λ_=>true):=l6 _ _
 have hall:(ps.map λ_=>true).all id=true:=by rw[List.all_map];exact List.all_eq_true.mpr λ_ _=>rfl
 have hadd:g6 [de R,.tup (ps.map nD)]=some (aP (aR (ps.map (rg R)),a_ (ps.map (rg R)))):=Kx rfl h.lt;rw[rX,Yj (by rfl)];have hst:Yd 4 [.tup (ps.map nD),de R,.lst (S.map nD)]=[↑(.tup (ps.map nD)),↑(de R),↑(.lst (S.map nD)),none]:=rfl;rw[hst];have hsi:=DO (aR (ps.map (rg R)),a_ (ps.map (rg R)));have hbi:Yc (de R)=some [.str "sums",.tup (R.map aP)]:=rfl;rcases h.tot with⟨t1,t2⟩|⟨l,hl,t1,t2⟩
 .have hfl:fl 60 (aR (ps.map (rg R)))=[]:=by
   show(List.range 60).filter _=[];rw[List.filter_eq_nil_iff];intro x hx;rw[t1 x (Qb hx)];exact qi
  have hv:=UO (k:=.s) (n:=60) (r:=.su [] true) ⟨rfl,by simp⟩ (by decide)
  have hsv:aP (aR (ps.map (rg R)),a_ (ps.map (rg R)))=aA (.su [] true):=by
   show D.tup [.tup ((fl 60 (aR (ps.map (rg R)))).map nD),.bl (a_ (ps.map (rg R)))]=_;rw[hfl,t2];rfl
  have hvt:bx (aA (.su [] true)) (aA (vd .s))=true:=by decide +kernel
  rw[hvt]at hv;have hks:aJ .s=.str "sums":=rfl;rw[hks]at hv;rw[hsv]at hadd hsi;dsimp only at hsi;rw[hfl,List.map_nil,t2]at hsi;generalize aA (.su [] true)=vr at *;clear hsv;generalize (ps.map λ_=>true)=B1,(ps.map λ_=>D.bl true)=B2,ps.map nD=PP,de R=bk,R.map aP=RR,S.map nD=SS at *;simp[B5,hri,ar,hc,hb,hall,hadd,hsi,hbi,hv]
 .obtain⟨F,hF,_⟩:=KC (hS l hl) t1 t2
  have ha:=DP (l:=F) l;have n1:=c_ (c:=.lst (S.map nD)) l S false rfl;simp only[nD,hl,decide_true,Qo,if_false]at n1;dsimp only at hsi;rw[hF]at hsi
  have htr:aN (.tup ((F++[l]).map nD))=some true:=by simp
  generalize aP (aR (ps.map (rg R)),a_ (ps.map (rg R)))=wh at *;generalize a_ (ps.map (rg R))=oo at *;generalize (F++[l]).map nD=FF,(ps.map λ_=>true)=B1,(ps.map λ_=>D.bl true)=B2,ps.map nD=PP,de R=bk,S.map nD=SS at *;simp[B5,hri,ar,hc,hb,hall,hadd,hsi,ha,n1,htr]
def dg(Q:List Sm)(ev:AH):Bool:=decide ((fl 60 (aR Q)).getLast?=some ev.length)&&(od ((fl 60 (aR Q)).dropLast) (aC ev)==a_ Q)
theorem DQ{n:Nat}{S:AF}{R:List Sm}{ps:AF}(h:dj n S R ps){ev:AH}(hS:∀x∈S,x<ev.length/\x<60)(hev:∀x∈S,aC ev x=dg (ps.map (rg R)) (ev.take x)):¬∀q∈R,so .s ev (.su (fl 60 q.1) q.2)=true:=λhall=>by
 have hq:∀q∈ps.map (rg R),xr q.1 (aC ev)=q.2:=λq hq=>by
  obtain⟨p,hp,rfl⟩:=qy hq;have hz:(od (fl 60 (rg R p).1) (aC ev)==(rg R p).2)=true:=hall _ (nz (h.lt p hp));rw[<-nv];simpa using hz
 have ht:=Kv hq;rcases h.tot with⟨t1,t2⟩|⟨l,hl,t1,t2⟩
 .rw[t2]at ht
  have:xr (aR (ps.map (rg R))) (aC ev)=false:=Kt λx hx=>by rw[t1 x (Qb hx)];rfl
  rw[this]at ht;cases ht
 .obtain⟨F,hF,hlt⟩:=KC (hS l hl).2 t1 t2
  have h1:=hev l hl;have h2:=(hS l hl).1
  have hlen:(ev.take l).length=l:=by rw[List.length_take];lia
  unfold dg at h1;rw[hF,hlen]at h1;rw[<-nv,hF]at ht
  have e1:od (F++[l]) (aC ev)=(od F (aC ev)!=aC ev l):=by
   have:=DJ (aC ev) [l] F
   have e2:bP [l] (aC ev)=aC ev l:=by
    rw[jA];show(aC ev l != false)=_;cases aC ev l<;>rfl
   rw[e2]at this;exact this
  have e3:od F (aC (ev.take l))=od F (aC ev):=Vh λx hx=>by
   have:=hlt x hx;unfold aC;simp[this]
  simp only[List.getLast?_append,List.getLast?_singleton,Option.some_or,decide_true,Bool.true_and,List.dropLast_concat,e3]at h1;rw[e1,h1]at ht
  revert ht
  cases od F (aC ev)<;>cases a_ (ps.map (rg R))<;>simp
theorem Vl(f:AJ):fl 60 f=[]\/∃(F:AF) (l:Nat),fl 60 f=F++[l]/\∀x∈F,x<l:=by
 have hp:(fl 60 f).Pairwise (·<·):=List.Pairwise.filter _ List.pairwise_lt_range;generalize fl 60 f=L at *
 cases h:L.reverse with
 | nil=>exact .inl (by simpa using h)
 | cons l F=>
   have e:L=F.reverse++[l]:=by
    have:=congrArg List.reverse h;simpa using this
   subst e;rw[List.pairwise_append]at hp;exact .inr ⟨F.reverse,l,rfl,λx hx=>hp.2.2 x hx l nofun⟩
def DR{Q:List Sm}(h:fl 60 (aR Q)=[])(ev:AH):dg Q ev=false:=by
 unfold dg;rw[h];rfl
def Vm{Q:List Sm}{F:AF}{l:Nat}(h:fl 60 (aR Q)=F++[l])(ev:AH):dg Q ev=(decide (l=ev.length)&&(od F (aC ev)==a_ Q)):=by
 unfold dg;rw[h];simp
theorem Vn{b:AF}{ev:AH}(h:∀x∈b,x<ev.length):r9 [.tup (b.map nD),.tup (ev.map D.bl)]=some (.bl (od b (aC ev))):=by
 have hc:=ek (fc:=B7) (fe:=B8) (r:=[↑(.tup (ev.map D.bl))]) (enc:=nD) (aC ev) nD (l:=b) (λx hx=>by
  have ha:=fR (h x hx);generalize aC ev x=av,ev.map D.bl=EE at *
  simp[B7,ha]) (λx _ _=>by simp[B8])
 have hlen:(((b.filter (aC ev)).map nD).length:Int)=((b.filter (aC ev)).length:Int):=by simp
 rw[r9,Yj (by rfl)];unfold od;generalize b.filter (aC ev)=F at *
 have hd:decide (((F.length:Nat):Int)%2=1)=decide (F.length%2=1):=by
  by_cases z:F.length%2=1
  .have:((F.length:Nat):Int)%2=1:=by lia
   simp[z,this]
  .have:¬((F.length:Nat):Int)%2=1:=by lia
   simp[z,this]
 rw[<-hd];generalize F.map nD=FF,b.map nD=BB,ev.map D.bl=EE at *;simp[Jt,Yd,ar,hc,hlen]
theorem Vo{α:Type}(f:α->D)(l:List α):bB (l.map f) none (some (-1))=l.dropLast.map f:=by
 have e:HT.sIx (l.map f).length (l.map f).length (some (-1))=l.length-1:=by
  rw[qf];unfold HT.sIx;simp;lia
 unfold bB;rw[e,HT.sIx_none];simp[List.dropLast_eq_take]
def Vp(F:AF)(l:Nat):bB ((F++[l]).map nD) none (some (-1))=F.map nD:=by
 rw[Vo,List.dropLast_concat]
theorem Vq(Q:List Sm)(ev:AH):sg [aP (aR Q,a_ Q),.tup (ev.map D.bl)]=some (.bl (dg Q ev)):=by
 have hsi:=DO (aR Q,a_ Q);dsimp only at hsi
 have hlen:((ev.map D.bl).length:Int)=(ev.length:Int):=by simp
 rw[sg,Yj (by rfl)];rcases Vl (aR Q)with h|⟨F,l,h,hlt⟩
 .rw[DR h]
  rw[h,List.map_nil]at hsi;generalize aP (aR Q,a_ Q)=wh,ev.map D.bl=EE at *;simp[se,Yd,hsi]
 .rw[Vm h]
  rw[h]at hsi;have ha:=DP (l:=F) l
  have hl2:(((F++[l]).map nD).length:Int)=(F.length:Int)+1:=by simp
  have hcut:=Vp F l
  have hne:¬(F.length:Int)+1=0:=by lia
  by_cases d:l=ev.length
  .have hcnt:=Vn (b:=F) (ev:=ev) (λx hx=>by rw[<-d];exact hlt x hx)
   subst d;generalize aP (aR Q,a_ Q)=wh at *;generalize a_ Q=oo at *;generalize od F (aC ev)=of,(F++[ev.length]).map nD=FF,F.map nD=F1,ev.map D.bl=EE at *;simp[se,Yd,hsi,hl2,hne,ha,hlen,hcut,hcnt]
  .have d':¬ev.length=l:=λz=>d z.symm
   generalize aP (aR Q,a_ Q)=wh at *;generalize a_ Q=oo at *;generalize (F++[l]).map nD=FF,ev.map D.bl=EE at *;simp[se,Yd,hsi,hl2,hne,ha,hlen,d,d']
theorem Vr{n:Nat}{S:AF}{R:List Sm}{ps:AF}(h:dj n S R ps)(c s:D)(ev:AH):gA [.tup [.str "odd",.tup (ps.map nD)],de R,c,s,.tup (ev.map D.bl)]=some (.bl (dg (ps.map (rg R)) ev)):=by
 have hadd:g6 [de R,.tup (ps.map nD)]=some (aP (aR (ps.map (rg R)),a_ (ps.map (rg R)))):=Kx rfl h.lt;have hs:=Vq (ps.map (rg R)) ev;have hbi:Yc (de R)=some [.str "sums",.tup (R.map aP)]:=rfl;have e0:=cP (a:="sums") (b:="ifs") (by decide +kernel) false;have e1:=cP (a:="odd") (b:="plan") (by decide +kernel) false;have e2:=cP (a:="odd") (b:="sums") (by decide +kernel) false;have e3:=cP (a:="odd") (b:="rows") (by decide +kernel) false;have e4:=cP (a:="odd") (b:="cross") (by decide +kernel) false;have e5:=cP (a:="odd") (b:="late") (by decide +kernel) false;have e6:=gC "odd" false;simp only[Bool.not_false]at e6;rw[gA,Yj (by rfl)];generalize dg (ps.map (rg R)) ev=du,aP (aR (ps.map (rg R)),a_ (ps.map (rg R)))=wh at *;generalize de R=bk,R.map aP=RR at *;generalize ps.map nD=PP,ev.map D.bl=EE at *;simp[sj,Yd,hbi,e0,e1,e2,e3,e4,e5,e6,hadd,hs]
def dh(l:Nat)(q:Sm):Sm:=(λx=>q.1 x&&decide (x<l),q.2)
def ki(l:Nat)(R:List Sm)(p:Nat):List Sm:=R.set p (dh l (rg R p))
def KD(l:Nat)(R:List Sm)(p:Nat):(ki l R p).length=R.length:=List.length_set
def DS{l:Nat}{R:List Sm}{p:Nat}(h:p<R.length)(i:Nat):rg (ki l R p) i=if i=p then dh l (rg R p)else rg R i:=by
 unfold ki;show(R.set p (dh l (rg R p))).getD i _=_;rw[Qt];by_cases e:i=p
 .subst e
  rw[List.getElem?_set_self h,if_pos rfl];rfl
 .rw[Qp (λz=>e z.symm),if_neg e]
  unfold rg;rw[Qt]
theorem DT{R:List Sm}{p:Nat}(h:p<R.length)(q:Sm):fA (R.map aP) (.int (p:Int)) (aP q)=some ((R.set p q).map aP):=by
 unfold fA;rw[OC,qd,qf]
 have e:dZ R.length (p:Int)=some p:=by
  unfold dZ;rw[if_pos ∅];simp[h]
 rw[e,Option.map_some,List.map_set]
def DU(l:Nat)(q:Sm):D.tup [.tup (((fl 60 q.1).filter λx=>decide (x<l)).map nD),.bl q.2]=aP (dh l q):=by
 show _=D.tup [.tup ((fl 60 (dh l q).1).map nD),.bl q.2]
 have e:fl 60 (dh l q).1=(fl 60 q.1).filter λx=>decide (x<l):=by
  show(List.range 60).filter (λx=>q.1 x&&decide (x<l))=((List.range 60).filter q.1).filter _;rw[List.filter_filter];exact List.filter_congr λx _=>Bool.and_comm _ _
 rw[e]
def dD(w:Bool)(ev:AH)(x:Nat):Prop:=aC ev x=w
def DV(w:Bool)(ev:AH)(r:aS):Prop:=(∀x∈r.1,dD w ev x)->∃y,r.2=some y/\dD w ev y
def nA{w:Bool}{ev:AH}{b fs:AF}(h:kn b fs=true)(hf:∀x∈fs,dD w ev x):∀x∈b,dD w ev x:=λx hx=>by
 unfold kn at h;exact hf x (wu (List.all_eq_true.mp h x hx))
theorem KE(h:0<=i/\i<R.length):bg R i∈R:=by
 unfold bg
 ext
theorem DW{w:Bool}{ev:AH}{R:List aS}(hR:∀r∈R,DV w ev r):∀{is:AG}{fs:AF},bF R fs is=true->(∀x∈fs,dD w ev x)->∀x∈fs++aV R is,dD w ev x
 | [],fs,_,hf,x,hx=>by
   rcases qw hx with h|h
   .exact hf x h
   .cases h
 | i::is,fs,hd,hf,x,hx=>by
   have hd':(fK R fs i&&bF R (fs++[aT (bg R i)]) is)=true:=hd;rw[Qe]at hd';obtain⟨h1,h2⟩:=hd';unfold fK at h1;rw[Qe,Qe,wj]at h1;obtain⟨p1,p2,p3⟩:=h1;obtain⟨y,e,hy⟩:=hR _ (KE p1) (nA p3 hf)
   have hh:aT (bg R i)=y:=by unfold aT;rw[e];rfl
   have hf2:∀z∈fs++[aT (bg R i)],dD w ev z:=λz hz=>by
    rcases qw hz with h|h
    .exact hf z h
    .rw[Qu]at h
     rw[h,hh];exact hy
   refine DW hR h2 hf2 x ?_;have e2:aV R (i::is)=aT (bg R i)::aV R is:=rfl;rw[e2]at hx;rw[jb];exact hx
theorem Vs{w:Bool}{ev:AH}{R:List aS}{K S:AF}{b:AN}{is js:AG}(h:eP R K S b is js=true)(hS:∀x∈S,some x≠b->dD w ev x)(hb:∀x,b=some x->((∀y∈cz R K b is,dD w ev y)->¬dD w ev x)/\((¬∀y∈cz R K b is,dD w ev y)->dD w ev x)):¬∀r∈R,DV w ev r:=λhR=>by
 unfold eP at h;rw[Qe]at h;obtain⟨h1,h2⟩:=h
 have hfo:∀y∈cz R K b is,dD w ev y:=by
  cases b with
  | none=>exact λy hy=>(nomatch hy)
  | some x=>
    by_cases z:∀y∈cz R K (some x) is,dD w ev y
    .exact z
    .have hx:=(hb x rfl).2 z
     have h1':(decide (x∈S)&&bF R S is)=true:=h1;rw[Qe]at h1'
     have hall:=DW hR h1'.2 (λy hy=>by
      by_cases e:y=x
      .rw[e]
       exact hx
      .exact hS y hy λq=>e (w9 q))
     intro y hy;have hy':y∈K.filter λy=>decide (y<x)&&decide (y∈aV R is):=hy;have:=(Qc hy').2;rw[Qe]at this;exact hall y (List.mem_append.mpr (.inr (wu this.2)))
 unfold nt at h2;simp only[Qe,wj,Bool.or_eq_true]at h2;obtain⟨_,p1,p2,p3,p4⟩:=h2
 have hfs:∀x∈eY b S++cz R K b is,dD w ev x:=λx hx=>by
  rcases qw hx with q|q
  .obtain⟨g1,g2⟩:=Qc q
   exact hS x g1 (by simpa using g2)
  .exact hfo x q
 obtain⟨y,e,hy⟩:=hR _ (KE p1) (nA p3 (DW hR p2 hfs));rcases p4 with q|q
 .rw[q]at e
  cases e
 .exact(hb y (q.symm.trans e)).1 hfo hy
def ez:AF->List aS->Prop
 | _,[]=>True
 | fs,r::E=>(∃h,r.2=some h)/\(∀x∈r.1,x∈fs)/\ez (fs++[aT r]) E
theorem KF:∀{E:List aS}{fs:AF}{r:aS},ez fs E->(∃h,r.2=some h)->(∀x∈r.1,x∈fs++E.map aT)->ez fs (E++[r])
 | [],fs,r,_,h1,h2=>⟨h1,λx hx=>by simpa using h2 x hx,trivial⟩
 | e::E,fs,r,h,h1,h2=>⟨h.1,h.2.1,KF h.2.2 h1 λx hx=>by
   have:=h2 x hx;rw[jb]
   exact this⟩
def cu:Nat->Nat->AG
 | _,0=>[]
 | a,k+1=>(a:Int)::cu (a+1) k
theorem DX:∀(k a:Nat),(cu a k).length=k
 | 0,_=>rfl
 | k+1,a=>by rw[cu,qt,DX k]
theorem KG:∀(k a:Nat),((List.range k).map λi:Nat=>D.int ((a:Int)+(i:Int)))=(cu a k).map D.int
 | 0,_=>rfl
 | k+1,a=>by
   rw[List.range_succ_eq_map,Qd,Qf,cu,Qd,<-KG k (a+1)]
   congr 1
   refine Qq λi _=>?_;show D.int ((a:Int)+((i+1:Nat):Int))=D.int (((a+1:Nat):Int)+(i:Int))
   congr 1
   lia
theorem KH:∀(k a:Nat),cu a (k+1)=cu a k++[((a+k:Nat):Int)]
 | 0,_=>rfl
 | k+1,a=>by
   rw[cu,KH k (a+1),cu,List.cons_append]
   congr 3
   lia
def DY{A C:List aS}{r:aS}{R:List aS}(e:R=A++r::C):bg R (A.length:Int)=r:=by
 subst e;unfold bg;rw[Qt];simp
theorem DZ:∀{E A C R:List aS}{fs:AF},R=A++(E++C)->ez fs E->bF R fs (cu A.length E.length)=true
 | [],_,_,_,_,_,_=>rfl
 | r::E,A,C,R,fs,e,h=>by
   have hm:bg R (A.length:Int)=r:=DY (C:=E++C) e;obtain⟨⟨y,hy⟩,h2,h3⟩:=h;rw[qt,cu,bF,Qe];refine⟨?_,?_⟩
   .unfold fK
    rw[hm,hy]
    have hl:R.length=A.length+(E.length+1+C.length):=by rw[e];simp;lia
    have hk:kn r.1 fs=true:=by
     unfold kn;exact List.all_eq_true.mpr λx hx=>wm (h2 x hx)
    rw[hk,wm (show 0<=(A.length:Int)/\(A.length:Int)<(R.length:Int) by lia)];rfl
   .rw[hm]
    have:=DZ (E:=E) (A:=A++[r]) (C:=C) (R:=R) (fs:=fs++[aT r]) (by rw[e];simp) h3;rw[qz,jc]at this;exact this
theorem D0:∀{E A C R:List aS},R=A++(E++C)->aV R (cu A.length E.length)=E.map aT
 | [],_,_,_,_=>rfl
 | r::E,A,C,R,e=>by
   have hm:bg R (A.length:Int)=r:=DY (C:=E++C) e;have:=D0 (E:=E) (A:=A++[r]) (C:=C) (R:=R) (by rw[e];simp);rw[qz,jc]at this;rw[qt,cu,Qd,<-this,<-hm];rfl
def fL(n:Nat)(r:aS):Prop:=In .i n (eO r)/\dR (eO r)
def tw(K:AF)(b:AN)(E:List aS):AF:=match b with
 | none=>[]
 | some x=>K.filter λy=>decide (y<x)&&decide (y∈E.map aT)
def D1{R E:List aS}{K:AF}{b:AN}{is:AG}(h:aV R is=E.map aT):cz R K b is=tw K b E:=by
 cases b with
 | none=>rfl
 | some x=>
   show(K.filter λy=>decide (y<x)&&decide (y∈aV R is))=K.filter λy=>decide (y<x)&&decide (y∈E.map aT);rw[h]
theorem D2{A E L:List aS}{K S:AF}{b:AN}{bd:AF}{o:AN}(hE:ez S E)(hb:b=none->E=[])(hbS:∀x,b=some x->x∈S)(hL:ez (eY b S++tw K b E) L)(hbd:∀x∈bd,x∈(eY b S++tw K b E)++L.map aT)(ho:o=none\/o=b):
 eP (A++(E++(L++[(bd,o)]))) K S b (cu A.length E.length) (cu (A.length+E.length) (L.length+1))=true:=by
 generalize hR:A++(E++(L++[(bd,o)]))=R;have h1:=DZ (E:=E) (A:=A) (C:=L++[(bd,o)]) hR.symm hE;have h2:=D0 (E:=E) (A:=A) (C:=L++[(bd,o)]) hR.symm;have h3:=DZ (E:=L) (A:=A++E) (C:=[(bd,o)]) (R:=R) (by rw[<-hR];simp) hL;have h4:=D0 (E:=L) (A:=A++E) (C:=[(bd,o)]) (R:=R) (by rw[<-hR];simp);rw[qz]at h3 h4
 have h5:bg R ((A.length+E.length+L.length:Nat):Int)=(bd,o):=by
  have:=DY (A:=A++E++L) (C:=[]) (r:=(bd,o)) (R:=R) (by rw[<-hR];simp);rw[qz,qz]at this;exact this
 unfold eP;rw[D1 h2,Qe];refine⟨?_,?_⟩
 .cases b with
  | none=>
    rw[hb rfl];rfl
  | some x=>
    show(decide (x∈S)&&bF R S (cu A.length E.length))=true;rw[h1,wm (hbS x rfl)];rfl
 .have hlen:R.length=A.length+E.length+L.length+1:=by rw[<-hR];simp;lia
  have hg:(cu (A.length+E.length) L.length++[((A.length+E.length+L.length:Nat):Int)]).getD (cu (A.length+E.length) L.length).length 0=((A.length+E.length+L.length:Nat):Int):=by simp[Qt]
  have hk:kn bd ((eY b S++tw K b E)++L.map aT)=true:=by
   unfold kn;exact List.all_eq_true.mpr λx hx=>wm (hbd x hx)
  unfold nt;rw[KH,List.dropLast_concat,qz,jc,Nat.add_sub_cancel,hg,h5,h4];simp only[Qe,Bool.or_eq_true,wj];exact⟨by lia,⟨by lia,by lia⟩,h3,hk,ho⟩
def Vt(r:aS):Yc (aO r)=some [.tup (r.1.map nD),aj r.2]:=rfl
def cQ(k:Kd)(R:List aS):D:=.tup [aJ k,.tup (R.map aO)]
def D3(R:List aS):cQ .i R=cO R:=rfl
def jB(k:Kd)(R:List aS):Yk k (R.map eO)=cQ k R:=by unfold Yk cQ;rw[Dt]
def KI(k:Kd)(R:List aS):Yc (cQ k R)=some [aJ k,.tup (R.map aO)]:=rfl
theorem Vu(k:Kd)(R:List aS){S Kp:AF}(b:AN){is:AG}(h:gD R S b is=true):jn [aj b,.tup (is.map D.int),cQ k R,.lst (Kp.map nD)]=some (.lst ((cz R Kp b is).map nD)):=by
 rw[jn,Yj (by rfl)];have hib:=KI k R;unfold cz
 cases b with
 | none=>simp[j6,Yd,aj]
 | some x=>
   unfold gD at h;rw[Qe]at h
   have hcm:=Dw h.2 (fe:=mN) (r:=[↑(cQ k R)]) (λi hi hv=>by
    have hat:=kg hv;have hi2:=Vt (bg R i);generalize aO (bg R i)=ri,R.map aO=RR,cQ k R=bk at *
    simp[mN,hib,hat,hi2])
   have hc2:=ek (fc:=mO) (fe:=mP) (r:=[↑(.int (x:Int)),↑(.lst ((aV R is).map nD))]) (enc:=nD) (λy=>decide (y<x)&&decide (y∈aV R is)) nD (l:=Kp) (λy _=>by
    have hin:=c_ (c:=.lst ((aV R is).map nD)) y (aV R is) false rfl;generalize D.lst ((aV R is).map nD)=hh at *
    by_cases hy:y<x<;>simp[mO,hy,hin]) (λ_ _ _=>by simp[mP])
   have hsh:aj (some x)=.int (x:Int):=rfl;rw[hsh];clear hib;generalize cQ k R=bk,(aV R is).map nD=hh,Kp.map nD=kk at *;have hit:Yc (.tup (is.map D.int))=some (is.map D.int):=rfl;generalize hti:D.tup (is.map D.int)=ii at *;simp[j6,Yd,hit,ar,hcm,hc2]
def dY(F:AF)(b:AN)(w:Bool)(ev:AH):Bool:=if (decide (some ev.length=b)&&F.all λy=>aC ev y==w)=true then !w else w
def D4{fe:AW}{F:AF}{w:Bool}{ev:AH}(hfe:∀y∈F,fe [↑(nD y),↑(.tup (ev.map D.bl)),↑(.bl w)]=some (.bl (aC ev y==w))):
 ∃B1:AH,B1.all id=F.all (λy=>aC ev y==w)/\bE (B1.map D.bl)=some B1/\dN (ak 0) tY fe [none,↑(.tup (ev.map D.bl)),↑(.bl w)] (F.map nD)=some (B1.map D.bl):=by
 refine⟨F.map λy=>aC ev y==w,by rw[List.all_map];rfl,?_,?_⟩
 .rw[Qf]
  exact l6 _ _
 .rw[di (fe:=fe) (enc:=nD) (λy=>.bl (aC ev y==w)) hfe,Qf]
  rfl
theorem Vv{F:AF}{b:AN}(hF:∀x,b=some x->∀y∈F,y<x)(w:Bool)(ev:AH):si [aj b,.lst (F.map nD),.tup (ev.map D.bl),.bl w]=some (.bl (dY F b w ev)):=by
 have hlen:((ev.map D.bl).length:Int)=(ev.length:Int):=by simp
 have hq:=Dx false ev.length b;rw[si,Yj (by rfl)];unfold dY;by_cases d:some ev.length=b
 .obtain⟨B1,h1,h2,hc⟩:=D4 (fe:=B9) (F:=F) (w:=w) (ev:=ev) (λy hy=>by
   have ha:=fR (ev:=ev) (n:=y) (hF _ d.symm y hy);generalize aC ev y=av,ev.map D.bl=EE at *
   simp[B9,ha])
  rw[<-h1];simp only[d,decide_true,Qo,if_false]at hq;simp only[d,decide_true,Bool.true_and];clear h1 hF;generalize hB:B1.all id=al at *;generalize B1.map D.bl=B2 at *;generalize aj b=ob,F.map nD=FF,ev.length=el,ev.map D.bl=EE at *;cases al<;>simp[B_,Yd,hlen,hq,ar,hc,h2,hB]
 .simp only[d,decide_false,Qo,if_false]at hq
  simp only[d,decide_false,Bool.false_and,Qo,if_false];generalize aj b=ob,F.map nD=FF,ev.length=el,ev.map D.bl=EE at *;simp[B_,Yd,hlen,hq]
def D5(k:Kd):au false (aJ k) (.str "ifs")=some (decide (k=.i)):=by
 have e:D.str "ifs"=aJ .i:=rfl;rw[e,ej nofun nofun,md];rfl
def nB{R:List aS}{K:AF}{b:AN}{is:AG}:∀x,b=some x->∀y∈cz R K b is,y<x:=λx hx y hy=>by
 subst hx;have hy':y∈K.filter λy=>decide (y<x)&&decide (y∈aV R is):=hy;have:=(Qc hy').2;rw[Qe]at this;exact wu this.1
theorem Vw{k:Kd}{R:List aS}{hs:AH}(hl:hs.length<=60){st:Nat}(hst:st<=hs.length){b:AN}{is js:AG}(h:eP R (aH hs st true) (aH hs st false) b is js=true)(ev:AH):
 gA [.tup [.str "lone",aj b,.tup (is.map D.int),.tup (js.map D.int)],cQ k R,.tup (hs.map aK),.int st,.tup (ev.map D.bl)]=some (.bl (dY (cz R (aH hs st true) b is) b (decide (k=.i)) ev)):=by
 unfold eP at h;rw[Qe]at h;have h1:=Vu k R (Kp:=aH hs st true) b h.1;have h2:=Vv (F:=cz R (aH hs st true) b is) (b:=b) nB (decide (k=.i)) ev;have b1:=Yz (c:=.tup (hs.map aK)) hs rfl ∅ st hst true;simp only[aK,if_true]at b1;have e1:=cP (a:="lone") (b:="plan") (by decide +kernel) false;have e2:=cP (a:="lone") (b:="sums") (by decide +kernel) false;have e3:=cP (a:="lone") (b:="rows") (by decide +kernel) false;have e4:=cP (a:="lone") (b:="cross") (by decide +kernel) false;have e5:=cP (a:="lone") (b:="late") (by decide +kernel) false;have e6:=cP (a:="lone") (b:="odd") (by decide +kernel) false;have e7:=gC "lone" false;have hk:=D5 k;have hib:=KI k R;have a2:∀a b c d:D,bj [a,b,c,d] 2=some c:=λa b c d=>rfl;rw[gA,Yj (by rfl)];generalize dY (cz R (aH hs st true) b is) b (decide (k=.i)) ev=du,(cz R (aH hs st true) b is).map nD=FF,(aH hs st true).map nD=KK,decide (k=.i)=w,aJ k=kd,R.map aO=RR,cQ k R=bk,aj b=ob,D.tup (is.map D.int)=ii,D.tup (js.map D.int)=jj,hs.map aK=HH,ev.map D.bl=EE at *;simp at e7;simp[sj,Yd,hib,hk,e1,e2,e3,e4,e5,e6,e7,a2,b1,h1,h2]
theorem KJ(j:Nat){R:List aS}{n:Nat}(hR:∀r∈R,fL n r){hs:AH}(hn:hs.length=n)(hl:n<=60){st:Nat}(hst:st<=n){b:AN}{is js:AG}(hil:is.length<=100)(hjl:js.length<=100)(hb:eP R (aH hs st true) (aH hs st false) b is js=true):
 Yo (j+1) [.tup [.str "lone",aj b,.tup (is.map D.int),.tup (js.map D.int)],cQ .i R,.lst (hs.map aK),.int st]=some (.bl true):=by
 have hSl:(aH hs st false).length<=60:=Qg (Qn _ _) (by rw[List.length_range];lia);have hKl:(aH hs st true).length<=60:=Qg (Qn _ _) (by rw[List.length_range];lia);have h:=U8 R (n:=n) ∅ (λr hr x hx=>(hR r hr).1.2.2 x hx) (Kp:=aH hs st true) (S:=aH hs st false) (λx hx=>by rw[<-hn];exact tq hx) (λx hx=>by rw[<-hn];exact tq hx) ∅ ∅ b (is:=is) (js:=js) ∅ ∅;rw[hb,<-D3]at h;have b1:=Yz (c:=.lst (hs.map aK)) hs rfl ∅ st ∅ true;have b2:=Yz (c:=.lst (hs.map aK)) hs rfl ∅ st ∅ false;simp only[aK,if_true,Qo,if_false]at b1 b2;rw[Yo,Yj (by rfl)];have e1:=cP (a:="lone") (b:="broken") (by decide +kernel) false;have e2:=cP (a:="lone") (b:="odd") (by decide +kernel) false;have e3:=gC "lone" false;have k1:=cP (a:="ifs") (b:="nots") (by decide +kernel) false;have k2:=cP (a:="ifs") (b:="eithers") (by decide +kernel) false;have k3:=gC "ifs" false;have hib:Yc (cQ .i R)=some [.str "ifs",.tup (R.map aO)]:=rfl;clear hb;generalize aH hs st true=Kp,aH hs st false=S,R.map aO=RR,cQ .i R=bk at *;generalize Kp.map nD=KK,S.map nD=SS,aj b=ob,D.tup (is.map D.int)=ii at *;generalize D.tup (js.map D.int)=jj,hs.map aK=HH at *;simp at e3 k3;simp[mR,Yd,hib,b1,b2,e1,e2,e3,k1,k2,k3,h]
theorem KM{R:List aS}{n:Nat}(hR:∀r∈R,fL n r):gz [cQ .i R]=some (cQ .n R)/\gz [cQ .n R]=some (cQ .i R):=by
 have hQ:∀r∈R.map eO,In .i n r/\dR r:=λr hr=>by
  obtain⟨q,hq,rfl⟩:=qy hr;exact hR q hq
 have hQn:∀r∈R.map eO,In .n n r/\dR r:=λr hr=>by
  obtain⟨q,hq,rfl⟩:=qy hr;exact⟨⟨.inr rfl,(hR q hq).1.2⟩,(hR q hq).2⟩
 have hex:(R.map eO).map jy=R.map eO:=by rw[Qf];rfl
 have h1:=Kb hQ;have h2:=Kb hQn;rw[hex]at h1 h2;simp only[tm]at h1 h2;rw[jB,jB]at h1 h2;exact⟨h1,h2⟩
def Vx{k:Kd}(hk:k=.i\/k=.n){R:List aS}{n:Nat}(hR:∀r∈R,fL n r){hs:AH}(hn:hs.length=n)(hl:n<=60){st:Nat}(hst:st<=n){b:AN}{is js:AG}(hil:is.length<=100)(hjl:js.length<=100)(hb:eP R (aH hs st true) (aH hs st false) b is js=true):
 Yx [.tup [.str "lone",aj b,.tup (is.map D.int),.tup (js.map D.int)],cQ k R,.lst (hs.map aK),.int st]=some (.bl true):=by
 rcases hk with rfl|rfl
 .exact KJ 11 hR hn hl hst hil hjl hb
 .have s1:=KJ 10 hR hn hl hst hil hjl hb
  have hx:=(KM hR).2;have hib:Yc (cQ .n R)=some [.str "nots",.tup (R.map aO)]:=rfl;have k1:=gC "nots" false;rw[Yx,Yo,Yj (by rfl)];clear hb;generalize cQ .i R=bi,R.map aO=RR,cQ .n R=bn,aj b=ob,D.tup (is.map D.int)=ii,D.tup (js.map D.int)=jj,hs.map aK=HH at *;simp at k1;simp[mR,Yd,hib,k1,hx,s1]
def Vy{k:Kd}{ev:AH}{r:aS}(h:so k ev (eO r)=true):DV (decide (k=.i)) ev r:=λhb=>by
 have h':((r.1.any λx=>aC ev x != decide (k=.i))||hd ev (decide (k=.i)) r.2)=true:=h
 have hn:(r.1.any λx=>aC ev x != decide (k=.i))=false:=by
  cases hz:r.1.any λx=>aC ev x != decide (k=.i)with
  | false=>rfl
  | true=>
    obtain⟨x,hx,e⟩:=List.any_eq_true.mp hz;have:aC ev x=decide (k=.i):=hb x hx;rw[this]at e;simp at e
 rw[hn,Bool.false_or]at h'
 cases hh:r.2 with
 | none=>rw[hh]at h';cases h'
 | some y=>
   rw[hh]at h';have h2:(aC ev y==decide (k=.i))=true:=h';exact⟨y,rfl,by unfold dD;exact eq_of_beq h2⟩
theorem Vz{k:Kd}{R:List aS}{hs:AH}{st:Nat}{b:AN}{is js:AG}(h:eP R (aH hs st true) (aH hs st false) b is js=true){ev:AH}(hel:ev.length=hs.length)(hp:∀c,c<hs.length->st<=c->hs.getD c false=false->aC ev c=dY (cz R (aH hs st true) b is) b (decide (k=.i)) (ev.take c)):¬∀r∈R.map eO,so k ev r=true:=λhall=>by
 refine Vs (w:=decide (k=.i)) (ev:=ev) h (λx hx hxb=>?_) (λx hx=>?_) (λr hr=>Vy (hall _ (List.mem_map_of_mem hr)))
 .obtain⟨g1,g2,g3⟩:=mem_ofH.mp hx
  have hd:=hp x g1 g2 g3
  have htl:(ev.take x).length=x:=by rw[List.length_take];lia
  unfold dY at hd;rw[htl,wt hxb,Bool.false_and,if_neg qi]at hd;exact hd
 .have hfi:gD R (aH hs st false) b is=true:=by
   unfold eP at h;rw[Qe]at h;exact h.1
  have hxS:x∈aH hs st false:=by
   subst hx;have hf':(decide (x∈aH hs st false)&&bF R (aH hs st false) is)=true:=hfi;rw[Qe]at hf';exact wu hf'.1
  obtain⟨g1,g2,g3⟩:=mem_ofH.mp hxS;have hd:=hp x g1 g2 g3
  have htl:(ev.take x).length=x:=by rw[List.length_take];lia
  have hat:∀y∈cz R (aH hs st true) b is,aC (ev.take x) y=aC ev y:=λy hy=>by
   have:=nB x hx y hy;unfold aC;simp[this]
  unfold dY at hd;rw[htl,wm hx.symm,Bool.true_and]at hd
  have hiff:((cz R (aH hs st true) b is).all λy=>aC (ev.take x) y==decide (k=.i))=true↔∀y∈cz R (aH hs st true) b is,dD (decide (k=.i)) ev y:=by
   rw[List.all_eq_true];constructor
   .intro z y hy
    have:=eq_of_beq (z y hy);rw[hat y hy]at this;exact this
   .intro z y hy
    rw[hat y hy];have:aC ev y=decide (k=.i):=z y hy;rw[this];exact beq_self_eq_true _
  constructor
  .intro z
   rw[if_pos (hiff.mpr z)]at hd;unfold dD;rw[hd];cases decide (k=.i)<;>decide
  .intro z
   rw[if_neg (λq=>z (hiff.mp q))]at hd;exact hd
def ax(b:Bool):D:=.str (.ofString (if b then "keeper" else "storm"))
abbrev cI(k:Kd)(R:List Rl)(H ev:AH):D:=aZ (Yk k R) (.tup (H.map ax)) (.lst (ev.map .bl))
@[simp] def KO(b h x:D):aY "Watch" "book" (aZ b h x)=some b:=nr rfl
@[simp] def KP(b h x:D):aY "Watch" "hands" (aZ b h x)=some h:=nr rfl
@[simp] def KQ(b h x:D):aY "Watch" "truths" (aZ b h x)=some x:=nr rfl
def nC(m:Str)(c:m∉wks)(a:AR->Option D)(b h x:D):bw "Watch" m a (aZ b h x)=a [aZ b h x]:=if_pos ⟨rfl,c⟩
def kj(H ev:AH):D:=match H[ev.length]? with
 | some b=>ax b
 | none=>.non
def nE{H ev:AH}(h:ev.length<H.length):kj H ev=ax (H[ev.length]):=by
 unfold kj;rw[qr h]
theorem D6{H ev:AH}(h:¬ev.length<H.length):kj H ev=.non:=by
 unfold kj;rw[List.getElem?_eq_none (by ext)]
theorem tB{k:Kd}{R:List Rl}{H ev:AH}(h:ev.length<=H.length):Yn [cI k R H ev]=some (kj H ev):=by
 rw[Yn,Yj (by rfl)];have c:Yd 1 [cI k R H ev]=[some _]:=rfl;rw[c];by_cases e:ev.length=H.length
 .rw[D6 ∅]
  simp[Cd,e]
 .have a:ev.length<H.length:=by lia
  rw[nE a]
  have d:¬(ev.length=(H.length:Int)):=by ext
  have b:bj (H.map ax) ev.length=some (ax (H[ev.length])):=by
   rw[eD,eU a];rfl
  simp[Cd,d,b]
def KU(k:Kd)(R:List Rl)(H ev:AH):Yq [cI k R H ev]=some (.tup (ev.map D.bl)):=by
 rw[Yq,Yj (by rfl)];have a:Yd 1 [cI k R H ev]=[↑(cI k R H ev)]:=rfl;rw[a];simp[Ju]
def dE(k:Kd)(n:Nat)(r:Rl):Prop:=In k n r/\dR r
def cv(k:Kd)(R:List Rl)(H ev:AH):D:=if ev.length<H.length then .non else .str (.ofString (if brk k ev R=[]then "keeper" else "storm"))
def KW(k:Kd)(R:List Rl)(H ev:AH):o5 (cv k R H ev)=true:=by
 unfold cv
 split<;>rfl
theorem D7{k:Kd}{R:List Rl}{H ev:AH}(h:ev.length<=H.length)(g:∀r∈R,dE k H.length r/\sz r<=9999):Yp [cI k R H ev]=some (cv k R H ev):=by
 rw[Yp,Yj (by rfl)];have c:Yd 1 [cI k R H ev]=[↑(cI k R H ev)]:=rfl;rw[c];have a:=nC "turn" (by decide) Yn (Yk k R) (.tup (H.map ax)) (.lst (ev.map D.bl));rw[(tB (k:=k) (R:=R) h)]at a;by_cases b:ev.length<H.length
 .rw[nE b]at a
  have e:cw true (ax H[ev.length]) .non=some true:=rfl;simp[sq,a,e,cv,b]
 .rw[D6 b]at a
  have d:=C8 (c:=.lst (ev.map D.bl)) rfl (λr f=>by rw[show ev.length=H.length by lia];exact(g r f).1.1);by_cases hb:brk k ev R=[]
  .simp[sq,a,d,cv,b,hb]
  .simp[sq,a,d,cv,b,hb]
def nF(k:Kd):Nat->AH->List Rl->List Rl
 | _,[],R=>R
 | i,b::ev,R=>nF k (i+1) ev (R.filterMap (cH k i b))
def VA{k:Kd}{n b:Nat}{g:Bool}{r q:Rl}(c:dE k n r)(h:cH k b g r=some q):dE k n q/\sz q<=sz r:=by
 have a:aC (.replicate (b+1) g) b=g:=by simp[aC]
 obtain⟨_,_,_,d,e,f⟩:=OI c.1 c.2 (by rwa [a]);exact⟨⟨d,e⟩,f⟩
def VB{k:Kd}{n b:Nat}{g:Bool}{R:List Rl}(c:∀r∈R,dE k n r/\sz r<=9999):∀r∈R.filterMap (cH k b g),dE k n r/\sz r<=9999:=λq f=>by
 obtain⟨r,a,h⟩:=List.mem_filterMap.mp f;obtain⟨d,e⟩:=VA (c r a).1 h;exact⟨d,Qg e (c r a).2⟩
def km(i:Nat):AH->AR
 | []=>[]
 | b::ev=>.tup [.int i,.bl b]::km (i+1) ev
theorem KY:∀(ev:AH) (i:Nat),km i ev=(List.range ev.length).map λj:Nat=>D.tup [.int ((i:Int)+(j:Int)),.bl (ev.getD j false)]
 | [],_=>rfl
 | b::ev,i=>by
   rw[km,qt,List.range_succ_eq_map,Qd,Qf,KY ev _]
   congr 1
   refine Qq λj _=>?_
   have a:((i+1:Nat))+(j:Int)=i+((j+1)):=by lia
   rw[a];rfl
def D8(ev:AH):fP (ev.map D.bl)=km 0 ev:=by
 rw[Ic .bl false ev,KY ev 0];simp
theorem KZ{k:Kd}{n:Nat}{y0:AS}:∀(ev:AH) (i:Nat) (R:List Rl) (a c:AS),(∀r∈R,dE k n r/\sz r<=9999)->∃d g,M.forM (eT 2 3) sZ (km i ev) [y0,↑(Yk k R),a,c]=some (.nx [y0,↑(Yk k (nF k i ev R)),d,g])
 | [],i,R,a,c,_=>⟨a,c,rfl⟩
 | b::ev,i,R,a,c,h=>by
   obtain⟨d,g,e⟩:=KZ ev _ _ _ _ (VB h);refine⟨d,g,?_⟩;rw[km,M.forM];have j:eT 2 3 (.tup [.int i,.bl b]) [y0,_,a,c]=some [y0,↑(Yk k R),_,_]:=rfl
   have l:sZ [y0,↑(Yk k R),↑(.int i),↑(.bl b)]=some (.nx [y0,↑(Yk k (R.filterMap (cH k i b))),↑(.int i),↑(.bl b)]):=by
    simp[sZ,UN (λr f=>(h r f).1.1) (λr f=>Qg (h r f).2 ∅) i b]
   rwa [j,qd,l]
def D9{k:Kd}{n:Nat}{R:List Rl}(H ev:AH)(b:∀r∈R,dE k n r/\sz r<=9999):jw [cI k R H ev]=some (Yk k (nF k 0 ev R)):=by
 rw[jw,Yj (by rfl)];have a:Yd 4 [cI k R H ev]=[_,none,none,none]:=rfl;rw[a];obtain⟨d,c,e⟩:=KZ (y0:=some (.sh (cI k R H ev))) ev 0 R none none b;rw[<-D8]at e;simp[JZ,e]
def VC(b:Bool):Ck [ax b]=some (.bl true):=by
 cases b<;>rfl
theorem VD{k:Kd}{m:Nat}{R:List Rl}{H:AH}(s:H.length<=60)(p:R.length*m<4000)(d:∀r∈R,dE k H.length r/\sz r+1<=m){h:D}(g:h=.lst (H.map ax)\/h=.tup (H.map ax)):jo [Yk k R,h]=some .non:=by
 rw[jo,Yj (by rfl)];have e:Yd 2 [Yk k R,h]=[_,some _]:=rfl;rw[e];obtain⟨l,_,o,t⟩:=UI ∅ (λr c=>⟨(d r c).1.1,(d r c).2⟩) p
 have f:=di (fe:=Cm) (r:=[]) (enc:=ax) (λ_=>.bl true) (l:=H) (λb _=>by
  have:=VC b
  simp[Cm,this])
 have a:ay [h]=some (.int H.length):=by rcases g with rfl|rfl<;>simp
 have n:=di (fe:=Cn) (r:=[↑h]) (enc:=nD) (λ_=>.bl false) (λb t=>by
  have:b<H.length:=by
   obtain⟨r,c,q⟩:=(o b).mp t;exact Ip (d r c).1.1 b q
  simp[Cn,a]
  ext)
 have i:¬((60:Int)<H.length):=by lia
 have j:=l6 (λ_=>true) H;rcases g with rfl|rfl
 .simp[Co,a,i,ar,f,n,t,j,b1]
 .simp[Co,a,i,ar,f,n,t,j,b1]
section
variable {f g:Hm}{fe:He}{ρ ρ':Ro}{t:Hs}{Q:b8 Hs->Prop}{i:Nat}
def nG{f:AT}(h:f ρ=some (.nx ρ'))(k:g ρ' t Q):aU (fI f) g ρ t Q:=⟨_,h,k⟩
def ko(h:fe ρ t λd t'=>g (ρ.set i (↑d)) t' Q):aU (dU i fe) g ρ t Q:=h
def tD(h:fe ρ t λ_ t'=>g ρ t' Q):aU (gZ fe) g ρ t Q:=h
def D_{g:Ha}{Q:AR->Hs->Prop}(h:fe ρ t λd a=>g ρ a λds b=>Q (d::ds) b):mu fe g ρ t Q:=h
def Ea{Q:AR->Hs->Prop}(h:Q [] t):i7 ρ t Q:=h
def nH{c:Ro->Hs->Option Bool}{f:Hm}(h:c ρ t=some false)(k:g ρ t Q):aU (mq c f fJ) g ρ t Q:=⟨false,h,λz=>(nomatch z),λ_=>k⟩
theorem Eb{a:AX}{gt:AU}{b:AR}(h:a ρ=some b)(k:eu gt f b ρ t fun
 | .nx ρ' t'=>g ρ' t' Q
 | o=>Q o):aU (i3 a gt f) g ρ t Q:=⟨b,h,k⟩
def K0{gt:AU}{fb:Hm}{m:Type}(enc:m->D)(I:List m->Ro->Hs->Prop):∀(l c:List m) (ρ:Ro) (t:Hs) (Q:b8 Hs->Prop),I c ρ t->
 (∀q a r ρ t (Q:b8 Hs->Prop),c++l=q++a::r->I q ρ t->(∀d j,I (q++[a]) d j->Q (.nx d j))->∃h,gt (enc a) ρ=some h/\fb h t Q)->(∀ρ' t',I (c++l) ρ' t'->Q (.nx ρ' t'))->eu gt fb (l.map enc) ρ t Q
 | [],c,ρ,t,Q,g,_,k=>k ρ t (by rwa [ja])
 | a::l,c,ρ,t,Q,g,f,k=>by
   refine f c a l ρ t _ rfl g λd j p=>K0 enc I l _ d j Q p (λq b r ρ t Q e o s=>f q b r ρ t Q (by rw[<-e,jb];rfl) o s) λρ' t' n=>k ρ' t' ?_
   rwa [jb]at n
end
def gF{t:Hs}{a:Addr}{s s':Option HS}:pt (pt t a s) a s'=pt t a s':=by
 funext b
 by_cases h:b=a
 .rw[h,Ym,Ym]
 .rw[bJ h,bJ h,bJ h]
def Ec{t:Hs}{a:Addr}{s:Option HS}(h:t a=none):pt (pt t a s) a none=t:=by
 funext b
 by_cases e:b=a
 .rw[e,Ym,h]
 .rw[bJ e,bJ e]
theorem kr{b:Type}{enc:b->D}{t:Hs}(h:∀a,aB t (enc a)=enc a):∀l:List b,cg t (l.map enc)=l.map enc
 | []=>by rw[List.map_nil,cg]
 | a::l=>by rw[Qd,cg,h,kr h l]
def K1(t:Hs)(i:Int):aB t (.int i)=.int i:=by rw[aB]
def Ed(t:Hs)(b:Bool):aB t (.bl b)=.bl b:=by rw[aB]
def Ee(t:Hs)(x:Str):aB t (.str x)=.str x:=by rw[aB]
def nI(t:Hs)(b:Bool):aB t (ax b)=ax b:=by unfold ax;rw[aB]
def Ef(t:Hs)(s:bh):aB t (af s)=af s:=by
 show aB t (.tup _)=.tup _;simp[aB,cg]
def Eg(t:Hs)(o:AN):aB t (aj o)=aj o:=by
 cases o with
 | none=>show aB t .non=.non;rw[aB]
 | some x=>show aB t (.int _)=.int _;rw[aB]
def nJ(t:Hs)(b:AF):aB t (.tup (b.map nD))=.tup (b.map nD):=by
 rw[aB,(kr (enc:=nD) (λn=>K1 t n) b)]
def Eh(t:Hs)(r:Rl):aB t (aA r)=aA r:=by
 cases r with
 | ei l=>show aB t (.tup _)=.tup _;rw[aB,kr (Ef t)]
 | su b o=>show aB t (.tup _)=.tup _;rw[aB,cg,cg,cg,nJ,Ed]
 | im b h=>show aB t (.tup _)=.tup _;rw[aB,cg,cg,cg,nJ,Eg]
def Ei(t:Hs)(k:Kd):aB t (aJ k)=aJ k:=by unfold aJ;rw[aB]
def Ej(t:Hs)(k:Kd)(R:List Rl):aB t (Yk k R)=Yk k R:=by
 show aB t (.tup _)=.tup _;rw[aB,cg,cg,cg,aB,kr (Eh t),Ei]
def ku{t:Hs}{k:Kd}{R:List Rl}{H ev:AH}{l:Addr}(h:t l=some (.bls ev)):aB t (aZ (Yk k R) (.tup (H.map ax)) (.adr l))=cI k R H ev:=by
 rw[aB,cg,cg,cg,Ej,aB,kr (nI t),aB,h];rfl
section
variable {k:Kd}{R:List Rl}{H ev:AH}{l:Addr}{t:Hs}
def Ek(b h x:D):bw "Watch" "turn" Yn (aZ b h x)=Yn [aZ b h x]:=nC "turn" (by decide) Yn b h x
def El(b h x:D):bw "Watch" "winner" Yp (aZ b h x)=Yp [aZ b h x]:=nC _ (by decide) _ b h x
def K2(b h x:D):bw "Watch" "evening" Yq (aZ b h x)=Yq [aZ b h x]:=nC "evening" (by decide) Yq b h x
theorem VE(e:t l=some (.bls ev))(a:ev.length<H.length)(i:H.length<=60)(h:∀r∈R,dE k H.length r/\sz r<=9999)(c:Bool){W:D->Hs->Prop}(g:W (cv k R H (ev++[c])) (pt t l (some (.bls (ev++[c]))))):
 mS [aZ (Yk k R) (.tup (H.map ax)) (.adr l),.bl c] t W:=by
 unfold mS bN;have b:Yd 2 [aZ (Yk k R) (.tup (H.map ax)) (.adr l),.bl c]=[some _,↑(.bl c)]:=rfl;rw[b];have f:=Ek (Yk k R) (.tup (H.map ax)) (.lst (ev.map D.bl));rw[tB (Nat.le_of_lt a),nE a]at f;have d:=El (Yk k R) (.tup (H.map ax)) (.lst ((ev++[c]).map D.bl));rw[D7 (by rw[qz];exact a) h]at d;refine nH ?_ ?_
 .show(b2 _ (kD .non) (cw false)) (d5 t _)=_
  have:d5 t [↑(aZ (Yk k R) (.tup (H.map ax)) (.adr l)),↑(.bl c)]=[↑(cI k R H ev),↑(aB t (.bl c))]:=by
   show([↑_,↑_]:Ro)=_;rw[ku (H:=H) (k:=k) (R:=R) e]
  rw[this];simp [qd];rw[f];exact rfl
 refine nG (ρ':=[some _,↑(.bl c)]) (by cases c<;>rfl) (⟨_,_,l,ev,c,rfl,e,by lia,rfl,⟨cv k R H (ev++[c]),?_,(KW k R H (ev++[c])),g⟩⟩)
 have:d5 (pt t l (some (.bls (ev++[c])))) [↑(aZ (Yk k R) (.tup (H.map ax)) (.adr l)),↑(.bl c)]=[↑(cI k R H (ev++[c])),↑(aB (pt t l (some (.bls (ev++[c])))) (.bl c))]:=by
  show([↑_,↑(aB _ (.bl c))]:Ro)=_;rw[ku (H:=H) (k:=k) (R:=R) (t:=pt t l (some (.bls (ev++[c])))) Ym]
 rw[this];exact d
end
section
variable {t:Hs}{x:Addr}{R Q:D->Hs->Prop}{ρ:Ro}
theorem Em{C d:Addr}{b h:D}{l:AR}(m:t x=some (.ins "Watch" C d [] [] []))(p:jo [b,h]=some .non)(n:aL [h]=some (.tup l))(k:∀a e f t',a≠x->t a=none->t' x=some (.ins "Watch" C d wks [e,f,.ref a] [b,.tup l,.adr a])->t' a=some (.bls [])->(∀y,y≠x->y≠a->t' y=t y)->R .non t'):m_ [.adr x,b,h] t R:=by
 unfold m_ bN;have i:Yd 3 [.adr x,b,h]=[some _,some _,some _]:=rfl;rw[i];refine nG (ρ':=[↑(.adr x),↑b,↑h]) ?_ ?_
 .simp [p]
 refine⟨x,"Watch",C,d,[],[],[],b,rfl,m,by decide,by decide,by decide,rfl,λe=>⟨x,"Watch",C,d,["book"],[e],[b],.tup l,rfl,Ym,by decide,by decide,by decide,?_,λf=>?_⟩⟩
 .exact n
 rw[gF];refine⟨x,"Watch",C,d,["book","hands"],[e,f],[b,.tup l],rfl,Ym,by decide,by decide,by decide,λa g=>?_⟩
 have c:a≠x:=λz=>by rw[z,Ym]at g;cases g
 rw[bJ c]at g;refine k a e f _ c g Ym ?_ λy j o=>?_
 .rw[bJ c,Ym]
 .rw[bJ j,bJ o,bJ j]
theorem VF{b h:D}{l:AR}(F:ga (frz is ρ)=some [b,h])(B:jo [b,h]=some .non)(u:aL [h]=some (.tup l))(hb:cN b=true)(E:bf l=true)(k:∀a t',t a=none->t' a=some (.bls [])->(∀y,y≠a->t' y=t y)->Q (aZ b (.tup l) (.adr a)) t'):jk "Watch" true is [] ga m_ ρ t Q:=by
 refine⟨[b,h],F,λx C p A=>⟨λe t'=>e=.non/\∃a n c,a≠x/\t a=none/\t' x=some (.ins "Watch" C p wks [n,c,.ref a] [b,.tup l,.adr a])/\t' a=some (.bls [])/\(∀y,y≠x->y≠a->t' y=t y),Em Ym B u (λa n c t' i j g f m=>⟨rfl,a,n,c,i,by rw[bJ i]at j;exact j,g,f,λy o v=>by rw[m y o v,bJ o]⟩),λe t' h=>?_⟩⟩;obtain⟨rfl,a,n,c,i,j,g,f,m⟩:=h;refine⟨λy s h=>?_,rfl,λz=>(nomatch z),λ_=>⟨_,_,_,g,?_⟩⟩
 .by_cases e:y=x
  .subst e
   rw[g]at h;cases h;refine .inr ?_
   have q:∀{d:D},cN d=true->qB d=true:=λ{d} hd=>by cases d<;>first|exact hd|rfl
   have w:qB (.tup l)=true:=q (E);show[b,.tup l,.adr a].all qB=true;simp[q hb,w];rfl
  .by_cases e2:y=a
   .subst e2
    rw[f]at h;cases h;exact .inr rfl
   .rw[m y e e2]at h
    exact .inl h
 .refine k a _ j ?_ λy r=>?_
  .rw[bJ i]
   exact f
  .by_cases e:y=x
   .rw[e,Ym,A]
   .rw[bJ e]
    exact m y e r
end
def nK(b:Bool):ax b=aK b:=by cases b<;>rfl
def En(H:AH):H.map ax=H.map aK:=Qq λb _=>nK b
def nL(t:Hs)(b:Bool):aB t (aK b)=aK b:=by unfold aK;rw[aB]
abbrev kx:AK:=["hand","paper","book","hands","start"]
abbrev nM(a b c d e:D):D:=.obj "Papered" kx [a,b,c,d,e]
abbrev gG(mb:Bool)(A:AG)(n:Nat):D:=.obj "Rowed" gw [aK mb,.tup (A.map D.int),.int n]
def Row(t:Hs)(x:Addr)(mb:Bool)(A:AG)(n:Nat):Prop:=∃C b c a d,t x=some (.ins "Rowed" C b gw [c,a,d] [aK mb,.tup (A.map D.int),.int n])
def Row.th{t:Hs}{x:Addr}{mb:Bool}{A:AG}{n:Nat}(h:Row t x mb A n):aB t (.adr x)=gG mb A n:=by
 obtain⟨C,b,c,a,d,h⟩:=h;rw[aB,h];rfl
def Row.of{t t':Hs}{x:Addr}{mb:Bool}{A:AG}{n:Nat}(h:Row t x mb A n)(e:t' x=t x):Row t' x mb A n:=by
 obtain⟨C,b,c,a,d,h⟩:=h;exact⟨C,b,c,a,d,e.trans h⟩
def Row.ne{t:Hs}{x l:Addr}{mb:Bool}{A:AG}{n:Nat}{ev:AH}(h:Row t x mb A n)(a:t l=some (.bls ev)):x≠l:=by
 obtain⟨C,d,c,b,f,h⟩:=h;intro e;rw[e,a]at h;cases h
def Eo(x a b:D){t:Hs}{R:D->Hs->Prop}(k:R .non t):mU [x,a,b] t R:=⟨_,rfl,k⟩
theorem Ep{t:Hs}{x:Addr}{mb hb:Bool}{A:AG}{n:Nat}(h:Row t x mb A n)(b:D){R:D->Hs->Prop}(k:∀t',Row t' x mb A (if hb=mb then n+1 else n)->(∀a,a≠x->t' a=t a)->R .non t'):mT [.adr x,aK hb,b] t R:=by
 unfold mT bN;have f:Yd 3 [.adr x,aK hb,b]=[↑(.adr x),↑(aK hb),↑b]:=rfl;rw[f]
 have d:d5 t [↑(.adr x),↑(aK hb),↑b]=[↑(gG mb A n),↑(aK hb),↑(aB t b)]:=by
  show([↑(aB t (.adr x)),↑(aB t (aK hb)),↑(aB t b)]:Ro)=_;rw[h.th,nL]
 refine⟨hb==mb,?_,λe=>?_,λe=>?_⟩
 .show(b2 (aa 1) (b1 (ab 0) (aY "Rowed" "hand")) (au false)) (d5 t _)=_
  rw[d];exact(tp hb mb)
 .have c:=by simpa using e
  obtain⟨C,j,g,i,m,h⟩:=h;refine⟨x,C,j,g,i,m,_,_,n,rfl,h,(k _ ?_ λa l=>bJ l)⟩;rw[if_pos c];exact⟨C,j,g,i,_,Ym⟩
 .have c:=by simpa using e
  refine k t ?_ λ_ _=>rfl;rw[if_neg c];exact h
def ky(A:AG)(n:Nat):Bool:=decide (n<A.length)&&decide (A.getD n 0%2=1)
theorem VG(mb:Bool)(A:AG)(n:Nat)(w:D):sk [gG mb A n,w]=some (.bl (ky A n)):=by
 rw[sk,Yj (by rfl)];have a:Yd 2 [gG mb A n,w]=[↑(gG mb A n),↑w]:=rfl;rw[a];have c:aY "Rowed" "seen" (gG mb A n)=some (.int n):=rfl;have d:aY "Rowed" "row" (gG mb A n)=some (.tup (A.map D.int)):=rfl;unfold ky;by_cases h:n<A.length
 .have b:bj (A.map D.int) n=some (.int (A.getD n 0)):=by
   rw[eD,eU h];simp[h]
  simp[Cc,c,d,h,b]
 .have e:¬n<A.length:=by lia
  simp[Cc,c,d,h]
def Er(mb:Bool)(A:AG)(n:Nat)(w:D):i_ "says" mV (gG mb A n) [w]=some (.bl (ky A n)):=by
 exact VG _ _ _ _
def Es(a b c d e w:D):i_ "says" mV (nM a b c d e) [w]=j7 [nM a b c d e,w]:=by
 rfl
section
variable {t:Hs}{x:Addr}{R Q:D->Hs->Prop}{ρ:Ro}
def K3{c:Str}{C a:Addr}{d:D}(e:t x=some (.ins c C a [] [] []))(b:c∈(["Settler","Rowed","Papered"]:AK))(k:∀v,R .non (pt t x (some (.ins c C a ["hand"] [v] [d])))):sX [.adr x,d] t R:=
 ⟨x,c,C,a,[],[],[],d,rfl,e,b,by simp,by decide,rfl,λv=>k v⟩
theorem Et{C b:Addr}{d r:D}{l:AR}(i:t x=some (.ins "Rowed" C b [] [] []))(g:aL [r]=some (.tup l))(k:∀a c f,R .non (pt t x (some (.ins "Rowed" C b gw [a,c,f] [d,.tup l,.int 0])))):sY [.adr x,d,r] t R:=by
 refine tD ⟨[.adr x,d],rfl,_,K3 (R:=λe t'=>e=.non/\∃v,t'=pt t x (some (.ins "Rowed" C b ["hand"] [v] [d]))) i (by decide) (λv=>⟨rfl,v,rfl⟩),λe t' h=>?_⟩;obtain⟨rfl,a,rfl⟩:=h;refine⟨x,"Rowed",C,b,["hand"],[a],[d],.tup l,rfl,Ym,by decide,by decide,by decide,g,λc=>(⟨x,"Rowed",C,b,["hand","row"],[a,c],[d,.tup l],.int 0,rfl,Ym,by decide,by decide,by decide,rfl,λf=>?_⟩)⟩;have:=k a c f;rw[gF,gF];exact this
theorem VH{C d:Addr}{a b c h s:D}{l:AR}(m:t x=some (.ins "Papered" C d [] [] []))(n:aL [h]=some (.tup l))(k:∀vs,vs.length=5->R .non (pt t x (some (.ins "Papered" C d kx vs [a,b,c,.tup l,s])))):s_ [.adr x,a,b,c,h,s] t R:=by
 refine tD ⟨[.adr x,a],rfl,_,K3 (R:=λe t'=>e=.non/\∃v,t'=pt t x (some (.ins "Papered" C d ["hand"] [v] [a]))) m (by decide) (λv=>⟨rfl,v,rfl⟩),λe t' h=>?_⟩;obtain⟨rfl,f,rfl⟩:=h;refine⟨x,"Papered",C,d,["hand"],[f],[a],b,rfl,Ym,by decide,by decide,by decide,rfl,λg=>?_⟩;rw[gF];refine⟨x,"Papered",C,d,["hand","paper"],[f,g],[a,b],c,rfl,Ym,by decide,by decide,by decide,rfl,λi=>?_⟩;rw[gF];refine⟨x,"Papered",C,d,["hand","paper","book"],[f,g,i],[a,b,c],.tup l,rfl,Ym,by decide,by decide,by decide,?_,λj=>?_⟩
 .exact n
 rw[gF];refine⟨x,"Papered",C,d,["hand","paper","book","hands"],[f,g,i,j],[a,b,c,.tup l],s,rfl,Ym,by decide,by decide,by decide,rfl,λo=>?_⟩;rw[gF];exact k [f,g,i,j,o] rfl
theorem VI{mb:Bool}{r:D}{A:AG}(j:ga (frz is ρ)=some [aK mb,r])(p:aL [r]=some (.tup (A.map D.int)))(k:∀x t',t x=none->Row t' x mb A 0->(∀a,a≠x->t' a=t a)->Q (.adr x) t'):jk "Rowed" false is [] ga sY ρ t Q:=by
 refine⟨[aK mb,r],j,λx C f i=>⟨λe t'=>e=.non/\∃d c b,t'=pt t x (some (.ins "Rowed" C f gw [d,c,b] [aK mb,.tup (A.map D.int),.int 0])),Et Ym p (λd c b=>⟨rfl,d,c,b,gF⟩),λe t' h=>?_⟩⟩;obtain⟨rfl,d,c,b,rfl⟩:=h;refine⟨λa s h=>?_,rfl,λ_=>k x _ i ⟨C,f,d,c,b,Ym⟩ λa l=>bJ l,λz=>(nomatch z)⟩;by_cases e:a=x
 .subst e
  rw[Ym]at h;cases h;refine .inr ?_;have o:qB (aK mb)=true:=rfl
  have m:∀A:AG,bf (A.map D.int)=true:=λA=>by
   induction A with
   | nil=>rfl
   | cons a A n=>rw[Qd,bf,n];rfl
  have g:qB (.tup (A.map D.int))=true:=by
   exact m A
  show[aK mb,.tup (A.map D.int),.int 0].all qB=true;simp[o,g];rfl
 .rw[bJ e]at h
  exact .inl h
def VJ{a b c h:D}{s0:Int}{l:AR}(p:ga (frz is ρ)=some [a,b,c,h,.int s0])(j:aL [h]=some (.tup l))(f:cN a=true)(hb:cN b=true)(o:cN c=true)(n:bf l=true)(k:Q (nM a b c (.tup l) (.int s0)) t):jk "Papered" true is [] ga s_ ρ t Q:=by
 refine⟨[a,b,c,h,.int s0],p,λx C i m=>⟨λe t'=>e=.non/\∃vs,t'=pt t x (some (.ins "Papered" C i kx vs [a,b,c,.tup l,.int s0])),VH Ym j (λvs _=>⟨rfl,vs,gF⟩),λe t' h=>?_⟩⟩;obtain⟨rfl,vs,rfl⟩:=h;refine⟨λy s h=>?_,rfl,λz=>(nomatch z),λ_=>⟨_,_,_,Ym,?_⟩⟩
 .by_cases e:y=x
  .subst e
   rw[Ym]at h;cases h;refine .inr ?_
   have q:∀{d:D},cN d=true->qB d=true:=λ{d} hd=>by cases d<;>first|exact hd|rfl
   have g:qB (.tup l)=true:=q (n);show[a,b,c,.tup l,.int s0].all qB=true;simp[q f,q hb,q o,g];rfl
  .rw[bJ e]at h
   exact .inl h
 .rw[Ec m]
  exact k
end
theorem gH{b:Type}{enc:b->D}(h:∀a,cN (enc a)=true):∀l:List b,bf (l.map enc)=true
 | []=>by rw[List.map_nil,bf]
 | a::l=>by rw[Qd,bf,h,gH h l];rfl
def Eu:i0 (.int 10) (.int 60)=some (.int (10^60)):=rfl
theorem VL:∀(a:AG),a.length<=63->∃A:AG,A.length=a.length/\sM [.lst (a.map D.int)]=some (.lst (A.map D.int)):=λa o=>by
 obtain⟨ρ',e1,A,k,j,hA,rfl⟩:=fF (gt:=ak 2) (fb:=sL) D.int (λi ρ=>∃(A:AG) (k j:AS),A.length=i.length/\ρ=[↑(.lst (a.map D.int)),some (.ow (A.map D.int)),k,j]) a []
  [↑(.lst (a.map D.int)),some (.ow []),none,none] ⟨[],_,_,rfl,rfl⟩ (by
   rintro q c r ρ e ⟨A,k,j,hA,rfl⟩
   have n:q.length<=63:=by
    have:=congrArg List.length e;simp at this;lia
   have f:∀d,bc (A.map D.int) d=some (A.map D.int++[d]):=λd=>iV (by rw[qf];lia)
   have g:((A.map D.int).length)=A.length:=by simp
   have b:az (.int c) (.int (10^60))=some (.int (c%10^60)):=lU (by decide);have l:=Eu;generalize (10^60:Int)=P at *;by_cases m:(A.length:Int)%3=2
   .refine⟨_,[↑(.lst (a.map D.int)),some (.ow ((A++[-1-c%P]).map D.int)),↑(.int c),↑(.int (-1-c%P))],rfl,?_,A++[-1-c%P],_,_,by simp[hA],rfl⟩
    have h:(A++[-1-c%P]).map D.int=A.map D.int++[.int (-1-c%P)]:=by rw[Qk];rfl
    rw[h];simp[sL,l,b,g,m,f]
   .refine⟨_,[↑(.lst (a.map D.int)),some (.ow ((A++[c%P]).map D.int)),↑(.int c),↑(.int (c%P))],rfl,?_,A++[c%P],_,_,by simp[hA],rfl⟩
    have h:(A++[c%P]).map D.int=A.map D.int++[.int (c%P)]:=by rw[Qk];rfl
    rw[h]
    simp[sL,l,b,g,m,f])
 refine⟨A,hA,?_⟩;rw[sM,Yj (by rfl)];simp[CH,Yd,e1]
mutual
theorem nN{t:Hs}:∀{d:D},cN d=true->aB t d=d
 | .non,_=>by rw[aB]
 | .bl _,_=>by rw[aB]
 | .int _,_=>by rw[aB]
 | .str _,_=>by rw[aB]
 | .tup l,h=>by rw[aB,K4 h]
 | .lst _,h=>by cases h
 | .scr _,h=>by cases h
 | .dct _ _ _,h=>by cases h
 | .obj _ _ _,h=>by cases h
 | .adr _,h=>by cases h
theorem K4{t:Hs}:∀{l:AR},bf l=true->cg t l=l
 | [],_=>by rw[cg]
 | d::l,h=>by
   rw[bf,Qe]at h;rw[cg,nN h.1,K4 h.2]
end
abbrev Wa(k:Kd)(R:List Rl)(H:AH)(l:Addr):D:=aZ (Yk k R) (.tup (H.map ax)) (.adr l)
abbrev Kp(pp:D)(k:Kd)(R:List Rl)(H:AH)(st:Nat):D:=nM (aK false) pp (Yk k R) (.tup (H.map ax)) (.int st)
structure Pi(t:Hs)(l y:Addr)(U:AG)(n:Nat)(ev:AH):Prop where
 w:t l=some (.bls ev)
 s:Row t y true U n
section
variable {k:Kd}{R:List Rl}{H:AH}{st:Nat}{l y:Addr}{U:AG}{due:AH->Bool}
def K5{ev:AH}{t:Hs}{ρ:Ro}{b:AW}{f:AX}{Q:D->Hs->Prop}(n:b ρ=some (Wa k R H l)){c:Bool}(j:f ρ=some [.bl c])(h:t l=some (.bls ev))(a:ev.length<H.length)(i:H.length<=60)(g:∀r∈R,dE k H.length r/\sz r<=9999)(m:∀d,Q d (pt t l (some (.bls (ev++[c]))))):gv "settle" sv b f ρ t Q:=
 ⟨_,_,"Watch",wks,mS,λ_ o=>o=pt t l _,n,j,rfl,by decide,rfl,VE h a i g c rfl,λd o e=>by rw[e];exact m d⟩
theorem VM{t:Hs}{x:Addr}{mb hb:Bool}{A:AG}{n:Nat}{ρ:Ro}{j:AW}{i:AX}{Q:D->Hs->Prop}{b:D}(h:Row t x mb A n)(p:j ρ=some (.adr x))(m:i ρ=some [aK hb,b])(k:∀t',Row t' x mb A (if hb=mb then n+1 else n)->(∀a,a≠x->t' a=t a)->Q .non t'):gv "sees" j8 j i ρ t Q:=by
 have o:i9 t (.adr x)=some (("Rowed":Str),gw):=by
  obtain⟨C,u,r,q,s,h⟩:=h
  show(match t x with
   | some (.ins c _ _ ks _ _)=>some (c,ks)
   | _=>none)=_
  rw[h]
 exact⟨_,_,"Rowed",gw,mT,λd t'=>d=.non/\Row t' x mb A (if hb=mb then n+1 else n)/\∀a,a≠x->t' a=t a,p,m,o,by decide,rfl,Ep h b λt' f g=>⟨rfl,f,g⟩,λd t' e=>by
  obtain⟨rfl,f,g⟩:=e
  exact k t' f g⟩
def VN{t:Hs}{a b c d e z:D}{hb:Bool}{ρ:Ro}{g:AW}{f:AX}{Q:D->Hs->Prop}(i:g ρ=some (nM a b c d e))(h:f ρ=some [aK hb,z])(k:Q .non t):gv "sees" j8 g f ρ t Q:=
 ⟨_,_,"Papered",kx,mU,λd t'=>d=.non/\t'=t,i,h,rfl,by decide,rfl,Eo _ _ _ ⟨rfl,rfl⟩,λd t' e=>by
  obtain⟨rfl,rfl⟩:=e
  exact k⟩
def gI(pp:D)(k:Kd)(R:List Rl)(H:AH)(st:Nat)(due:AH->Bool):Prop:=∀ev,st<=ev.length->(h:ev.length<H.length)->H[ev.length]=false->j7 [Kp pp k R H st,cI k R H ev]=some (.bl (due ev))
theorem VO{t:Hs}{ev:AH}{n:Nat}(hs:gI pp k R H st due)(hp:cN pp=true)(hst:st<=ev.length)(hi:ev.length<H.length)(hH:H.length<=60)(hR:∀r∈R,dE k H.length r/\sz r<=9999)(P:Pi t l y U n ev)(y3 y4 y5:AS){Q:b8 Hs->Prop}(kk:∀z3 z4 z5 c n' t',(H[ev.length]=false->c=due ev)->Pi t' l y U n' (ev++[c])->Q (.nx [↑(Wa k R H l),↑(.adr y),↑(Kp pp k R H st),z3,z4,z5] t')):
 sx [↑(Wa k R H l),↑(.adr y),↑(Kp pp k R H st),y3,y4,y5] t Q:=by
 have t1:=ku (H:=H) (k:=k) (R:=R) P.w;have m1:=Ek (Yk k R) (.tup (H.map ax)) (.lst (ev.map D.bl));rw[tB (Nat.le_of_lt hi),nE hi,nK]at m1;unfold sx;refine ko ⟨aK H[ev.length],?_,rfl,?_⟩
 .show(b1 (ab 0) (bw "Watch" "turn" Yn)) (some (.sh (aB t (Wa k R H l)))::_)=_
  rw[t1];simp only[iR,Ak,qd];exact m1
 have hsk:=hs ev hst hi;generalize hq:H[ev.length]=h at *;unfold JG;have hk:au false (aK h) (.str "keeper")=some (h==true):=tp h true;refine nG (ρ':=[↑(Wa k R H l),↑(.adr y),↑(Kp pp k R H st),↑(aK h),↑(if h=true then .adr y else Kp pp k R H st),y5]) ?_ ?_
 .show aw 4 (iC (b2 (aa 3) (kD (.str "keeper")) (au false)) (ab 1) (ab 2)) [↑(Wa k R H l),↑(.adr y),↑(Kp pp k R H st),↑(aK h),y4,y5]=_
  generalize aK h=hh,Wa k R H l=ww,Kp pp k R H st=kk at *;cases h<;>simp[hk]
 unfold JF
 have hthk:aB t (Kp pp k R H st)=Kp pp k R H st:=by
  show aB t (.obj "Papered" kx [aK false,pp,Yk k R,.tup (H.map ax),.int st])=.obj "Papered" kx [aK false,pp,Yk k R,.tup (H.map ax),.int st]
  have hh:aB t (.tup (H.map ax))=.tup (H.map ax):=by rw[aB,kr (nI t)]
  rw[aB,cg,cg,cg,cg,cg,cg,nL,nN hp,Ej,hh,K1]
 refine ko ⟨.bl (if h=true then ky U n else due ev),?_,rfl,?_⟩
 .have hm:aB t (if h=true then .adr y else Kp pp k R H st)=if h=true then gG true U n else Kp pp k R H st:=by
   cases h
   .exact hthk
   .exact P.s.th
  show ra "says" mV (ab 4) (Yb (ab 0) ae) [↑(aB t (Wa k R H l)),↑(aB t (.adr y)),↑(aB t (Kp pp k R H st)),↑(aB t (aK h)),↑(aB t (if h=true then .adr y else Kp pp k R H st)),Option.map (eW t) y5]=_;rw[hm,t1];have dk:=Es (aK false) pp (Yk k R) (.tup (H.map ax)) (.int st) (cI k R H ev);have ds:=Er true U n (cI k R H ev);generalize cI k R H ev=ww,aB t (Kp pp k R H st)=w1,aB t (.adr y)=w2,aB t (aK h)=w3 at *;unfold ra;cases h
  .rw[hsk rfl]at dk
   simp;exact dk
  .simp
   exact ds
 have hcd:h=false->(if h=true then ky U n else due ev)=due ev:=λz=>by rw[z];rfl
 generalize (if h=true then ky U n else due ev)=c at *;unfold JE;refine tD (K5 (ev:=ev) rfl rfl P.w hi hH hR λd=>?_);have ny:=P.s.ne P.w;have s1:Row (pt t l (some (.bls (ev++[c])))) y true U n:=P.s.of (bJ ny);have w1:pt t l (some (.bls (ev++[c]))) l=some (.bls (ev++[c])):=Ym;generalize pt t l (some (.bls (ev++[c])))=t1 at *;unfold JD;refine tD (VM (hb:=h) (b:=.bl c) s1 rfl rfl λt3 s3 f3=>?_);unfold JC;show gv "sees" j8 _ _ _ _ _;refine VN (hb:=h) (z:=.bl c) rfl rfl ?_;exact kk _ _ _ c _ t3 hcd ⟨by rw[f3 l (Ne.symm ny)];exact w1,s3⟩
def Kept(H:AH)(st:Nat)(due:AH->Bool)(ev:AH):Prop:=∀i (h:i<ev.length) (h2:i<H.length),st<=i->H[i]=false->ev[i]=due (ev.take i)
theorem Kept.snoc{ev:AH}{c:Bool}(h:Kept H st due ev)(hi:ev.length<H.length)(hc:H[ev.length]=false->c=due ev):Kept H st due (ev++[c]):=λi h1 h2 h3 h4=>by
 rw[qz,jc]at h1;by_cases e:i=ev.length
 .subst e
  rw[List.getElem_append_right (qv _),List.take_left];simp;exact hc h4
 .have hl:i<ev.length:=by lia
  rw[List.getElem_append_left hl,List.take_append_of_le_length ∅];exact h i hl h2 h3 h4
theorem K6(hs:gI pp k R H st due)(hp:cN pp=true)(hH:H.length<=60)(hR:∀r∈R,dE k H.length r/\sz r<=9999){Q:b8 Hs->Prop}(kk:∀z3 z4 z5 n' t' ev,ev.length=H.length->Kept H st due ev->Pi t' l y U n' ev->Q (.nx [↑(Wa k R H l),↑(.adr y),↑(Kp pp k R H st),z3,z4,z5] t')):
 ∀(j:Nat) (ev:AH) (n:Nat) (t:Hs) (y3 y4 y5:AS),ev.length+j=H.length->st<=ev.length->Kept H st due ev->Pi t l y U n ev->jX (gY (b2 (b1 (ab 0) (bw "Watch" "turn" Yn)) (kD .non) (cw true))) sx (j+1) [↑(Wa k R H l),↑(.adr y),↑(Kp pp k R H st),y3,y4,y5] t Q
 | j,ev,n,t,y3,y4,y5,e,hst,hK,P=>by
   have t1:=ku (H:=H) (k:=k) (R:=R) P.w;have m1:=Ek (Yk k R) (.tup (H.map ax)) (.lst (ev.map D.bl));rw[tB ∅]at m1
   have ht:gY (b2 (b1 (ab 0) (bw "Watch" "turn" Yn)) (kD .non) (cw true)) [↑(Wa k R H l),↑(.adr y),↑(Kp pp k R H st),y3,y4,y5] t=cw true (kj H ev) .non:=by
    show b2 (b1 (ab 0) (bw "Watch" "turn" Yn)) (kD .non) (cw true) (some (.sh (aB t (Wa k R H l)))::_)=_;rw[t1];simp only[iQ,iR,Ak,qd,zV];rw[m1,qd]
   cases j with
   | zero=>
     rw[D6 ∅]at ht;exact⟨false,ht.trans rfl,λz=>(nomatch z),λ_=>kk y3 y4 y5 n t ev ∅ hK P⟩
   | succ j=>
     have hi:ev.length<H.length:=by lia
     rw[nE hi]at ht;refine⟨true,ht.trans rfl,λ_=>?_,λz=>(nomatch z)⟩;refine VO hs hp hst hi hH hR P y3 y4 y5 λz3 z4 z5 c n' t' hc P'=>?_;exact K6 hs hp hH hR kk j (ev++[c]) n' t' z3 z4 z5 (by rw[qz,jc];lia) (by rw[qz];lia) (hK.snoc hi hc) P'
theorem VP{t:Hs}{ev:AH}{n:Nat}(hs:gI pp k R H st due)(hp:cN pp=true)(hH:H.length<=60)(hR:∀r∈R,dE k H.length r/\sz r<=9999)(hst:st<=ev.length)(hev:ev.length<=H.length)(hK:Kept H st due ev)(P:Pi t l y U n ev){W:D->Hs->Prop}(kk:∀t' ev',ev'.length=H.length->Kept H st due ev'->t' l=some (.bls ev')->W (cv k R H ev') t'):sA [Wa k R H l,.adr y,Kp pp k R H st] t W:=by
 unfold sA bN;have hst':Yd 6 [Wa k R H l,.adr y,Kp pp k R H st]=[↑(Wa k R H l),↑(.adr y),↑(Kp pp k R H st),none,none,none]:=rfl;rw[hst'];unfold JH;refine⟨H.length-ev.length+1,K6 (due:=due) hs hp hH hR ?_ (H.length-ev.length) ev n t none none none ∅ hst hK P⟩;intro z3 z4 z5 n' t' ev' he' hK' P';have t1:=ku (H:=H) (k:=k) (R:=R) P'.w;have m4:=El (Yk k R) (.tup (H.map ax)) (.lst (ev'.map D.bl));rw[D7 ∅ hR]at m4;refine⟨_,?_,KW _ _ _ _,kk t' ev' he' hK' P'.w⟩;show b1 (ab 0) (bw "Watch" "winner" Yp) (some (.sh (aB t' (Wa k R H l)))::_)=_;rw[t1];simp only[iR,Ak,qd];exact m4
end
def Fw(st:Nat):Rl->Prop
 | .ei l=>∀s∈l,st<=s.1
 | .su b _=>∀x∈b,st<=x
 | .im b h=>(∀x∈b,st<=x)/\∀x,h=some x->st<=x
theorem Ew{k:Kd}{st b:Nat}{lit:Bool}{r:Rl}(h:Fw st r)(hb:b<st):cH k b lit r=some r:=by
 have g:∀{l:AF},(∀x∈l,st<=x)->Bk.wo b l=l:=λ{l} f=>List.filter_eq_self.mpr λx d=>by have:=f x d;lia
 cases r with
 | ei l=>
   have a:(b,lit)∉l:=λz=>by have:=h _ z;lia
   have c:iY b l=l:=List.filter_eq_self.mpr λx d=>by have:=h x d;lia
   show(if (b,lit)∈l then none else some (Rl.ei (iY b l)))=_;rw[if_neg a,c]
 | su l o=>
   have a:b∉l:=λz=>by have:=h _ z;lia
   show(if b∈l then _ else some (Rl.su l o))=_;rw[if_neg a]
 | im l q=>
   have a:b∉l:=λz=>by have:=h.1 _ z;lia
   have c:¬q=some b:=λz=>by have:=h.2 _ z;lia
   show(if _ then none else some (Rl.im (Bk.wo b l) (if q=some b then none else q)))=_;rw[if_neg (by simp[a,c]),g h.1,if_neg c]
theorem nO{c:Type}{f:c->Option c}:∀{l:List c},(∀a∈l,f a=some a)->l.filterMap f=l
 | [],_=>rfl
 | a::l,h=>by rw[List.filterMap_cons,h a (.head _),nO λb hb=>h b (.tail _ hb)]
theorem K7{k:Kd}{st:Nat}{R:List Rl}(h:∀r∈R,Fw st r):∀(ev:AH) (i:Nat),i+ev.length<=st->nF k i ev R=R
 | [],_,_=>rfl
 | b::ev,i,a=>by
   rw[qt]at a;rw[nF,(nO λr c=>Ew (h r c) ∅)];exact K7 h ev (i+1) ∅
def Ex(r:Rl):cN (aA r)=true:=by
 have a:∀l:AF,bf (l.map nD)=true:=λl=>gH (λ_=>rfl) l
 cases r with
 | ei l=>exact(λl=>gH (λ_=>rfl) l) l
 | su l o=>show(bf (l.map nD)&&(cN (.bl o)&&bf []))=true;rw[a];rfl
 | im l h=>show(bf (l.map nD)&&(cN (aj h)&&bf []))=true;rw[a];cases h<;>rfl
def Ey(k:Kd)(R:List Rl):cN (Yk k R)=true:=by
 show(cN (aJ k)&&(bf _&&_))=true;rw[gH Ex];rfl
def nP(H:AH):bf (H.map ax)=true:=gH (λ_=>rfl) H
def VQ{k:Kd}{ev:AH}{R:List Rl}(h:¬∀r∈R,so k ev r=true):brk k ev R≠[]:=λe=>h λr hr=>by
 obtain⟨i,hi,rfl⟩:=List.mem_iff_getElem.mp hr;unfold brk at e;have h1:=List.filter_eq_nil_iff.mp e i (List.mem_range.mpr hi)
 have h2:gq R i=R[i]:=by unfold gq;simp[hi]
 rw[h2]at h1;simpa using h1
structure Game(pp:D)(k:Kd)(R:List Rl)(H:AH)(st:Nat)(due:AH->Bool):Prop where
 gd:mW [pp,Yk k R,.lst (H.map ax),.int st,.str "storm"]=some (.bl true)
 sy:gI pp k R H st due
 pl:cN pp=true
 ok:∀r∈R,dE k H.length r/\sz r<=60
 fw:∀r∈R,Fw st r
 ln:R.length<=63
 hH:H.length<=20
 hs:st<=H.length
 wn:∀ev,ev.length=H.length->Kept H st due ev->¬∀r∈R,so k ev r=true
def VR(b h x:D):bw "Watch" "left" jw (aZ b h x)=jw [aZ b h x]:=nC _ (by decide) _ b h x
def Ez(ns:AG)(h:ns.length<=63):bB (ns.map D.int) none (some 63)=ns.map D.int:=by
 unfold bB;have b:=HT.sIx_nat (ns.map D.int).length (ns.map D.int).length 63;rw[Nat.min_eq_right (by simpa using h)]at b;have c:HT.sIx (ns.map D.int).length (ns.map D.int).length (some 63)=(ns.map D.int).length:=b;rw[c,HT.sIx_none];exact List.take_of_length_le nofun
abbrev nQ:b8 Hs->Prop:=fun
 | .rt (.bl true) _=>True
 | _=>False
def ro(ns:AG)(n w:Int)(pp:D)(k:Kd)(R:List Rl)(H:AH)(st:Nat)(l:Addr)(BD:AR)(y9 y10 y11 y12:AS):Ro:=[↑(.scr ns),↑(.int n),↑(.lst (H.map ax)),↑(.int st),↑(.int w),↑pp,↑(Yk k R),↑(Wa k R H l),↑(.lst BD),y9,y10,y11,y12]
section
variable {n w:Int}{k:Kd}{R:List Rl}{H ev:AH}{st:Nat}{l:Addr}{BD:AR}{y9 y10 y11 y12:AS}{due:AH->Bool}{t:Hs}
theorem Game.r(g:Game pp k R H st due):∀r∈R,dE k H.length r/\sz r<=9999:=λr a=>⟨(g.ok r a).1,by have:=(g.ok r a).2;lia⟩
def nR(hl:t l=some (.bls ev)):∃z0 z1 z2 z3 z4 z5 z8,d5 t (ro ns n w pp k R H st l BD y9 y10 y11 y12)=[z0,z1,z2,z3,z4,z5,↑(Yk k R),↑(cI k R H ev),z8,y9.map (eW t),y10.map (eW t),y11.map (eW t),y12.map (eW t)]:=by
 refine⟨some (.sh (aB t (.scr ns))),↑(aB t (.int n)),↑(aB t (.lst (H.map ax))),↑(aB t (.int st)),↑(aB t (.int w)),↑(aB t pp),↑(aB t (.lst BD)),?_⟩;show([↑(aB t (.scr ns)),↑(aB t (.int n)),↑(aB t (.lst (H.map ax))),↑(aB t (.int st)),↑(aB t (.int w)),↑(aB t pp),↑(aB t (Yk k R)),↑(aB t (Wa k R H l)),↑(aB t (.lst BD)),y9.map (eW t),y10.map (eW t),y11.map (eW t),y12.map (eW t)]:Ro)=_;rw[ku hl,Ej]
theorem EA(g:Game pp k R H st due)(he:ev.length=H.length)(hK:Kept H st due ev)(hl:t l=some (.bls ev)):CP (ro ns n w pp k R H st l BD y9 y10 y11 (↑(cv k R H ev))) t nQ:=by
 have hno:=g.wn ev he hK
 have hw:cv k R H ev=.str "storm":=by
  unfold cv;rw[if_neg ∅,if_neg (VQ hno)]
 have m4:=El (Yk k R) (.tup (H.map ax)) (.lst (ev.map D.bl));rw[D7 ∅ g.r,hw]at m4;have m6:=K2 (Yk k R) (.tup (H.map ax)) (.lst (ev.map D.bl));rw[KU]at m6;have hw2:cI k R H ev=aZ (Yk k R) (.tup (H.map ax)) (.lst (ev.map D.bl)):=rfl;have hb1:Yc (Yk k R)=some [aJ k,.tup (R.map aA)]:=rfl;obtain⟨z0,z1,z2,z3,z4,z5,z8,eth⟩:=nR (k:=k) (R:=R) (H:=H) (ns:=ns) (n:=n) (w:=w) (pp:=pp) (st:=st) (BD:=BD) (y9:=y9) (y10:=y10) (y11:=y11) (y12:=some (.sh (cv k R H ev))) hl
 have hcm:=di (fe:=td) (r:=[↑(Yk k R),↑(cI k R H ev)]) (enc:=aA) (λr=>.bl (so k ev r)) (l:=R) (λr hr=>by
  have:=C7 (c:=.tup (ev.map D.bl)) (ev:=ev) rfl (k:=k) (r:=r) (by rw[he];exact(g.ok r hr).1.1);rw[hw2];generalize aZ (Yk k R) (.tup (H.map ax)) (.lst (ev.map D.bl))=wq,aA r=rq,ev.map D.bl=ED,Yk k R=bq at *
  simp[td,hb1,m6,this])
 have hal:c6 [.lst (R.map λr=>D.bl (so k ev r))]=some (.bl false):=by
  have b0:=l6 (λr:Rl=>so k ev r) R
  have b1:(R.map λr=>so k ev r).all id=false:=by
   cases h:(R.map λr=>so k ev r).all id with
   | false=>rfl
   | true=>
     refine absurd (λr hr=>?_) hno;exact List.all_eq_true.mp h _ (List.mem_map_of_mem hr)
  simp[b0,b1]
 rw[hw]at eth ⊢;unfold CP;refine nH ?_ ?_
 .show ec _ _ (d5 t (ro ns n w pp k R H st l BD y9 y10 y11 (↑(.str "storm"))))=_
  rw[eth,hw2]
  have q1:au true (.str "storm") (.str "storm")=some false:=by
   rw[ej nofun nofun];simp
  have q2:fx "str" (.str "storm")=some true:=rfl
  have q3:Option.map (eW t) (some (B.sh (.str "storm")))=some (.sh (.str "storm")):=by
   show some (B.sh (aB t _))=_;rw[Ee]
  rw[q3];generalize aZ (Yk k R) (.tup (H.map ax)) (.lst (ev.map D.bl))=wq,D.str "storm"=kq at *;simp[q1,q2,m4]
 .unfold J2
  refine⟨.bl true,?_,rfl,trivial⟩;show(cZ (cC (Yb (lF (Yv (b1 (b2 (aa 6) (Zb 1) ai) Yc) [none,some 6,some 7] (ak 0) tY (td))) ae) c6)) (d5 t (ro ns n w pp k R H st l BD y9 y10 y11 (↑(.str "storm"))))=_;rw[eth];generalize cI k R H ev=wq,Yk k R=bq,R.map aA=RR,(R.map λr=>D.bl (so k ev r))=TT at *;simp[hb1,ar,hcm,hal]
theorem EB(g:Game pp k R H st due)(hns:ns.length<=63)(hl:t l=some (.bls ev))(he:ev.length=st):CT (ro ns n w pp k R H st l BD y9 none none none) t nQ:=by
 unfold CT;have m1:=VR (Yk k R) (.tup (H.map ax)) (.lst (ev.map D.bl));rw[D9 H ev g.r,K7 g.fw ev 0 ∅]at m1;refine ko ⟨Yk k R,?_,Ey k R,?_⟩
 .obtain⟨z0,z1,z2,z3,z4,z5,z8,eth⟩:=nR (k:=k) (R:=R) (H:=H) (ns:=ns) (n:=n) (w:=w) (pp:=pp) (st:=st) (BD:=BD) (y9:=y9) (y10:=none) (y11:=none) (y12:=none) hl
  show b1 (ab 7) (bw "Watch" "left" jw) (d5 t (ro ns n w pp k R H st l BD y9 none none none))=_;rw[eth];have hw2:cI k R H ev=aZ (Yk k R) (.tup (H.map ax)) (.lst (ev.map D.bl)):=rfl;rw[hw2];generalize aZ (Yk k R) (.tup (H.map ax)) (.lst (ev.map D.bl))=wq at *;generalize Yk k R=bq at *;simp[m1]
 show CS (ro ns n w pp k R H st l BD y9 (↑(Yk k R)) none none) t nQ;unfold CS;have hgd:=g.gd;refine nG (ρ':=ro ns n w pp k R H st l BD y9 (↑(Yk k R)) none none) ?_ ?_
 .unfold ro
  generalize Wa k R H l=ww,Yk k R=bk,H.map ax=HD at *;simp[hgd,iH]
 unfold J3;refine ko (VJ (a:=aK false) (b:=pp) (c:=Yk k R) (h:=.lst (H.map ax)) (s0:=(st:Int)) (l:=H.map ax) ?_ nofun rfl g.pl (Ey k R) (nP H) ?_)
 .rfl
 show CQ (ro ns n w pp k R H st l BD y9 (↑(Yk k R)) (↑(Kp pp k R H st)) none) t nQ;unfold CQ;obtain⟨A,hA1,hA2⟩:=VL ns hns;have hc:=Ez ns hns;refine ko ?_;show rm 3 _ _ _ _ _;unfold rm;refine D_ ⟨_,rfl,D_ (VI (mb:=true) (r:=.lst (A.map D.int)) (A:=A) ?_ nofun λy t1 h1 h2 h3=>D_ ⟨_,rfl,Ea ⟨rfl,λd t'=>∃ev',ev'.length=H.length/\Kept H st due ev'/\t' l=some (.bls ev')/\d=cv k R H ev',?_,λd t' hd=>?_⟩⟩)⟩
 .have hk:aK true=.str "keeper":=rfl
  rw[hk];unfold ro;generalize A.map D.int=AD,Kp pp k R H st=kp,Wa k R H l=ww,Yk k R=bk,H.map ax=HD at *;simp[hc,hA2]
 .have nl:l≠y:=λz=>by rw[z]at hl;rw[h1]at hl;cases hl
  exact VP (due:=due) g.sy g.pl (by have:=g.hH;lia) g.r (Nat.le_of_eq he.symm) (by have:=g.hs;lia) (λi h4 _ h5 _=>by lia) ⟨by rw[h3 l nl];exact hl,h2⟩ λt' ev' a1 a2 a3=>⟨ev',a1,a2,a3,rfl⟩
 .obtain⟨ev',a1,a2,a3,rfl⟩:=hd
  exact EA (y10:=some (.sh (Yk k R))) (y11:=some (.sh (Kp pp k R H st))) g a1 a2 a3
end
def EC{st:Nat}{r:Rl}:Fw st (gE st r):=by
 cases r with
 | ei l=>
   intro s hs;obtain⟨a,_,rfl⟩:=qy hs;exact Nat.le_add_right _ _
 | su b o=>
   intro x hx;obtain⟨a,_,rfl⟩:=qy hx;exact Nat.le_add_right _ _
 | im b o=>
   refine⟨λx hx=>?_,λx hx=>?_⟩
   .obtain⟨a,_,rfl⟩:=qy hx
    exact Nat.le_add_right _ _
   .cases o with
    | none=>cases hx
    | some y=>
      cases hx;exact Nat.le_add_right _ _
def OkW(k:Kd)(n st:Nat)(r:Rl):Prop:=(In k n r/\dR r)/\Fw st r
theorem OkW.ok{k:Kd}{n st:Nat}(hn:n<=58){r:Rl}(h:OkW k n st r):dE k n r/\sz r<=60:=⟨h.1,Qg (mj h.1.1 h.1.2) ∅⟩
theorem EF(ns:AG)(k:Kd){n st:Nat}(h:st<n)(hn:n<=60):∃R:List Rl,R.length<=28/\(∀r∈R,OkW k n st r)/\jt [.scr ns,aJ k,.int st,.int n]=some (R.map aA):=by
 have k2:=J7 ns 5 33;generalize hcl:(ns.drop (min 5 ns.length)).take (min 33 ns.length-min 5 ns.length)=cells at k2
 have hcl':cells.length<=28:=by
  rw[<-hcl,List.length_take,List.length_drop];lia
 obtain⟨R,h1,_,h3,h4⟩:=Kr (fe:=CJ) (r:=[↑(aJ k),↑(.int n),↑(.int st)]) (enc:=D.int) (g:=aA) (P:=λ_ r=>OkW k n st r) cells (λc _=>by
  obtain⟨r,g1,g2,g3⟩:=C6 k c (n-st) ∅ ∅;have g4:=Vc g1 st
  have e:((n-st:Nat):Int)=(n:Int)-(st:Int):=by lia
  rw[e]at g3;refine⟨gE st r,⟨DE (n:=n) ∅ g1 g2,EC⟩,?_⟩;generalize aA (gE st r)=r1,aA r=r2,aJ k=kd at *
  simp[CJ,g3,g4])
 refine⟨R,by lia,λr hr=>(h3 r hr).elim λ_ z=>z.2,?_⟩;have hrun:jt [.scr ns,aJ k,.int (st:Int),.int (n:Int)]=CK [↑(.scr ns),↑(aJ k),↑(.int st),↑(.int n)]:=rfl;rw[hrun];simp at k2;generalize R.map aA=RR,aJ k=kd at *;simp[CK,k2,ar,h4]
theorem VS(c:Int){n st:Nat}(h:st<n){l:AZ}(hl:l.length<=1000)(a0 a1 a4 a5 y8 a9 a10 a11:AS):
 ∃(s:bh) (z8:AS),(st<=s.1/\s.1<n)/\Yy [a0,a1,↑(.int st),↑(.int n),a4,a5,some (.ow (l.map af)),↑(.int c),y8,a9,a10,a11] =
  some (.nx [a0,a1,↑(.int st),↑(.int n),a4,a5,some (.ow ((l++[s]).map af)),↑(.int c),z8,a9,a10,a11]):=by
 obtain⟨v,_,hv⟩:=tf c 2049848353892358983
 have hd:(0:Int)<(n:Int)-st:=by lia
 obtain⟨a,ea,ha,sta⟩:∃a:Nat,(st:Int)+v/2%((n:Int)-st)=(a:Int)/\a<n/\st<=a:=by
  have g1:=Int.emod_nonneg (v/2) (show(n:Int)-st≠0 by lia);have g2:=Int.emod_lt_of_pos (v/2) hd;exact⟨((st:Int)+v/2%((n:Int)-st)).toNat,by lia,by lia,by lia⟩
 have hm:az (.int (v/2)) (.int ((n:Int)-st))=some (.int (v/2%((n:Int)-st))):=lU hd;refine⟨(a,decide (v%2=1)),↑(.int v),⟨sta,ha⟩,?_⟩;have happ:∀d:D,bc (l.map af) d=some (l.map af++[d]):=λd=>iV (by rw[qf];lia)
 have hap:(l++[(a,decide (v%2=1))]).map af=l.map af++[.tup [.int a,.bl (decide (v%2=1))]]:=by rw[Qk];rfl
 rw[hap];generalize l.map af=LL at *;simp[Yy,hv,hm,ea,happ]
theorem VT{n st i:Nat}(hn:n<=60){road:AZ}(hr:∀s∈road,st<=s.1/\s.1<n)(hi:i+1<road.length){L:AY}(hL:L.length<=1000)(a0 a1 a2 a3 a4 a5 a7 a8 a9:AS):
 ∃l:AZ,OkW .e n st (.ei l)/\cb (aQ road i) (aQ road (i+1)) l/\m8 [a0,a1,a2,a3,a4,a5,some (.ow (road.map af)),a7,a8,a9,some (.ow (L.map dV)),↑(.int (i:Int))] =
  some (.nx [a0,a1,a2,a3,a4,a5,some (.ow (road.map af)),a7,a8,a9,some (.ow ((L++[l]).map dV)),↑(.int (i:Int))]):=by
 have hat:∀j,j<road.length->aQ road j∈road:=λj hj=>by
  unfold aQ;rw[Qt,qr hj];exact Qs hj
 have g1:=hr _ (hat i ∅);have g2:=hr _ (hat (i+1) hi);obtain⟨l,e1,e2,e3,e4⟩:=U_ (n:=n) (s:=cy (aQ road i)) (t:=aQ road (i+1)) g1.2 g2.2 hn;refine⟨l,⟨⟨e1,e2⟩,λs hs=>?_⟩,e3,?_⟩
 .rcases(e3 s).mp hs with rfl|rfl
  .exact g1.1
  .exact g2.1
 have hx:∀j:Nat,j<road.length->bj (road.map af) (j:Int)=some (af (aQ road j)):=λj hj=>by
  rw[eD,eU hj];unfold aQ;simp[hj]
 have x1:=hx i ∅;have x2:=hx (i+1) hi;have happ:∀d:D,bc (L.map dV) d=some (L.map dV++[d]):=λd=>iV (by rw[qf];lia)
 have hap:(L++[l]).map dV=L.map dV++[.tup (l.map af)]:=by rw[Qk];rfl
 have i1:Yc (af (aQ road i))=some [.int (aQ road i).1,.bl (aQ road i).2]:=rfl;have f1:af (cy (aQ road i))=.tup [.int (aQ road i).1,.bl (!(aQ road i).2)]:=rfl;rw[f1]at e4;rw[hap]
 have ei:((i+1:Nat):Int)=(i:Int)+1:=by lia
 rw[ei]at x2;generalize L.map dV=LL,l.map af=ll,af (aQ road i)=s1 at *;generalize af (aQ road (i+1))=s2,road.map af=RR at *;simp[m8,x1,x2,i1,e4,happ]
theorem EG(n:Nat)(h:n<=1000):cD [.int (n:Int)]=some ((List.range' 0 n).map λn:Nat=>D.int (n:Int)):=by
 rw[qF ∅ ∅,gW];simp[List.range_eq_range']
theorem nT{st a:Nat}{q r:AF}(e:List.range' 0 st=q++a::r):a=q.length/\q.length<st:=by
 have h1:=congrArg List.length e;simp at h1
 have h2:(List.range' 0 st)[q.length]?=some a:=by rw[e];simp
 rw[List.getElem?_range' ∅]at h2;simp at h2;lia
theorem nU(ns:AG)(x:Int)(m:Nat)(hm:0<m):∃cells:AG,cells.length<=m/\bB (ns.map D.int) (some 33) (some (33+x%(m:Int)))=cells.map D.int:=by
 have g1:=Int.emod_nonneg x (show(m:Int)≠0 by lia);have g2:=Int.emod_lt_of_pos x (show(0:Int)<m by lia);have k2:=J7 ns 33 (33+(x%(m:Int)).toNat)
 have e:((33+(x%(m:Int)).toNat:Nat):Int)=33+x%(m:Int):=by lia
 rw[e]at k2;exact⟨_,by rw[List.length_take,List.length_drop];lia,k2⟩
theorem VU(cells:AG)(hc:cells.length<=100){n st:Nat}(h:st<n){a:bh}(ha:st<=a.1/\a.1<n)(a0 a1 a4 a5 a9 a10 a11:AS):∃(mid:AZ) (z7 z8:AS),mid.length=cells.length/\(∀s∈mid,st<=s.1/\s.1<n)/\M.forM (ak 7) Yy (cells.map D.int) [a0,a1,↑(.int st),↑(.int n),a4,a5,some (.ow [af a]),none,none,a9,a10,a11] =
 some (.nx [a0,a1,↑(.int st),↑(.int n),a4,a5,some (.ow ((a::mid).map af)),z7,z8,a9,a10,a11]):=by
 obtain⟨ρ',e1,mid,z7,z8,h1,h2,rfl⟩:=fF (gt:=ak 7) (fb:=Yy) D.int (λpre ρ=>∃(mid:AZ) (z7 z8:AS),mid.length=pre.length/\(∀s∈mid,st<=s.1/\s.1<n)/\ρ=[a0,a1,↑(.int st),↑(.int n),a4,a5,some (.ow ((a::mid).map af)),z7,z8,a9,a10,a11]) cells []
  [a0,a1,↑(.int st),↑(.int n),a4,a5,some (.ow [af a]),none,none,a9,a10,a11] ⟨[],none,none,rfl,by simp,rfl⟩ (by
   rintro q c r ρ e ⟨mid,z7,z8,h1,h2,rfl⟩
   have hq:q.length<=100:=by
    have:=congrArg List.length e;simp at this;lia
   obtain⟨s,y8,g1,g2⟩:=VS c h (l:=a::mid) (by simp;lia) a0 a1 a4 a5 z8 a9 a10 a11;refine⟨_,_,rfl,g2,mid++[s],_,_,by simp[h1],λx hx=>?_,rfl⟩;rcases qw hx with hx|hx
   .exact h2 x hx
   .rw[Qu]at hx
    rw[hx]
    exact g1)
 exact⟨mid,z7,z8,by simpa using h1,h2,e1⟩
theorem VW{n st:Nat}(hn:n<=60){road:AZ}(hr:∀s∈road,st<=s.1/\s.1<n)(h0:0<road.length)(hl:road.length<=100)(a0 a1 a2 a3 a4 a5 a7 a8 a9:AS):∃(L:AY) (z11:AS),L.length<=road.length/\(∀l∈L,OkW .e n st (.ei l))/\(∀i,i+1<road.length->∃l∈L,cb (aQ road i) (aQ road (i+1)) l)/\
 M.forM (ak 11) m8 ((List.range' 0 (road.length-1)).map λn:Nat=>D.int (n:Int)) [a0,a1,a2,a3,a4,a5,some (.ow (road.map af)),a7,a8,a9,some (.ow []),none]=some (.nx [a0,a1,a2,a3,a4,a5,some (.ow (road.map af)),a7,a8,a9,some (.ow (L.map dV)),z11]):=by
 obtain⟨ρ',e1,L,z11,h1,h2,h3,rfl⟩:=fF (gt:=ak 11) (fb:=m8) (λn:Nat=>D.int (n:Int)) (λpre ρ=>∃(L:AY) (z11:AS),L.length=pre.length/\(∀l∈L,OkW .e n st (.ei l))/\(∀i,i<pre.length->∃l∈L,cb (aQ road i) (aQ road (i+1)) l)/\
  ρ=[a0,a1,a2,a3,a4,a5,some (.ow (road.map af)),a7,a8,a9,some (.ow (L.map dV)),z11]) (List.range' 0 (road.length-1)) []
  [a0,a1,a2,a3,a4,a5,some (.ow (road.map af)),a7,a8,a9,some (.ow []),none] ⟨[],none,rfl,by simp,by simp,rfl⟩ (by
   rintro q b r ρ e ⟨L,z11,h1,h2,h3,rfl⟩;rw[Qj]at e;obtain⟨rfl,hq⟩:=nT e;obtain⟨l,g1,g2,g3⟩:=VT hn hr (i:=q.length) ∅ (L:=L) ∅ a0 a1 a2 a3 a4 a5 a7 a8 a9;refine⟨_,_,rfl,g3,L++[l],_,by simp[h1],λx hx=>?_,λi hi=>?_,rfl⟩
   .rcases qw hx with hx|hx
    .exact h2 x hx
    .rw[Qu]at hx
     rw[hx];exact g1
   .by_cases hiq:i<q.length
    .obtain⟨x,hx,k⟩:=h3 i hiq
     exact⟨x,List.mem_append_left _ hx,k⟩
    .have:i=q.length:=by simp at hi;lia
     subst this
     exact⟨l,by simp,g2⟩)
 rw[Qj,List.length_range']at h1 h3;exact⟨L,z11,by lia,h2,λi hi=>h3 i ∅,e1⟩
def EH(s t:bh):au false (af s) (af t)=some (decide (s=t)):=by
 have:=Do false s t;simpa using this
def nV(H:AH):D.lst (H.map ax)=.lst (H.map aK):=by rw[En]
section
variable {n st:Nat}{SS RD:AR}
def EI(hlen:((HH.length:Nat):Int)=(n:Int)){S:AF}(hown:gB [.lst HH,.int st,.str "storm"]=some (.lst (S.map nD)))(c3:Ye [.scr ns,.int 3]=some (.int x3))(hS:0<S.length):∃a:bh,a.1∈S/\
 CM [↑(.scr ns),↑(.lst HH),↑(.int st),none,none,none,none,none,none,none,none,none]=ju [↑(.scr ns),↑(.lst HH),↑(.int st),↑(.int n),↑(.lst (S.map nD)),some (.ow [af a]),some (.ow [af a]),none,none,none,none,none]:=by
 obtain⟨x,hx,p1,p2⟩:=nu hS x3
 have hl:((S.map nD).length:Int)=(S.length:Int):=by simp
 refine⟨(x,decide (x3/64%2=1)),hx,?_⟩;have hs:af (x,decide (x3/64%2=1))=.tup [.int x,.bl (decide (x3/64%2=1))]:=rfl;rw[hs];generalize S.map nD=SD at *;simp[CM,hlen,hown,c3,hl,p1,p2]
def VX{a4 a5 a6 a6' z7 z8:AS}{y:Int}{CC:AR}(c4:Ye [.scr ns,.int 4]=some (.int x4))(hy:x4%6=y)(hcut:bB (ns.map D.int) (some 33) (some (33+y))=CC)(m3:M.forM (ak 7) Yy CC [↑(.scr ns),↑(.lst HH),↑(.int st),↑(.int n),a4,a5,a6,none,none,none,none,none]=some (.nx [↑(.scr ns),↑(.lst HH),↑(.int st),↑(.int n),a4,a5,a6',z7,z8,none,none,none])):
 ju [↑(.scr ns),↑(.lst HH),↑(.int st),↑(.int n),a4,a5,a6,none,none,none,none,none]=sQ [↑(.scr ns),↑(.lst HH),↑(.int st),↑(.int n),a4,a5,a6',z7,z8,none,none,none]:=by
 rw[ju];simp only[lP]
 have e:(bM (b1 (lF (iD (aa 0) (some (Zb 33)) (some (b2 (Zb 33) (b2 (cC (Yb (ab 0) (Yb (Zb 4) ae)) Ye) (Zb 6) az) bS)))) Yc) (ak 7) Yy) [↑(.scr ns),↑(.lst HH),↑(.int st),↑(.int n),a4,a5,a6,none,none,none,none,none]=some (.nx [↑(.scr ns),↑(.lst HH),↑(.int st),↑(.int n),a4,a5,a6',z7,z8,none,none,none]):=by
  simp[c4,hy,hcut,m3]
 rw[e,qd,lN]
def VY{S:AF}{x:Nat}{c:Bool}(a0 a1 a2 a5 a6 z7 z8:AS)(c4:Ye [.scr ns,.int 4]=some (.int x4))(hc:decide (x4/384%2=1)=c)(p1:az (.int (x4/6)) (.int (S.length:Int))=some (.int (x4/6%(S.length:Int))))(p2:bj (S.map nD) (x4/6%(S.length:Int))=some (.int (x:Int))):
 sQ [↑(.scr ns),a1,a2,↑(.int n),↑(.lst (S.map nD)),a5,a6,z7,z8,none,none,none]=sP [↑(.scr ns),a1,a2,↑(.int n),↑(.lst (S.map nD)),a5,a6,z7,z8,↑(af (x,c)),none,none]:=by
 have hl:((S.map nD).length:Int)=(S.length:Int):=by simp
 have hs:af (x,c)=.tup [.int x,.bl c]:=rfl;rw[hs,sQ];simp only[lP];generalize S.map nD=SD at *
 have e:(aw 9 (aD (Yb (b2 (aa 4) (b2 (b2 (cC (Yb (ab 0) (Yb (Zb 4) ae)) Ye) (Zb 6) bp) (cC (Yb (aa 4) ae) ay) az) ai) (Yb (mB (b2 (b2 (b2 (cC (Yb (ab 0) (Yb (Zb 4) ae)) Ye) (Zb 384) bp) (Zb 2) az) (Zb 1) (au false))) ae)))) [↑(.scr ns),a1,a2,↑(.int n),↑(.lst SD),a5,a6,z7,z8,none,none,none]=some (.nx [↑(.scr ns),a1,a2,↑(.int n),↑(.lst SD),a5,a6,z7,z8,↑(.tup [.int x,.bl c]),none,none]):=by
  simp[c4,hl,p1,p2,hc]
 rw[e,qd,lN]
def VZ{AM:AR}{sb:D}(a0 a1 a2 a3 a4 a5 z7 z8:AS)(happ:bc AM sb=some (AM++[sb])):sO [a0,a1,a2,a3,a4,a5,some (.ow AM),z7,z8,↑sb,none,none]=m9 [a0,a1,a2,a3,a4,a5,some (.ow (AM++[sb])),z7,z8,↑sb,some (.ow []),none]:=by
 have e7:(bZ 6 (ab 9) bc) [a0,a1,a2,a3,a4,a5,some (.ow AM),z7,z8,↑sb,none,none]=some (.nx [a0,a1,a2,a3,a4,a5,some (.ow (AM++[sb])),z7,z8,↑sb,none,none]):=by
  simp[happ]
 have e8:(aW 10 (aX ae)) [a0,a1,a2,a3,a4,a5,some (.ow (AM++[sb])),z7,z8,↑sb,none,none]=some (.nx [a0,a1,a2,a3,a4,a5,some (.ow (AM++[sb])),z7,z8,↑sb,some (.ow []),none]):=by
  simp
 rw[sO,lP,e7,qd,lN,JU,lP,e8,qd,lN]
theorem EJ{S:AF}(hns:ns.length<=63)(h:st<n){a:bh}(ha:st<=a.1/\a.1<n)(c4:Ye [.scr ns,.int 4]=some (.int x4))(hS:0<S.length):∃(mid:AZ) (b:bh) (z7 z8:AS),mid.length<=6/\(∀s∈mid,st<=s.1/\s.1<n)/\b.1∈S/\b≠a/\
 ju [↑(.scr ns),↑(.lst HH),↑(.int st),↑(.int n),↑(.lst (S.map nD)),some (.ow [af a]),some (.ow [af a]),none,none,none,none,none] =
 m9 [↑(.scr ns),↑(.lst HH),↑(.int st),↑(.int n),↑(.lst (S.map nD)),some (.ow [af a]),some (.ow ((a::mid++[b]).map af)),z7,z8,↑(af b),some (.ow []),none]:=by
 obtain⟨cells,hcl,hcut⟩:=nU ns x4 6 ∅;have e6:((6:Nat):Int)=6:=rfl;rw[e6]at hcut;have hcut':=hcut;obtain⟨mid,z7,z8,m1,m2,m3⟩:=VU cells ∅ h ha (↑(.scr ns)) (↑(.lst HH)) (↑(.lst (S.map nD))) (some (.ow [af a])) none none none;obtain⟨x,hx,p1,p2⟩:=nu hS (x4/6)
 obtain⟨c,hc⟩:∃c:Bool,decide (x4/384%2=1)=c:=⟨_,rfl⟩
 have e0:ju [↑(.scr ns),↑(.lst HH),↑(.int st),↑(.int n),↑(.lst (S.map nD)),some (.ow [af a]),some (.ow [af a]),none,none,none,none,none] =
  sP [↑(.scr ns),↑(.lst HH),↑(.int st),↑(.int n),↑(.lst (S.map nD)),some (.ow [af a]),some (.ow ((a::mid).map af)),z7,z8,↑(af (x,c)),none,none]:=by
  rw[VX c4 rfl hcut' m3,VY none _ _ _ _ _ _ c4 hc p1 p2]
 have happ:∀d:D,bc ((a::mid).map af) d=some ((a::mid).map af++[d]):=λd=>iV (by simp;lia)
 have fin:∀b:bh,b.1∈S->b≠a->sP [↑(.scr ns),↑(.lst HH),↑(.int st),↑(.int n),↑(.lst (S.map nD)),some (.ow [af a]),some (.ow ((a::mid).map af)),z7,z8,↑(af (x,c)),none,none] =
  sO [↑(.scr ns),↑(.lst HH),↑(.int st),↑(.int n),↑(.lst (S.map nD)),some (.ow [af a]),some (.ow ((a::mid).map af)),z7,z8,↑(af b),none,none]->∃(mid:AZ) (b:bh) (z7 z8:AS),mid.length<=6/\(∀s∈mid,st<=s.1/\s.1<n)/\b.1∈S/\b≠a/\
  ju [↑(.scr ns),↑(.lst HH),↑(.int st),↑(.int n),↑(.lst (S.map nD)),some (.ow [af a]),some (.ow [af a]),none,none,none,none,none] =
  m9 [↑(.scr ns),↑(.lst HH),↑(.int st),↑(.int n),↑(.lst (S.map nD)),some (.ow [af a]),some (.ow ((a::mid++[b]).map af)),z7,z8,↑(af b),some (.ow []),none]:=λb h1 h2 h3=>by
  refine⟨mid,b,z7,z8,by lia,m2,h1,h2,?_⟩;rw[e0,h3]
  have hap:(a::mid++[b]).map af=(a::mid).map af++[af b]:=by rw[Qk];rfl
  rw[hap];exact VZ _ _ _ _ _ _ _ _ (happ _)
 have q:=EH (x,c) a;by_cases hq:(x,c)=a
 .refine fin (cy (x,c)) hx (λz=>DC _ (hq.trans z.symm)) ?_
  have i1:Yc (af (x,c))=some [.int x,.bl (c)]:=rfl;have f1:af (cy (x,c))=.tup [.int x,.bl (!c)]:=rfl;rw[wm hq]at q;rw[f1];clear hq;generalize S.map nD=SD,(a::mid).map af=AM,af a=sa,af (x,c)=sb at *;simp[q,i1]
 .refine fin _ hx hq ?_
  rw[wt hq]at q;generalize S.map nD=SD,(a::mid).map af=AM,af a=sa,af (x,c)=sb at *;simp[q]
theorem EL(hn:n<=60){road:AZ}(hr:∀s∈road,st<=s.1/\s.1<n)(h0:0<road.length)(hl:road.length<=100){R:List Rl}(hR:R.length<=100)(hd:jt [.scr ns,.str "eithers",.int st,.int n]=some (R.map aA))(a4 a5 a7 a8 a9:AS):∃L:AY,L.length<=road.length/\(∀l∈L,OkW .e n st (.ei l))/\(∀i,i+1<road.length->∃l∈L,cb (aQ road i) (aQ road (i+1)) l)/\
 m9 [↑(.scr ns),↑(.lst HH),↑(.int st),↑(.int n),a4,a5,some (.ow (road.map af)),a7,a8,a9,some (.ow []),none]=some (.rt (.tup [eN "cross" [.tup (road.map af)],Yk .e (R++L.map Rl.ei)])):=by
 obtain⟨L,z11,h1,h2,h3,h4⟩:=VW hn hr h0 hl (↑(.scr ns)) (↑(.lst HH)) (↑(.int st)) (↑(.int n)) a4 a5 a7 a8 a9;refine⟨L,h1,h2,h3,?_⟩
 have hlen:((road.map af).length:Int)-1=((road.length-1:Nat):Int):=by simp;lia
 have hg:=EG (road.length-1) ∅
 have hb:Yk .e (R++L.map Rl.ei)=.tup [.str "eithers",.tup (R.map aA++L.map dV)]:=by
  unfold Yk;rw[Qk,Qf];rfl
 have hcat:=fG (a:=R.map aA) (b:=L.map dV) (by simp;lia);have hp:eN "cross" [.tup (road.map af)]=.tup [.str "cross",.tup (road.map af)]:=rfl;rw[hb,hp];generalize ((List.range' 0 (road.length-1)).map λn:Nat=>D.int (n:Int))=GG at *;generalize ((road.length-1:Nat):Int)=m at *;generalize road.map af=RO,L.map dV=LL,R.map aA=RR at *;simp[hlen,hg,h4,hd,hcat]
end
theorem V0(ns:AG)(hns:ns.length<=63){H:AH}(hl:H.length<=60){st:Nat}(hst:st<H.length)(hS:0<(aH H st false).length):∃(road:AZ) (a b:bh) (R:List Rl) (L:AY),cc H.length road a b/\Ends (aH H st true) (aH H st false) "cross" a b/\(R++L.map Rl.ei).length<=60/\(∀r∈R,OkW .e H.length st r)/\(∀l∈L,OkW .e H.length st (.ei l))/\(∀i,i+1<road.length->∃l∈L,cb (aQ road i) (aQ road (i+1)) l)/\
 j9 [.scr ns,.lst (H.map ax),.int st]=some (.tup [eN "cross" [.tup (road.map af)],Yk .e (R++L.map Rl.ei)]):=by
 have c3:=g9 ns 3 3 rfl;have c4:=g9 ns 4 4 rfl;generalize ns.getD 3 0=x3 at c3;generalize ns.getD 4 0=x4 at c4;have hown:=Dj (c:=.lst (H.map aK)) H rfl ∅ st ∅ false;rw[<-nV]at hown
 have hlen:(((H.map ax).length:Nat):Int)=(H.length:Int):=by simp
 have hb:∀{x:Nat},x∈aH H st false->st<=x/\x<H.length:=λh=>⟨(mem_ofH.mp h).2.1,(mem_ofH.mp h).1⟩
 obtain⟨a,ha,e1⟩:=EI (ns:=ns) (st:=st) hlen hown c3 hS;obtain⟨mid,b,z7,z8,g1,g2,g3,g4,e2⟩:=EJ (HH:=H.map ax) hns hst (hb ha) c4 hS;obtain⟨R,hR,hRo,hd⟩:=EF ns .e hst hl;have hk:aJ .e=.str "eithers":=rfl;rw[hk]at hd
 obtain⟨L,l1,l2,l3,e3⟩:=EL (HH:=H.map ax) (ns:=ns) hl (road:=a::mid++[b]) (λs hs=>by
  simp at hs;rcases hs with rfl|hs|rfl
  .exact hb ha
  .exact g2 s hs
  .exact hb g3) nofun (by simp;lia) ∅ hd (↑(.lst ((aH H st false).map nD))) (some (.ow [af a])) z7 z8 (↑(af b))
 refine⟨a::mid++[b],a,b,R,L,DD (hb ha).2 (hb g3).2 (λs hs=>(g2 s hs).2) ∅,.cross ha g3 (Ne.symm g4),?_,hRo,l2,l3,?_⟩
 .simp at l1
  simp;lia
 rw[j9,Yj (by rfl)];have hst0:Yd 12 [D.scr ns,.lst (H.map ax),.int (st:Int)]=[↑(.scr ns),↑(.lst (H.map ax)),↑(.int st),none,none,none,none,none,none,none,none,none]:=rfl;rw[hst0,e1,e2,e3];rfl
def EM{a:D}{k:Kd}{R:List Rl}{H:AH}{st:Nat}{ev:AH}{b:Bool}(h:gA [a,Yk k R,.tup (H.map ax),.int st,.tup (ev.map D.bl)]=some (.bl b)):j7 [Kp a k R H st,cI k R H ev]=some (.bl b):=by
 rw[j7,Yj (by rfl)];have c:Yd 2 [Kp a k R H st,cI k R H ev]=[↑(Kp a k R H st),↑(cI k R H ev)]:=rfl;rw[c];have i:aY "Papered" "paper" (Kp a k R H st)=some a:=rfl;have e:aY "Papered" "book" (Kp a k R H st)=some (Yk k R):=rfl;have f:aY "Papered" "hands" (Kp a k R H st)=some (.tup (H.map ax)):=rfl;have g:aY "Papered" "start" (Kp a k R H st)=some (.int st):=rfl;have d:=K2 (Yk k R) (.tup (H.map ax)) (.lst (ev.map D.bl));rw[KU]at d;simp[Jw,i,e,f,g,d,h]
def EN{ev:AH}{i:Nat}(h:i<ev.length):aC ev i=ev[i]:=by unfold aC;simp[h]
def EO{H:AH}{st x:Nat}{b:Bool}(h:x∈aH H st b):∃e:x<H.length,st<=x/\H[x]=b:=by
 obtain⟨a,d,c⟩:=mem_ofH.mp h;refine⟨a,d,?_⟩;simpa [a]using c
theorem ER{n:Nat}{R:List Rl}(h:∀r∈R,In .e n r/\dR r):∃L:AY,R=L.map Rl.ei/\L.length=R.length:=by
 induction R with
 | nil=>exact⟨[],rfl,rfl⟩
 | cons r R ih=>
   obtain⟨L,e,hl⟩:=ih λx hx=>h x (qg _ hx);have hr:=(h r qh).1
   cases r with
   | ei l=>exact⟨l::L,by rw[e];rfl,by simp[hl]⟩
   | su b o=>have:=hr.1;cases this
   | im b o=>have:=hr.1;rcases this with z|z<;>cases z
def ET{L:AY}{ev:AH}(h:¬∀l∈L,so .e ev (.ei l)=true):¬∀r∈L.map Rl.ei,so .e ev r=true:=λz=>h λl hl=>z (.ei l) (List.mem_map_of_mem hl)
def EU{pp bk hh:D}{st:Int}{b:Bool}(h:Yx [pp,bk,hh,.int st]=some (.bl b)):mW [pp,bk,hh,.int st,.str "storm"]=some (.bl b):=by
 have e1:=cP (a:="storm") (b:="keeper") (by decide +kernel) false;rw[mW,Yj (by rfl)];simp[JI,Yd,e1,h]
theorem nW{H:AH}{st:Nat}{due:AH->Bool}{ev:AH}(he:ev.length=H.length)(hK:Kept H st due ev){x:Nat}(hx:x∈aH H st false):x<ev.length/\aC ev x=due (ev.take x):=by
 obtain⟨h1,h2,h3⟩:=EO hx
 have hl:x<ev.length:=by lia
 exact⟨hl,by rw[EN hl];exact hK x hl h1 h2 h3⟩
def V1(H:AH):Yc (.lst (H.map ax))=some (H.map aK):=by rw[En];rfl
section
variable {H:AH}{st:Nat}
theorem V2(ns:AG)(hns:ns.length<=63)(hH:H.length<=20)(hst:st<H.length)(hS:0<(aH H st false).length):∃pp R due,j9 [.scr ns,.lst (H.map ax),.int st]=some (.tup [pp,Yk .e R])/\Game pp .e R H st due:=by
 obtain⟨road,a,b,R,L,ho,he,hl,hR,hL,hk,hm⟩:=V0 ns hns (H:=H) ∅ hst hS
 have hok:∀r∈R++L.map Rl.ei,OkW .e H.length st r:=λr hr=>by
  rcases qw hr with hr|hr
  .exact hR r hr
  .obtain⟨l,hl,rfl⟩:=qy hr
   exact hL l hl
 obtain⟨L0,e,hl0⟩:=ER (n:=H.length) (R:=R) λr hr=>(hR r hr).1
 have hw:Dr "cross" ["broken"]:=by unfold Dr;decide +kernel
 have hb:Yk .e (R++L.map Rl.ei)=eX (L0++L):=by rw[e,<-Qk,Dq]
 have hk':∀i,i+1<road.length->∃l∈L0++L,cb (aQ road i) (aQ road (i+1)) l:=λi hi=>(hk i hi).elim λl z=>⟨l,Qr _ z.1,z.2⟩
 have hg:=Vf (L:=L0++L) (by rw[qz]at hl ⊢;rw[qf]at hl;lia) he ho hk';rw[<-hb]at hg;refine⟨_,_,dX road,hm,⟨EU (Ds (V1 H) ∅ ∅ hw hg),λev _ _ _=>EM (Ve ho.pos .e _ _ _ ev),?_,λr hr=>(hok r hr).ok ∅,λr hr=>(hok r hr).2,by lia,hH,by lia,λev hel hK=>?_⟩⟩
 .show(cN (.str "cross")&&(bf (road.map af)&&bf []))=true
  rw[gH λ_=>rfl];rfl
 .rw[e,<-Qk]
  exact ET (Vg he ho hk' (λx hx=>(nW hel hK hx).1) (λx hx=>(nW hel hK hx).2))
end
def V3{R:List Sm}{p l:Nat}(h:p<R.length)(a0 a1 a2 a5 a6 a8 a9:AS):
 jv [a0,a1,a2,↑(.int (l:Int)),some (.ow (R.map aP)),a5,a6,↑(.int (p:Int)),a8,a9] =
  some (.nx [a0,a1,a2,↑(.int (l:Int)),some (.ow ((ki l R p).map aP)),a5,a6,↑(.int (p:Int)),a8,a9]):=by
 have ha:=nj h;have hi:=DO (rg R p);have hc:=ek (fc:=CN) (fe:=CO) (r:=[↑(.int (l:Int))]) (enc:=nD) (λx=>decide (x<l)) nD (l:=fl 60 (rg R p).1) (λx _=>by simp[CN]) (λx _ _=>by simp[CO]);have hs:=DT h (dh l (rg R p));rw[<-DU]at hs;unfold ki;generalize (R.set p (dh l (rg R p))).map aP=R2,((fl 60 (rg R p).1).filter λx=>decide (x<l)).map nD=F2,(fl 60 (rg R p).1).map nD=F1,aP (rg R p)=sr,R.map aP=RR at *;simp[jv,ha,hi,ar,hc,hs]
theorem K8{l:Nat}(a0 a1 a2 a5 a6 a8 a9:AS):∀(ps:AF) (R:List Sm) (y7:AS),(∀p∈ps,p<R.length)->ps.Nodup->∃(R':List Sm) (z7:AS),R'.length=R.length/\(∀i,rg R' i=if i∈ps then dh l (rg R i)else rg R i)/\
 M.forM (ak 7) jv (ps.map nD) [a0,a1,a2,↑(.int (l:Int)),some (.ow (R.map aP)),a5,a6,y7,a8,a9]=some (.nx [a0,a1,a2,↑(.int (l:Int)),some (.ow (R'.map aP)),a5,a6,z7,a8,a9])
 | [],R,y7,_,_=>⟨R,y7,rfl,λi=>by simp,rfl⟩
 | p::ps,R,y7,h,hn=>by
   rw[List.nodup_cons]at hn;have hp:=h p qh;obtain⟨R',z7,h1,h2,h3⟩:=K8 (l:=l) a0 a1 a2 a5 a6 a8 a9 ps (ki l R p) (↑(.int (p:Int))) (λq hq=>by rw[KD];exact h q (qg _ hq)) hn.2;refine⟨R',z7,by rw[h1,KD],λi=>?_,?_⟩
   .rw[h2 i,DS hp]
    by_cases e:i=p
    .subst e
     simp[hn.1]
    .by_cases e2:i∈ps<;>simp[e,e2]
   .rw[Qd,M.forM]
    show(jv [a0,a1,a2,↑(.int (l:Int)),some (.ow (R.map aP)),a5,a6,↑(.int (p:Int)),a8,a9]).bind _=_;rw[V3 hp,qd];exact h3
def Bd(st n:Nat)(q:Sm):Prop:=∀x,q.1 x=true->st<=x/\x<n
theorem K9{n st:Nat}(hn:n<=60):∀{R:List Rl},(∀r∈R,OkW .s n st r)->∃Q:List Sm,Q.length=R.length/\(∀q∈Q,Bd st n q)/\R.map aA=Q.map aP
 | [],_=>⟨[],rfl,by simp,rfl⟩
 | r::R,h=>by
   obtain⟨Q,h1,h2,h3⟩:=K9 hn λx hx=>h x (qg _ hx);obtain⟨⟨hin,hs⟩,hf⟩:=h r qh
   cases r with
   | su b o=>
     refine⟨(λx=>decide (x∈b),o)::Q,by simp[h1],λq hq x hx=>?_,?_⟩
     .rcases qu hq with rfl|hq
      .exact⟨hf x (wu hx),hin.2 x (wu hx)⟩
      .exact h2 q hq x hx
     .rw[Qd,Qd,h3,<-nk hs λx hx=>by have:=hin.2 x hx;lia]
      rfl
   | ei l=>have:=hin.1;cases this
   | im b o=>rcases hin.1 with z|z<;>cases z
def EV{st n:Nat}{R:List Sm}(h:∀i,i<R.length->Bd st n (rg R i)):∀q∈R,Bd st n q:=λq hq=>by
 obtain⟨i,hi,e⟩:=List.mem_iff_getElem.mp hq
 have hr:rg R i=q:=by
  unfold rg;rw[Qt,qr hi,<-e];rfl
 rw[<-hr];exact h i hi
theorem V4{n:Nat}{S:AF}{R R':List Sm}{ps:AF}{l:Nat}{q:Sm}(hR:∀q∈R',∀x,q.1 x=true->x<n)(hp:ps.Pairwise (·<·))(hlt:∀p∈ps,p<R.length)(hl:R.length<=59)(hlS:l∈S)(h1:R'.length=R.length)(h2:∀i,rg R' i=if i∈ps then dh l (rg R i)else rg R i)(q1:q.1 l=true)(q2:∀x,l<x->q.1 x=false)(q3:∀x,q.1 x=true->x<n):dj n S (R'++[q]) (ps++[R'.length]):=by
 have hlt':∀p∈ps,p<R'.length:=λp hp=>by rw[h1];exact hlt p hp
 have hQ:∀q∈ps.map (rg R'),∀x,l<=x->q.1 x=false:=λq hq x hx=>by
  obtain⟨p,hp,rfl⟩:=qy hq;rw[h2 p,if_pos hp];show((rg R p).1 x&&decide (x<l))=false
  have:¬x<l:=by lia
  simp[this]
 refine⟨λq hq x hx=>?_,DN hp hlt',λp h=>?_,by simp;lia,.inr ⟨l,hlS,?_,λx hx _=>?_⟩⟩
 .rcases qw hq with h|h
  .exact hR q h x hx
  .rw[Qu]at h
   subst h;exact q3 x hx
 .rw[qz,jc]
  rcases qw h with h|h
  .have:=hlt' p h
   lia
  .rw[Qu]at h
   lia
 .rw[Ky hlt',Kz,KA λq hq=>hQ q hq l (qv _),q1]
  rfl
 .rw[Ky hlt',Kz,KA λq hq=>hQ q hq x ∅,q2 x hx]
  rfl
def cR{f g:AT}{ρ ρ':Ro}{o:Option Out}(h:f ρ=some (.nx ρ'))(k:g ρ'=o):ag f g ρ=o:=by rw[lP,h,qd,lN];exact k
theorem K_{a n:Nat}(h:a<=n)(hn:n<=1000):ck [.int (a:Int),.int (n:Int)]=some ((List.range (n-a)).map λi:Nat=>D.int ((a:Int)+(i:Nat))):=by
 have hr:=qG (a:=(a:Int)) (n:=(n:Int)) ∅ ∅ ∅ ∅;rw[gW]at hr
 have h3:((n:Int)-a).toNat=n-a:=by lia
 rw[h3]at hr;exact hr
section
variable {st l:Nat}{pick:AH}{R R':List Sm}{ps:AF}
def EW{z7:AS}(m3:M.forM (ak 7) jv (ps.map nD) [↑(.scr ns),↑(.lst HH),↑(.int st),↑(.int (l:Int)),some (.ow (R.map aP)),↑(.lst (bits.map D.bl)),↑(.lst (ps.map nD)),none,none,none]=some (.nx [↑(.scr ns),↑(.lst HH),↑(.int st),↑(.int (l:Int)),some (.ow (R'.map aP)),↑(.lst (bits.map D.bl)),↑(.lst (ps.map nD)),z7,none,none])):
 wF [6] (bM (b1 (ab 6) Yc) (ak 7) jv) [↑(.scr ns),↑(.lst HH),↑(.int st),↑(.int (l:Int)),some (.ow (R.map aP)),↑(.lst (bits.map D.bl)),some (.ow (ps.map nD)),none,none,none]=some (.nx [↑(.scr ns),↑(.lst HH),↑(.int st),↑(.int (l:Int)),some (.ow (R'.map aP)),↑(.lst (bits.map D.bl)),↑(.lst (ps.map nD)),z7,none,none]):=by
 generalize ps.map nD=PP,R.map aP=RR,R'.map aP=RR',bits.map D.bl=BB at *;simp[m3]
theorem EX(hb:bits.length=R.length)(hR:R.length<=1000)(a0 a1 a2 a3:AS):∃ps:AF,ps.Pairwise (·<·)/\(∀p∈ps,p<R.length)/\
 aW 6 (Yv (cF (Yb (cC (Yb (aa 4) ae) ay) ae) cD) [none,some 5] (ak 0) (sR) (sS)) [a0,a1,a2,a3,some (.ow (R.map aP)),↑(.lst (bits.map D.bl)),none,none,none,none]=some (.nx [a0,a1,a2,a3,some (.ow (R.map aP)),↑(.lst (bits.map D.bl)),some (.ow (ps.map nD)),none,none,none]):=by
 have hr:=EG R.length hR
 have hc:=ek (fc:=sR) (fe:=sS) (r:=[↑(.lst (bits.map D.bl))]) (enc:=λi:Nat=>D.int (i:Int)) (λi=>bits.getD i false) nD (l:=List.range' 0 R.length) (λi hi=>by
  have hi':i<bits.length:=by simp at hi;lia
  have ha:bj (bits.map D.bl) (i:Int)=some (.bl (bits.getD i false)):=by
   rw[eD,eU hi'];simp[hi']
  generalize bits.map D.bl=BB at *
  simp[sR,ha]) (λi _ _=>by simp[sS,nD])
 refine⟨(List.range' 0 R.length).filter λi=>bits.getD i false,List.Pairwise.filter _ List.pairwise_lt_range',λp hp=>?_,?_⟩
 .have:=(Qc hp).1
  simp at this;lia
 have hl:((R.map aP).length:Int)=(R.length:Int):=by simp
 generalize ((List.range' 0 R.length).filter λi=>bits.getD i false).map nD=PP,((List.range' 0 R.length).map λi:Nat=>D.int (i:Int))=GG,(R.length:Int)=m,R.map aP=RR,bits.map D.bl=BB at *;simp[hl,hr,ar,hc]
theorem EY(hp:pick.length=l+1)(hst:st<=l)(hl:l<60)(a0 a1 a4 a5 a6 a7:AS):∃q:Sm,q.1 l=true/\(∀x,l<x->q.1 x=false)/\(∀x,q.1 x=true->st<=x/\x<l+1)/\
 aw 9 (aD (Yb (cC (Yb (lF (b2 (lF (Yv (cF (Yb (ab 2) (Yb (ab 3) ae)) ck) [none,some 8] (ak 0) (sT) (sU))) (lF (aX (Yb (ab 3) ae))) bD)) ae) aL) (Yb (b2 (aa 8) (aa 3) ai) ae))) [a0,a1,↑(.int st),↑(.int (l:Int)),a4,a5,a6,a7,↑(.lst (pick.map D.bl)),none]=some (.nx [a0,a1,↑(.int st),↑(.int (l:Int)),a4,a5,a6,a7,↑(.lst (pick.map D.bl)),↑(aP q)]):=by
 have hr:=K_ (a:=st) (n:=l) hst ∅
 have hat:∀i:Nat,i<pick.length->bj (pick.map D.bl) (i:Int)=some (.bl (pick.getD i false)):=λi hi=>by
  rw[eD,eU hi];simp[hi]
 have hc:=ek (fc:=sT) (fe:=sU) (r:=[↑(.lst (pick.map D.bl))]) (enc:=λi:Nat=>D.int ((st:Int)+(i:Nat))) (λi=>pick.getD (st+i) false) (λi=>nD (st+i)) (l:=List.range (l-st)) (λi hi=>by
  have hi':st+i<pick.length:=by simp at hi;lia
  have e0:(st:Int)+(i:Int)=((st+i:Nat):Int):=by lia
  have ha:=hat (st+i) hi';rw[e0];generalize ((st+i:Nat):Int)=k,pick.map D.bl=BB at *
  simp[sT,ha]) (λi _ _=>by simp[sU,nD])
 generalize hB:((List.range (l-st)).filter λi=>pick.getD (st+i) false)=B at hc
 have hBl:∀i∈B,i<l-st:=λi hi=>by
  rw[<-hB]at hi;exact Qb (Qc hi).1
 have hpw:(B.map (st+·)++[l]).Pairwise (·<·):=by
  rw[List.pairwise_append];refine⟨?_,by simp,λx hx y hy=>?_⟩
  .rw[List.pairwise_map,<-hB]
   exact(List.Pairwise.filter _ List.pairwise_lt_range).imp λh=>by lia
  .obtain⟨i,hi,rfl⟩:=qy hx
   have:=hBl i hi;rw[Qu]at hy;lia
 have hlt:∀x∈B.map (st+·)++[l],st<=x/\x<l+1:=λx hx=>by
  rcases qw hx with hx|hx
  .obtain⟨i,hi,rfl⟩:=qy hx
   have:=hBl i hi;lia
  .rw[Qu]at hx
   lia
 have hsm:=nk hpw (λx hx=>by have:=hlt x hx;lia) (pick.getD l false);refine⟨(λx=>decide (x∈B.map (st+·)++[l]),pick.getD l false),by simp,λx hx=>wt λz=>by have:=hlt x z;lia,λx hx=>hlt x (wu hx),?_⟩;rw[<-hsm]
 have hm:(B.map (st+·)++[l]).map nD=(B.map λi=>nD (st+i))++[.int (l:Int)]:=by rw[Qk,Qf];rfl
 rw[hm]
 have hcat:=fG (a:=B.map λi=>nD (st+i)) (b:=[.int (l:Int)]) (by
  have h1:B.length<=l-st:=by
   rw[<-hB];exact Qg (Qn _ _) nofun
  simp
  lia)
 have ha:=hat l ∅;generalize (B.map λi=>nD (st+i))=BB,((List.range (l-st)).map λi:Nat=>D.int ((st:Int)+(i:Nat)))=GG,pick.getD l false=o,pick.map D.bl=PD at *;simp[hr,ar,hc,hcat,ha]
end
theorem V5(ns:AG)(hns:ns.length<=63){H:AH}{l:Nat}(hl:H.length=l+1)(hln:l<50){st:Nat}(hst:st<=l){S:AF}(hS:l∈S):∃(R:List Sm) (ps:AF),dj H.length S R ps/\(∀q∈R,Bd st H.length q)/\
 j_ [.scr ns,.lst (H.map ax),.int st]=some (.tup [.tup [.str "odd",.tup (ps.map nD)],de R]):=by
 have c3:=g9 ns 3 3 rfl;have c4:=g9 ns 4 4 rfl;generalize ns.getD 3 0=x3 at c3;generalize ns.getD 4 0=x4 at c4
 have hlen:(((H.map ax).length:Nat):Int)-1=(l:Int):=by simp;lia
 obtain⟨RD,hRl,hRo,hd⟩:=EF ns .s (n:=l+1) (st:=st) ∅ ∅;have hk:aJ .s=.str "sums":=rfl;rw[hk]at hd
 have e1:((l+1:Nat):Int)=(l:Int)+1:=by lia
 rw[e1]at hd;obtain⟨Q,q1,q2,q3⟩:=K9 (n:=l+1) ∅ hRo;rw[q3]at hd;obtain⟨bits,b1,b2⟩:=tj x3 Q.length ∅;obtain⟨ps,p1,p2,p3⟩:=EX (bits:=bits) (R:=Q) b1 ∅ (↑(.scr ns)) (↑(.lst (H.map ax))) (↑(.int st)) (↑(.int (l:Int)));obtain⟨Q',z7,f1,f2,f3⟩:=K8 (l:=l) (↑(.scr ns)) (↑(.lst (H.map ax))) (↑(.int st)) (↑(.lst (bits.map D.bl))) (↑(.lst (ps.map nD))) none none ps Q none p2 (p1.imp λh=>qm h);obtain⟨pick,k1,k2⟩:=tj x4 (l+1) ∅;rw[e1]at k2;obtain⟨q,r1,r2,r3,r4⟩:=EY (pick:=pick) (st:=st) k1 hst ∅ (↑(.scr ns)) (↑(.lst (H.map ax))) (some (.ow (Q'.map aP))) (↑(.lst (bits.map D.bl))) (↑(.lst (ps.map nD))) z7
 have hbd:∀q'∈Q'++[q],Bd st (l+1) q':=λq' hq=>by
  rcases qw hq with h|h
  .refine EV (λi hi x hx=>?_) q' h
   have hm:=nz (R:=Q) (p:=i) ∅;rw[f2 i]at hx;by_cases hi2:i∈ps
   .rw[if_pos hi2]at hx
    have hx':((rg Q i).1 x&&decide (x<l))=true:=hx;rw[Qe]at hx';exact q2 _ hm x hx'.1
   .rw[if_neg hi2]at hx
    exact q2 _ hm x hx
  .rw[Qu]at h
   subst h;exact r3
 refine⟨Q'++[q],ps++[Q'.length],?_,by rw[hl];exact hbd,?_⟩
 .rw[hl]
  exact V4 (λq' hq x hx=>(hbd q' (List.mem_append_left _ hq) x hx).2) p1 p2 ∅ hS f1 f2 r1 r2 (λx hx=>(r3 x hx).2)
 rw[j_,Yj (by rfl)];have hst0:Yd 10 [D.scr ns,.lst (H.map ax),.int (st:Int)]=[↑(.scr ns),↑(.lst (H.map ax)),↑(.int st),none,none,none,none,none,none,none]:=rfl
 have hql:((Q.map aP).length:Int)=(Q.length:Int):=by simp
 have hql':((Q'.map aP).length:Int)=(Q'.length:Int):=by simp
 have hfin:JV [↑(.scr ns),↑(.lst (H.map ax)),↑(.int st),none,none,none,none,none,none,none]=some (.rt (.tup [.tup [.str "odd",.tup ((ps++[Q'.length]).map nD)],de (Q'++[q])])):=by
  refine cR (ρ':=[↑(.scr ns),↑(.lst (H.map ax)),↑(.int st),↑(.int (l:Int)),none,none,none,none,none,none]) ?_ ?_
  .generalize H.map ax=HH at *
   simp[hlen]
  refine cR (ρ':=[↑(.scr ns),↑(.lst (H.map ax)),↑(.int st),↑(.int (l:Int)),some (.ow (Q.map aP)),none,none,none,none,none]) ?_ ?_
  .generalize H.map ax=HH at *
   generalize Q.map aP=QQ at *;simp[hd]
  refine cR (ρ':=[↑(.scr ns),↑(.lst (H.map ax)),↑(.int st),↑(.int (l:Int)),some (.ow (Q.map aP)),↑(.lst (bits.map D.bl)),none,none,none,none]) ?_ ?_
  .generalize H.map ax=HH at *
   generalize bits.map D.bl=BB,(Q.length:Int)=ql,Q.map aP=QQ at *;simp[hql,c3,b2]
  refine cR p3 ?_;refine cR (EW f3) ?_;refine cR (ρ':=[↑(.scr ns),↑(.lst (H.map ax)),↑(.int st),↑(.int (l:Int)),some (.ow (Q'.map aP)),↑(.lst (bits.map D.bl)),↑(.lst (ps.map nD)),z7,↑(.lst (pick.map D.bl)),none]) ?_ ?_
  .generalize H.map ax=HH at *
   generalize bits.map D.bl=BB,pick.map D.bl=PD,ps.map nD=PP,Q'.map aP=QQ at *;simp[c4,k2]
  refine cR r4 ?_
  have c1:=fG (a:=ps.map nD) (b:=[.int (Q'.length:Int)]) (by
   have:ps.length<=Q.length:=qT p1 p2;simp
   lia)
  have c2:=fG (a:=Q'.map aP) (b:=[aP q]) (by simp;lia)
  have hm1:(ps++[Q'.length]).map nD=ps.map nD++[.int (Q'.length:Int)]:=by rw[Qk];rfl
  have hm2:de (Q'++[q])=.tup [.str "sums",.tup (Q'.map aP++[aP q])]:=by
   show D.tup [_,.tup ((Q'++[q]).map aP)]=_;rw[Qk];rfl
  rw[hm1,hm2];generalize H.map ax=HH,bits.map D.bl=BB,pick.map D.bl=PD,ps.map nD=PP,aP q=qq,(Q'.length:Int)=ql,Q'.map aP=QQ at *;simp[hql',c1,c2]
 rw[hst0,hfin];rfl
theorem V6{n:Nat}{hs:AH}(hl:hs.length<=60){st:Nat}(hst:st<=hs.length){R:List Sm}{ps:AF}(h:dj n (aH hs st false) R ps):
 Yx [.tup [.str "odd",.tup (ps.map nD)],de R,.lst (hs.map aK),.int st]=some (.bl true):=by
 have h:=Vk h (λx hx=>Qi (tq hx) hl);have b1:=Yz (c:=.lst (hs.map aK)) hs rfl ∅ st hst true;have b2:=Yz (c:=.lst (hs.map aK)) hs rfl ∅ st hst false;simp only[aK,if_true,Qo,if_false]at b1 b2;rw[Yx,Yo,Yj (by rfl)];have e1:=cP (a:="odd") (b:="broken") (by decide +kernel) false;have e3:=gC "odd" false;have k1:=cP (a:="sums") (b:="nots") (by decide +kernel) false;have k2:=cP (a:="sums") (b:="eithers") (by decide +kernel) false;have k3:=gC "sums" false;have hib:Yc (de R)=some [.str "sums",.tup (R.map aP)]:=rfl;generalize aH hs st true=Kp,aH hs st false=S,R.map aP=RR,de R=bk at *;generalize Kp.map nD=KK,S.map nD=SS,D.tup (ps.map nD)=ii,hs.map aK=HH at *;simp at e3 k3;simp[mR,Yd,hib,b1,b2,e1,e3,k1,k2,k3,h]
def tE(q:Sm):Rl:=.su (fl 60 q.1) q.2
def jC(R:List Sm):de R=Yk .s (R.map tE):=by
 unfold Yk;rw[Qf];rfl
def nX{st n:Nat}(hn:n<=60){q:Sm}(h:Bd st n q):(dE .s n (tE q)/\sz (tE q)<=60)/\Fw st (tE q):=by
 have hm:∀x∈fl 60 q.1,st<=x/\x<n:=λx hx=>h x (Qc hx).2;refine⟨⟨⟨⟨rfl,λx hx=>(hm x hx).2⟩,List.Pairwise.filter _ List.pairwise_lt_range⟩,?_⟩,λx hx=>(hm x hx).1⟩;exact Qg (Qn _ _) nofun
theorem V7(ns:AG)(hns:ns.length<=63){H:AH}{st l:Nat}(hl:H.length=l+1)(hln:l<20)(hst:st<=l)(hS:l∈aH H st false):∃pp R due,j_ [.scr ns,.lst (H.map ax),.int st]=some (.tup [pp,Yk .s R])/\Game pp .s R H st due:=by
 obtain⟨R,ps,hO,hB,hm⟩:=V5 ns hns hl ∅ hst hS;have hg:=V6 (hs:=H) ∅ (st:=st) ∅ hO;rw[jC]at hm;rw[jC,<-nV]at hg;refine⟨_,_,dg (ps.map (rg R)),hm,⟨EU hg,λev _ _ _=>EM (by rw[<-jC];exact Vr hO _ _ ev),?_,λr hr=>?_,λr hr=>?_,by rw[qf];have:=hO.few;lia,by lia,by lia,λev hel hK hall=>?_⟩⟩
 .show(cN (.str "odd")&&(bf (ps.map nD)&&bf []))=true
  rw[gH λ_=>rfl];rfl
 .obtain⟨q,hq,rfl⟩:=qy hr
  exact(nX ∅ (hB q hq)).1
 .obtain⟨q,hq,rfl⟩:=qy hr
  exact(nX ∅ (hB q hq)).2
 .refine DQ hO (ev:=ev) (λx hx=>⟨(nW hel hK hx).1,?_⟩) (λx hx=>(nW hel hK hx).2) (λq hq=>hall _ (List.mem_map_of_mem hq))
  have:=tq hx;lia
def OkI(n st:Nat)(r:aS):Prop:=fL n r/\Fw st (eO r)
theorem La{n st:Nat}:∀{R:List Rl},(∀r∈R,OkW .i n st r)->∃Q:List aS,Q.length=R.length/\(∀q∈Q,OkI n st q)/\R.map aA=Q.map aO
 | [],_=>⟨[],rfl,λq hq=>(nomatch hq),rfl⟩
 | r::R,h=>by
   obtain⟨Q,h1,h2,h3⟩:=La λx hx=>h x (qg _ hx);have hr:=h r (qh ..)
   cases r with
   | ei l=>cases hr.1.1.1
   | su b o=>cases hr.1.1.1
   | im b o=>
     refine⟨(b,o)::Q,by simp[h1],λq hq=>?_,?_⟩
     .rcases qu hq with rfl|hq
      .exact⟨hr.1,hr.2⟩
      .exact h2 q hq
     .rw[Qd,Qd,h3]
      rfl
structure tF(n st:Nat)(K S:AF)(E:List aS):Prop where
 d:ez S E
 ok:∀r∈E,OkI n st r
 hd:∀x∈E.map aT,x∈K
def nY{n st:Nat}{b:AF}{o:AN}(hp:b.Pairwise (·<·))(hb:∀x∈b,st<=x/\x<n)(ho:∀x,o=some x->st<=x/\x<n):OkI n st (b,o):=
 ⟨⟨⟨.inl rfl,λx hx=>(hb x hx).2,λx hx=>(ho x hx).2⟩,hp⟩,⟨λx hx=>(hb x hx).1,λx hx=>(ho x hx).1⟩⟩
section
variable {n st:Nat}{K:AF}{E:List aS}
theorem V8(c:Int){hh:D}(hK:gB [hh,.int st,.str "keeper"]=some (.lst (K.map nD)))(hn:n<60)(hKn:∀x∈K,st<=x/\x<n)(hSn:∀x∈S,st<=x/\x<n)(hS:0<S.length)(hSl:S.length<=100)(hE:tF n st K S E)(hEl:E.length<=100)(a0 a3 a4 y9 y10 y11 y12 a13 a14 a15:AS):
 ∃(E':List aS) (z9 z10 z11 z12:AS),tF n st K S E'/\E'.length<=E.length+1/\ka [a0,↑hh,↑(.int st),a3,a4,↑(.lst (S.map nD)),some (.ow ((E.map aT).map nD)),some (.ow (E.map aO)),↑(.int c),y9,y10,y11,y12,a13,a14,a15] =
  some (.nx [a0,↑hh,↑(.int st),a3,a4,↑(.lst (S.map nD)),some (.ow ((E'.map aT).map nD)),some (.ow (E'.map aO)),↑(.int c),z9,z10,z11,z12,a13,a14,a15]):=by
 obtain⟨v,_,hv⟩:=tf c 2049848353892358983
 have hKl:((K.map nD).length:Int)=(K.length:Int):=by simp
 by_cases h0:K.length=0
 .refine⟨E,↑(.int v),↑(.lst (K.map nD)),y11,y12,hE,by lia,?_⟩
  have h0':(K.length:Int)=0:=by lia
  rw[h0']at hKl;generalize K.map nD=KK,S.map nD=SS,(E.map aT).map nD=LL,E.map aO=EE at *;simp[ka,hv,hK,hKl]
 .have hkl:0<K.length:=by lia
  have hkn:0<(S++E.map aT).length:=by simp;lia
  obtain⟨x1,m1,p1,p2⟩:=nu hkn v;obtain⟨x2,m2,p3,p4⟩:=nu hkn (v/64);obtain⟨h,m3,p5,p6⟩:=nu hkl (v/4096)
  have hall:∀x∈S++E.map aT,st<=x/\x<n:=λx hx=>by
   rcases qw hx with hx|hx
   .exact hSn x hx
   .exact hKn x (hE.hd x hx)
  obtain⟨bd,b1,b2,b3⟩:=ng (n:=n) ∅ [x1,x2] (λx hx=>by
   simp at hx;rcases hx with rfl|rfl
   .exact(hall _ m1).2
   .exact(hall _ m2).2) nofun
  have hbm:∀x∈bd,x∈S++E.map aT:=λx hx=>by
   have:=(b2 x).mp hx;simp at this;rcases this with rfl|rfl
   .exact m1
   .exact m2
  refine⟨E++[(bd,some h)],↑(.int v),↑(.lst (K.map nD)),some (.ow ((S++E.map aT).map nD)),some (.ow [.int (x1:Int),.int (x2:Int)]),⟨KF hE.d ⟨h,rfl⟩ hbm,λr hr=>?_,λx hx=>?_⟩,by simp,?_⟩
  .rcases qw hr with hr|hr
   .exact hE.ok r hr
   .rw[Qu]at hr
    subst hr;exact nY b1 (λx hx=>hall x (hbm x hx)) (λx hx=>by cases hx;exact hKn h m3)
  .rw[Qk]at hx
   rcases qw hx with hx|hx
   .exact hE.hd x hx
   .rw[List.map_singleton,Qu]at hx
    rw[hx];exact m3
  have hcat:bD (.lst (S.map nD)) (.lst ((E.map aT).map nD))=some ((S++E.map aT).map nD):=by
   rw[fG (by simp;lia),Qk]
  have hkl':(((S++E.map aT).map nD).length:Int)=((S++E.map aT).length:Int):=by simp
  have ap1:bc ((E.map aT).map nD) (.int (h:Int))=some ((E.map aT).map nD++[.int (h:Int)]):=iV (by simp;lia);have ap2:bc (E.map aO) (.tup [.tup (bd.map nD),.int (h:Int)])=some (E.map aO++[.tup [.tup (bd.map nD),.int (h:Int)]]):=iV (by simp;lia)
  have la:bj ((E.map aT).map nD++[.int (h:Int)]) (-1)=some (.int (h:Int)):=by
   have:=DP (l:=E.map aT) h;rw[Qk]at this;exact this
  have e1:((E++[(bd,some h)]).map aT).map nD=(E.map aT).map nD++[.int (h:Int)]:=by rw[Qk,Qk];rfl
  have e2:(E++[(bd,some h)]).map aO=E.map aO++[.tup [.tup (bd.map nD),.int (h:Int)]]:=by rw[Qk];rfl
  have b3':iJ [.int (x1:Int),.int (x2:Int)]=some (bd.map nD):=b3
  have hg:(0:Int)<(K.length:Int):=by lia
  rw[e1,e2];clear hE m1 m2 m3 hall b1 b2 b3 hbm e1 e2;generalize (S++E.map aT).map nD=KN,((S++E.map aT).length:Int)=kn,(K.length:Int)=kl,K.map nD=KK,S.map nD=SS,(E.map aT).map nD=LL,E.map aO=EE,bd.map nD=BB,D.int (x1:Int)=d1,D.int (x2:Int)=d2,D.int (h:Int)=d3 at *;simp[ka,hv,hK,hKl,hg,hcat,hkl',p1,p2,p3,p4,p5,p6,ap1,ap2,la,b3']
theorem V9(cells:AG)(hc:cells.length<=100){hh:D}(hK:gB [hh,.int st,.str "keeper"]=some (.lst (K.map nD)))(hn:n<60)(hKn:∀x∈K,st<=x/\x<n)(hSn:∀x∈S,st<=x/\x<n)(hS:0<S.length)(hSl:S.length<=100)(a0 a3 a4:AS):
 ∃(E:List aS) (z8 z9 z10 z11 z12:AS),tF n st K S E/\E.length<=cells.length/\M.forM (ak 8) ka (cells.map D.int) [a0,↑hh,↑(.int st),a3,a4,↑(.lst (S.map nD)),some (.ow []),some (.ow []),none,none,none,none,none,none,none,none] =
  some (.nx [a0,↑hh,↑(.int st),a3,a4,↑(.lst (S.map nD)),some (.ow ((E.map aT).map nD)),some (.ow (E.map aO)),z8,z9,z10,z11,z12,none,none,none]):=by
 obtain⟨ρ',e1,E,z8,z9,z10,z11,z12,h1,h2,rfl⟩:=fF (gt:=ak 8) (fb:=ka) D.int (λpre ρ=>∃(E:List aS) (z8 z9 z10 z11 z12:AS),tF n st K S E/\E.length<=pre.length/\ρ=[a0,↑hh,↑(.int st),a3,a4,↑(.lst (S.map nD)),some (.ow ((E.map aT).map nD)),some (.ow (E.map aO)),z8,z9,z10,z11,z12,none,none,none]) cells []
  [a0,↑hh,↑(.int st),a3,a4,↑(.lst (S.map nD)),some (.ow []),some (.ow []),none,none,none,none,none,none,none,none] ⟨[],none,none,none,none,none,⟨trivial,by simp,by simp⟩,by simp,rfl⟩ (by
   rintro q c r ρ e ⟨E,z8,z9,z10,z11,z12,h1,h2,rfl⟩
   have hq:q.length<=100:=by
    have:=congrArg List.length e;simp at this;lia
   obtain⟨E',y9,y10,y11,y12,g1,g2,g3⟩:=V8 c hK hn hKn hSn hS hSl h1 ∅ a0 a3 a4 z9 z10 z11 z12 none none none
   exact⟨_,_,rfl,g3,E',_,_,_,_,_,g1,by simp;lia,rfl⟩)
 exact⟨E,z8,z9,z10,z11,z12,h1,by simpa using h2,e1⟩
end
section
variable {n st l:Nat}{K:AF}{E Q:List aS}
theorem EZ(hn:n<60)(hm:∀x∈E.map aT++S,x<n)(hl:(E.map aT).length+S.length<=1000)(a0 a1 a2 a4 a7 a8 a9 a10 a11 a12:AS):∃bd:AF,bd.Pairwise (·<·)/\(∀x,x∈bd↔x∈E.map aT++S/\x≠l)/\
 aw 12 (cC (Yb (lF (gO (lF (Yv (b1 (lF (b2 (aa 6) (aa 5) bD)) Yc) [none,some 3] (ak 0) (sV) (sW))))) ae) aL) [a0,a1,a2,↑(.int (l:Int)),a4,↑(.lst (S.map nD)),some (.ow ((E.map aT).map nD)),a7,a8,a9,a10,a11,a12,none,none,none] =
  some (.nx [a0,a1,a2,↑(.int (l:Int)),a4,↑(.lst (S.map nD)),some (.ow ((E.map aT).map nD)),a7,a8,a9,a10,a11,↑(.tup (bd.map nD)),none,none,none]):=by
 have hcat:bD (.lst ((E.map aT).map nD)) (.lst (S.map nD))=some ((E.map aT++S).map nD):=by
  rw[fG (by simp at hl ⊢;lia),Qk]
 have hc:=ek (fc:=sV) (fe:=sW) (r:=[↑(.int (l:Int))]) (enc:=nD) (λx=>!decide (x=l)) nD (l:=E.map aT++S) (λx _=>by simp[sV]) (λx _ _=>by simp[sW]);generalize hF:(E.map aT++S).filter (λx=>!decide (x=l))=F at hc
 have hFm:∀x,x∈F↔x∈E.map aT++S/\x≠l:=λx=>by rw[<-hF,Ql];simp
 have hFl:F.length<=1000:=by
  rw[<-hF];exact Qg (Qn _ _) (by rw[qz];exact hl)
 obtain⟨bd,b1,b2,b3⟩:=ng (n:=n) ∅ F (λx hx=>hm x ((hFm x).mp hx).1) ∅;refine⟨bd,b1,λx=>(b2 x).trans (hFm x),?_⟩;generalize (E.map aT++S).map nD=ES,(E.map aT).map nD=LL,S.map nD=SS,F.map nD=FF,bd.map nD=BB at *;simp[hcat,ar,hc,b3]
theorem E1(c4:Ye [.scr ns,.int 4]=some (.int x4))(bb:D)(a1 a2 a4 a5 a6 a7 a8 a9 a10 a11:AS):∃o:AN,(o=none\/o=some l)/\
 wF [12] (aw 13 (aD (Yb (ab 12) (Yb (b2 (lF (aX (Yb (kD .non) (Yb (ab 3) ae)))) (b2 (b2 (cC (Yb (ab 0) (Yb (Zb 4) ae)) Ye) (Zb 8) bp) (Zb 2) az) ai) ae)))) [↑(.scr ns),a1,a2,↑(.int (l:Int)),a4,a5,a6,a7,a8,a9,a10,a11,↑bb,none,none,none] =
  some (.nx [↑(.scr ns),a1,a2,↑(.int (l:Int)),a4,a5,a6,a7,a8,a9,a10,a11,↑bb,↑(.tup [bb,aj o]),none,none]):=by
 have cs:x4/8%2=0\/x4/8%2=1:=by lia
 rcases cs with c|c
 .exact⟨none,.inl rfl,by simp[c4,c];rfl⟩
 .exact⟨some l,.inr rfl,by simp[c4,c];rfl⟩
theorem E3(hQ:Q.length<=100)(hE:E.length<=100)(a0 a1 a2 a3 a5 a6 a8 a9 a10 a11 a12 a13:AS):
 aw 14 (λρ=>(cF (Yb (cC (Yb (aa 4) ae) ay) (Yb (b2 (cC (Yb (aa 4) ae) ay) (cC (Yb (aa 7) ae) ay) bS) ae)) ck ρ).map D.tup) [a0,a1,a2,a3,some (.ow (Q.map aO)),a5,a6,some (.ow (E.map aO)),a8,a9,a10,a11,a12,a13,none,none] =
  some (.nx [a0,a1,a2,a3,some (.ow (Q.map aO)),a5,a6,some (.ow (E.map aO)),a8,a9,a10,a11,a12,a13,↑(.tup ((cu Q.length E.length).map D.int)),none]):=by
 have hq:((Q.map aO).length:Int)=(Q.length:Int):=by simp
 have he:((E.map aO).length:Int)=(E.length:Int):=by simp
 have hr:=K_ (a:=Q.length) (n:=Q.length+E.length) ∅ ∅;rw[Nat.add_sub_cancel_left,KG]at hr
 have e1:((Q.length+E.length:Nat):Int)=(Q.length:Int)+(E.length:Int):=by lia
 rw[e1]at hr;generalize (cu Q.length E.length).map D.int=PP at *;generalize (Q.length:Int)=q at *;generalize (E.length:Int)=e,Q.map aO=QQ,E.map aO=EE at *;simp[hq,he,hr]
end
theorem V_(ns:AG)(hns:ns.length<=63){H:AH}{l:Nat}(hl:H.length=l+1)(hln:l<20){st:Nat}(hst:st<=l)(hS:l∈aH H st false):∃(R:List aS) (is js:AG),(∀r∈R,OkI H.length st r)/\R.length<=60/\is.length<=100/\js.length<=100/\eP R (aH H st true) (aH H st false) (some l) is js=true/\
 kb [.scr ns,.lst (H.map ax),.int st]=some (.tup [.tup [.str "lone",aj (some l),.tup (is.map D.int),.tup (js.map D.int)],cQ .i R]):=by
 have c4:=g9 ns 4 4 rfl;generalize ns.getD 4 0=x4 at c4
 have hlen:(((H.map ax).length:Nat):Int)-1=(l:Int):=by simp;lia
 obtain⟨RD,hRl,hRo,hd⟩:=EF ns .i (n:=l+1) (st:=st) ∅ ∅;have hk:aJ .i=.str "ifs":=rfl;rw[hk]at hd
 have e1:((l+1:Nat):Int)=(l:Int)+1:=by lia
 rw[e1]at hd;obtain⟨Q,q1,q2,q3⟩:=La hRo;rw[q3]at hd;have hoS:=Dj (c:=.lst (H.map aK)) H rfl ∅ st ∅ false;have hoK:=Dj (c:=.lst (H.map aK)) H rfl ∅ st ∅ true;rw[<-nV]at hoS hoK
 have hmem:∀{b:Bool}{x:Nat},x∈aH H st b->st<=x/\x<l+1:=λh=>⟨(mem_ofH.mp h).2.1,by have:=(mem_ofH.mp h).1;lia⟩
 have hfew:(aH H st false).length<=100:=Qg (Qn _ _) (by simp;lia)
 have hKl:∀x∈aH H st true,x<l:=λx hx=>by
  have h1:=(hmem hx).2
  have h2:x≠l:=λz=>by
   subst z;have g1:=(mem_ofH.mp hx).2.2;have g2:=(mem_ofH.mp hS).2.2;rw[g1]at g2;cases g2
  lia
 obtain⟨cells,hcl,hcut⟩:=nU ns x4 8 ∅;have e8:((8:Nat):Int)=8:=rfl;rw[e8]at hcut;obtain⟨E,z8,z9,z10,z11,z12,hE,hEl,hloop⟩:=V9 (n:=l+1) (st:=st) (K:=aH H st true) (S:=aH H st false) cells ∅ hoK ∅ (λx hx=>hmem hx) (λx hx=>hmem hx) (List.length_pos_of_mem hS) hfew (↑(.scr ns)) (↑(.int (l:Int))) (some (.ow (Q.map aO)))
 have hall:∀x∈E.map aT++aH H st false,st<=x/\x<l+1:=λx hx=>by
  rcases qw hx with hx|hx
  .exact hmem (hE.hd x hx)
  .exact hmem hx
 obtain⟨bd,d1,d2,h6⟩:=EZ (n:=l+1) (l:=l) (E:=E) (S:=aH H st false) ∅ (λx hx=>(hall x hx).2) (by simp;lia) (↑(.scr ns)) (↑(.lst (H.map ax))) (↑(.int st)) (some (.ow (Q.map aO))) (some (.ow (E.map aO))) z8 z9 z10 z11 z12;obtain⟨o,ho,h7⟩:=E1 (l:=l) c4 (.tup (bd.map nD)) (↑(.lst (H.map ax))) (↑(.int st)) (some (.ow (Q.map aO))) (↑(.lst ((aH H st false).map nD))) (some (.ow ((E.map aT).map nD))) (some (.ow (E.map aO))) z8 z9 z10 z11;have h8:=E3 (Q:=Q) (E:=E) ∅ ∅ (↑(.scr ns)) (↑(.lst (H.map ax))) (↑(.int st)) (↑(.int (l:Int))) (↑(.lst ((aH H st false).map nD))) (some (.ow ((E.map aT).map nD))) z8 z9 z10 z11 (↑(.tup (bd.map nD))) (↑(.tup [.tup (bd.map nD),aj o]));refine⟨Q++(E++([]++[(bd,o)])),cu Q.length E.length,cu (Q.length+E.length) 1,λr hr=>?_,by simp;lia,by rw[DX];lia,by rw[DX];lia,?_,?_⟩
 .rw[hl]
  simp at hr;rcases hr with hr|hr|rfl
  .exact q2 r hr
  .exact hE.ok r hr
  .refine nY d1 (λx hx=>hall x ((d2 x).mp hx).1) (λx hx=>?_)
   rcases ho with rfl|rfl
   .cases hx
   .cases hx
    lia
 .refine D2 (L:=[]) hE.d (λz=>by cases z) (λx hx=>by cases hx;exact hS) trivial (λx hx=>?_) ho
  obtain⟨g1,g2⟩:=(d2 x).mp hx;rw[List.map_nil,ja,List.mem_append];rcases qw g1 with g1|g1
  .right
   show x∈(aH H st true).filter λy=>decide (y<l)&&decide (y∈E.map aT);have:=hE.hd x g1;rw[Ql];exact⟨this,by simp only[Qe,wj];exact⟨hKl x this,g1⟩⟩
  .left
   show x∈(aH H st false).filter λy=>!decide (some y=some l);rw[Ql];exact⟨g1,by simp[g2]⟩
 rw[kb,Yj (by rfl)];have hst0:Yd 16 [D.scr ns,.lst (H.map ax),.int (st:Int)]=[↑(.scr ns),↑(.lst (H.map ax)),↑(.int st),none,none,none,none,none,none,none,none,none,none,none,none,none]:=rfl
 have hql:((Q.map aO).length:Int)=(Q.length:Int):=by simp
 have hel:((E.map aO).length:Int)=(E.length:Int):=by simp
 have hfin:JW [↑(.scr ns),↑(.lst (H.map ax)),↑(.int st),none,none,none,none,none,none,none,none,none,none,none,none,none]=some (.rt (.tup [.tup [.str "lone",aj (some l),.tup ((cu Q.length E.length).map D.int),.tup ((cu (Q.length+E.length) 1).map D.int)],cQ .i (Q++(E++([]++[(bd,o)])))])):=by
  refine cR (ρ':=[↑(.scr ns),↑(.lst (H.map ax)),↑(.int st),↑(.int (l:Int)),none,none,none,none,none,none,none,none,none,none,none,none]) ?_ ?_
  .generalize H.map ax=HH at *
   simp[hlen]
  refine cR (ρ':=[↑(.scr ns),↑(.lst (H.map ax)),↑(.int st),↑(.int (l:Int)),some (.ow (Q.map aO)),none,none,none,none,none,none,none,none,none,none,none]) ?_ ?_
  .generalize H.map ax=HH at *
   generalize Q.map aO=QQ at *;simp[hd]
  refine cR (ρ':=[↑(.scr ns),↑(.lst (H.map ax)),↑(.int st),↑(.int (l:Int)),some (.ow (Q.map aO)),↑(.lst ((aH H st false).map nD)),none,none,none,none,none,none,none,none,none,none]) ?_ ?_
  .have hb:aK false=.str "storm":=rfl
   rw[hb]at hoS;generalize H.map ax=HH,Q.map aO=QQ,(aH H st false).map nD=SS at *;simp[hoS]
  refine cR (ρ':=[↑(.scr ns),↑(.lst (H.map ax)),↑(.int st),↑(.int (l:Int)),some (.ow (Q.map aO)),↑(.lst ((aH H st false).map nD)),some (.ow []),none,none,none,none,none,none,none,none,none]) ?_ ?_
  .simp
  refine cR (ρ':=[↑(.scr ns),↑(.lst (H.map ax)),↑(.int st),↑(.int (l:Int)),some (.ow (Q.map aO)),↑(.lst ((aH H st false).map nD)),some (.ow []),some (.ow []),none,none,none,none,none,none,none,none]) ?_ ?_
  .simp
  refine cR (ρ':=[↑(.scr ns),↑(.lst (H.map ax)),↑(.int st),↑(.int (l:Int)),some (.ow (Q.map aO)),↑(.lst ((aH H st false).map nD)),some (.ow ((E.map aT).map nD)),some (.ow (E.map aO)),z8,z9,z10,z11,z12,none,none,none]) ?_ ?_
  .generalize hy:x4%8=y at *
   generalize cells.map D.int=CC,H.map ax=HH,Q.map aO=QQ,(aH H st false).map nD=SS,(E.map aT).map nD=LL,E.map aO=EE at *;simp[c4,hy,hcut,hloop]
  refine cR h6 ?_;refine cR h7 ?_;refine cR h8 ?_
  have hp1:(cu (Q.length+E.length) 1).map D.int=[.int ((Q.length:Int)+(E.length:Int))]:=by
   show[D.int (((Q.length+E.length:Nat)):Int)]=_;rw[show((Q.length+E.length:Nat):Int)=(Q.length:Int)+(E.length:Int) by lia]
  have ho2:aj (some l)=.int (l:Int):=rfl;have c1:=fG (a:=Q.map aO) (b:=E.map aO) (by simp;lia);have c2:=fG (a:=Q.map aO++E.map aO) (b:=[.tup [.tup (bd.map nD),aj o]]) (by simp;lia)
  have hm2:cQ .i (Q++(E++([]++[(bd,o)])))=.tup [.str "ifs",.tup (Q.map aO++E.map aO++[.tup [.tup (bd.map nD),aj o]])]:=by
   show D.tup [_,.tup ((Q++(E++([]++[(bd,o)]))).map aO)]=_;rw[Qk,Qk,Qj,jb];rfl
  rw[hm2,hp1,ho2];refine cR (ρ':=[↑(.scr ns),↑(.lst (H.map ax)),↑(.int st),↑(.int (l:Int)),some (.ow (Q.map aO)),↑(.lst ((aH H st false).map nD)),some (.ow ((E.map aT).map nD)),some (.ow (E.map aO)),z8,z9,z10,z11,↑(.tup (bd.map nD)),↑(.tup [.tup (bd.map nD),aj o]),↑(.tup ((cu Q.length E.length).map D.int)),↑(.tup [.str "lone",.int (l:Int),.tup ((cu Q.length E.length).map D.int),.tup [.int ((Q.length:Int)+(E.length:Int))]])]) ?_ ?_
  .generalize (cu Q.length E.length).map D.int=PP at *
   generalize D.tup [.tup (bd.map nD),aj o]=LT,(Q.length:Int)=ql,(E.length:Int)=el,H.map ax=HH,(aH H st false).map nD=SS,(E.map aT).map nD=LL,Q.map aO=QQ,E.map aO=EE at *;simp[hql,hel]
  .generalize D.tup [.str "lone",.int (l:Int),.tup ((cu Q.length E.length).map D.int),.tup [.int ((Q.length:Int)+(E.length:Int))]]=PL at *
   generalize D.tup [.tup (bd.map nD),aj o]=LT,H.map ax=HH,(aH H st false).map nD=SS,(E.map aT).map nD=LL,Q.map aO=QQ,E.map aO=EE at *;simp[c1,c2]
 rw[hst0,hfin];rfl
theorem Lb(ns:AG)(hns:ns.length<=63){H:AH}{st l:Nat}(hl:H.length=l+1)(hln:l<20)(hst:st<=l)(hS:l∈aH H st false):∃pp R,kb [.scr ns,.lst (H.map ax),.int st]=some (.tup [pp,Yk .i R])/\gz [Yk .i R]=some (Yk .n R)/\(∃due,Game pp .i R H st due)/\∃due,Game pp .n R H st due:=by
 obtain⟨R,is,js,hR,hRl,hil,hjl,hB,hm⟩:=V_ ns hns hl hln hst hS;have hRi:∀r∈R,fL H.length r:=λr hr=>(hR r hr).1;have hx:=(KM hRi).1;rw[<-jB,<-jB]at hx;rw[<-jB]at hm
 have fin:∀k:Kd,(k=.i\/k=.n)->∃due,Game (.tup [.str "lone",aj (some l),.tup (is.map D.int),.tup (js.map D.int)]) k (R.map eO) H st due:=λk hk=>by
  have hg:=Vx hk hRi rfl ∅ (st:=st) ∅ hil hjl hB;rw[<-jB,<-nV]at hg;refine⟨dY (cz R (aH H st true) (some l) is) (some l) (decide (k=.i)),EU hg,λev _ _ _=>EM ?_,?_,λr hr=>?_,λr hr=>?_,by rw[qf];lia,by lia,by lia,λev hel hK=>?_⟩
  .rw[jB,En]
   exact Vw (k:=k) ∅ ∅ hB ev
  .show(cN (.str "lone")&&(cN (aj (some l))&&(bf (is.map D.int)&&(bf (js.map D.int)&&bf []))))=true
   rw[gH λ_=>rfl,gH λ_=>rfl];rfl
  .obtain⟨q,hq,rfl⟩:=qy hr
   have h1:=(hR q hq).1
   have h2:dE k H.length (eO q):=⟨⟨hk,h1.1.2⟩,h1.2⟩
   exact⟨h2,Qg (mj h2.1 h2.2) ∅⟩
  .obtain⟨q,hq,rfl⟩:=qy hr
   exact(hR q hq).2
  .refine Vz hB ∅ λc hc h1 h2=>?_
   exact(nW hel hK (mem_ofH.mpr ⟨by lia,h1,h2⟩)).2
 exact⟨_,_,hm,hx,fin .i (.inl rfl),fin .n (.inr rfl)⟩
section
variable {n w:Int}{k:Kd}{R:List Rl}{H:AH}{st:Nat}{l:Addr}{due:AH->Bool}{y4:AS}
theorem E4(g:Game pp k R H st due)(hns:ns.length<=63)(hb:bits.length=H.length){t:Hs}(hl:t l=some (.bls [])):CU (ro ns n w pp k R H st l (bits.map D.bl) none none none none) t nQ:=by
 unfold CU;have hH:=g.hH;have hs:=g.hs;have hr:=EG st ∅;refine Eb ?_ (K0 (λn:Nat=>D.int (n:Int)) (λpre ρ t1=>(∃y,ρ=ro ns n w pp k R H st l (bits.map D.bl) y none none none)/\t1 l=some (.bls (bits.take pre.length))) (List.range' 0 st) [] _ t _ ⟨⟨none,rfl⟩,hl⟩ (λq a r ρ t1 Q e hI hq=>?_) λρ' t1 hI=>?_)
 .unfold ro
  generalize Yk k R=bk,Wa k R H l=ww,H.map ax=HD at *;simp[hr]
 .obtain⟨⟨y,rfl⟩,i2⟩:=hI
  rw[Qj]at e;obtain⟨rfl,hqs⟩:=nT e;refine⟨_,rfl,?_⟩;unfold J1
  have hlt:q.length<bits.length:=by lia
  have hat:bj (bits.map D.bl) (q.length:Int)=some (.bl bits[q.length]):=by
   rw[eD,eU hlt];rfl
  refine K5 (c:=bits[q.length]) (ev:=bits.take q.length) rfl ?_ i2 (by rw[List.length_take];lia) ∅ g.r λd=>?_
  .show(Yb (b2 (aa 8) (aa 9) ai) ae) ((ro ns n w pp k R H st l (bits.map D.bl) y none none none).set 9 (↑(.int (q.length:Int))))=_
   unfold ro;generalize bits.map D.bl=BB,Yk k R=bk,Wa k R H l=ww,H.map ax=HD at *;simp[hat]
  .refine hq _ _ ⟨⟨_,rfl⟩,?_⟩
   rw[Ym,qz,jc,List.take_succ_eq_append_getElem hlt]
 .obtain⟨⟨y,rfl⟩,i2⟩:=hI
  rw[Qj,List.length_range']at i2;exact EB g hns i2 (by rw[List.length_take];lia)
theorem Wb(g:Game pp k R H st due)(hns:ns.length<=63)(c2:Ye [.scr ns,.int 2]=some (.int x2)){m:Nat}(hn:m=H.length):rb CW [↑(.scr ns),↑(.int m),↑(.lst (H.map ax)),↑(.int st),↑(.int w),↑pp,↑(Yk k R),none,none,none,none,none,none]=some (.rt (.bl true)):=by
 unfold rb;refine Iv ?_;have hH:=g.hH;have hln:=g.ln;have hck:jo [Yk k R,.lst (H.map ax)]=some .non:=VD (m:=61) (H:=H) ∅ ∅ (λr hr=>⟨(g.ok r hr).1,by have:=(g.ok r hr).2;lia⟩) (.inl rfl);unfold CW;refine ko (VF (b:=Yk k R) (h:=.lst (H.map ax)) (l:=H.map ax) rfl hck nofun (Ey k R) (nP H) λa t' h1 h2 h3=>?_);obtain⟨bits,hbl,hbits⟩:=tj (x2/61) m ∅;show CV _ _ _;unfold CV;refine nG (ρ':=ro ns m w pp k R H st a (bits.map D.bl) none none none none) ?_ (E4 g hns ∅ h2);unfold ro;generalize bits.map D.bl=BB at *;have hwa:Wa k R H a=aZ (Yk k R) (.tup (H.map ax)) (.adr a):=rfl;rw[hwa];clear hwa;generalize aZ (Yk k R) (.tup (H.map ax)) (.adr a)=ww at *;generalize Yk k R=bk at *;generalize H.map ax=HD at *;simp[c2,hbits]
end
section
variable {st:Int}{n:Nat}{hh bk bk2:D}{y2:AS}
def E5(c0:Ye [.scr ns,.int 0]=some (.int x0))(hn:2+x0/8%15=(n:Int)):nc [↑(.scr ns),none,none,none,none,none,none,none,none,none,none,none,none]=C3 [↑(.scr ns),↑(.int n),none,none,none,none,none,none,none,none,none,none,none]:=
 cR (by simp[c0,hn]) rfl
theorem E6{H1:AR}(c1:Ye [.scr ns,.int 1]=some (.int x1))(hm:mY [.int x1,.int ((n:Int)-1)]=some (.lst H1))(hl:H1.length<=100):C3 [↑(.scr ns),↑(.int n),none,none,none,none,none,none,none,none,none,none,none]=C2 [↑(.scr ns),↑(.int n),some (.ow (H1++[.str "storm"])),none,none,none,none,none,none,none,none,none,none]:=by
 have hc:=fG (a:=H1) (b:=[.str "storm"]) (by simp;lia);exact cR (by simp[c1,hm,hc]) rfl
theorem E7(hn:0<n)(c0:Ye [.scr ns,.int 0]=some (.int x0))(c2:Ye [.scr ns,.int 2]=some (.int x2)):
 ∃st:Nat,st<n/\C2 [↑(.scr ns),↑(.int n),y2,none,none,none,none,none,none,none,none,none,none]=C1 [↑(.scr ns),↑(.int n),y2,↑(.int st),none,none,none,none,none,none,none,none,none]:=by
 have hp:(0:Int)<(n:Int):=by lia
 have g1:=Int.emod_nonneg x2 (show(n:Int)≠0 by lia);have g2:=Int.emod_lt_of_pos x2 hp
 obtain⟨s,hs⟩:∃s:Nat,x2%(n:Int)=(s:Int):=⟨(x2%(n:Int)).toNat,by lia⟩
 have hm:az (.int x2) (.int (n:Int))=some (.int (s:Int)):=by rw[<-hs];exact lU hp
 have cs:x0/4%2=0\/x0/4%2=1:=by lia
 rcases cs with c|c
 .exact⟨0,by lia,cR (by simp[c0,c2,hm,c]) rfl⟩
 .exact⟨s,by lia,cR (by simp[c0,c2,hm,c]) rfl⟩
def E8(c0:Ye [.scr ns,.int 0]=some (.int x0))(a1 a2 a3:AS):C1 [↑(.scr ns),a1,a2,a3,none,none,none,none,none,none,none,none,none]=C0 [↑(.scr ns),a1,a2,a3,↑(.int (x0%4)),none,none,none,none,none,none,none,none]:=
 cR (by simp[c0]) rfl
def jD(a b:D)(ρ:Ro):eT 5 6 (.tup [a,b]) ρ=some ((ρ.set 5 (↑a)).set 6 (↑b)):=rfl
def tG{w:Int}(hw:w=0/\j9 [.scr ns,.lst HH,.int st]=some (.tup [pp,bk])\/w=1/\j_ [.scr ns,.lst HH,.int st]=some (.tup [pp,bk])\/(¬w=0/\¬w=1)/\kb [.scr ns,.lst HH,.int st]=some (.tup [pp,bk]))(a1:AS):
 C0 [↑(.scr ns),a1,some (.ow HH),↑(.int st),↑(.int w),none,none,none,none,none,none,none,none]=CZ [↑(.scr ns),a1,↑(.lst HH),↑(.int st),↑(.int w),↑pp,↑bk,none,none,none,none,none,none]:=by
 refine cR ?_ rfl;rcases hw with⟨rfl,h⟩|⟨rfl,h⟩|⟨⟨h1,h2⟩,h⟩
 .simp[h,jD]
 .simp[h,jD]
 .simp[h1,h2,h,jD]
def tH{w:Int}(hw:w=3/\gz [bk]=some bk2\/¬w=3/\bk=bk2)(a0 a1 a2 a3 a5:AS):
 CZ [a0,a1,a2,a3,↑(.int w),a5,↑bk,none,none,none,none,none,none]=CY [a0,a1,a2,a3,↑(.int w),a5,↑bk2,none,none,none,none,none,none]:=by
 refine cR ?_ rfl;rcases hw with⟨rfl,h⟩|⟨h1,rfl⟩
 .simp[h]
 .simp[h1]
end
theorem law_true(ns:AG)(hns:ns.length<=63):kf [.scr ns]=some (.bl true):=by
 rw[kf,Yj (by rfl)];have c0:=g9 ns 0 0 rfl;have c1:=g9 ns 1 1 rfl;have c2:=g9 ns 2 2 rfl;generalize ns.getD 0 0=x0 at c0;generalize ns.getD 1 0=x1 at c1;generalize ns.getD 2 0=x2 at c2
 obtain⟨l,hl⟩:∃l:Nat,2+x0/8%15=((l+1:Nat):Int):=⟨(1+x0/8%15).toNat,by lia⟩
 obtain⟨H0,hHl,hHe⟩:=UX x1 l ∅
 have e1:(l:Int)=((l+1:Nat):Int)-1:=by lia
 rw[e1,<-nV]at hHe
 have hHH:H0.map ax++[.str "storm"]=(H0++[false]).map ax:=by rw[Qk];rfl
 have hH:(H0++[false]).length=l+1:=by simp[hHl]
 have hlast:∀{st:Nat},st<=l->l∈aH (H0++[false]) st false:=λh=>mem_ofH.mpr ⟨by lia,h,by rw[<-hHl];simp⟩;obtain⟨st,hst,e2⟩:=E7 (n:=l+1) (y2:=some (.ow ((H0++[false]).map ax))) ∅ c0 c2;have hst0:Yd 13 [D.scr ns]=[↑(.scr ns),none,none,none,none,none,none,none,none,none,none,none,none]:=rfl;rw[hst0,E5 c0 hl,E6 c1 hHe (by simp;lia),hHH,e2,E8 c0];generalize H0++[false]=H at *;have hS:=hlast (st:=st) ∅;have fin:∀{pp:D}{k:Kd}{R:List Rl}{due:AH->Bool},Game pp k R H st due->CY [↑(.scr ns),↑(.int ((l+1:Nat):Int)),↑(.lst (H.map ax)),↑(.int st),↑(.int (x0%4)),↑pp,↑(Yk k R),none,none,none,none,none,none]=some (.rt (.bl true)):=λg=>Wb g hns c2 hH.symm
 have hc:x0%4=0\/x0%4=1\/x0%4=2\/x0%4=3:=by lia
 rcases hc with h|h|h|h
 .obtain⟨pp,R,due,hm,g⟩:=V2 ns hns (H:=H) (st:=st) ∅ ∅ (List.length_pos_of_mem hS)
  rw[tG (.inl ⟨h,hm⟩),tH (.inr ⟨by lia,rfl⟩),fin g];rfl
 .obtain⟨pp,R,due,hm,g⟩:=V7 ns hns (H:=H) (st:=st) hH ∅ ∅ hS
  rw[tG (.inr (.inl ⟨h,hm⟩)),tH (.inr ⟨by lia,rfl⟩),fin g];rfl
 .obtain⟨pp,R,hm,_,⟨due,g⟩,_⟩:=Lb ns hns (H:=H) (st:=st) hH ∅ ∅ hS
  rw[tG (.inr (.inr ⟨⟨by lia,by lia⟩,hm⟩)),tH (.inr ⟨by lia,rfl⟩),fin g];rfl
 .obtain⟨pp,R,hm,hx,_,⟨due,g⟩⟩:=Lb ns hns (H:=H) (st:=st) hH ∅ ∅ hS
  rw[tG (.inr (.inr ⟨⟨by lia,by lia⟩,hm⟩)),tH (.inl ⟨h,hx⟩),fin g];rfl
end Lw
end
noncomputable section
namespace Op
open PySem PySem.W PyProof.Rows PySem.Calls
abbrev pg:P7:=PySem.Challenge.pw_duskbook_k43_whole_storms_papers_win
noncomputable def bU(i j:Nat):Stmt:=L2.inClass (Lw.top i) j
abbrev en(P:Params)(x:Str)(t:Nat)(v:Value):DictEntry:=⟨PyData.keyHash P x,.str x t,v⟩
abbrev fn(e a:Str)(s:Stmt)(i k c h:Value)(f:Option Addr)(d j:Value)(g b:Nat):Data:=.func ⟨e,a,L2.aEa s,.stmts (L2.aDa s),L2.aBa s,g,[],i,k,c,h,f,d,j,b⟩
abbrev tu(l:AC):Obj:=⟨.type "tuple",none,.seq ⟨l⟩ 0,#[]⟩
abbrev oK(x:Str)(t l b k e:Nat):Obj:=⟨.type "code",none,.fields #[.str x t,.str x (t+1),.str "/claim/cut.py" (t+2),.int l 0,.int 0 0,.int 0 0,.int 0 0,.int 0 0,.ref b,.bool false,.int k 0,.ref (b+1),.none,.none,.none,.none,.int e 0,.int l 0,.str "/claim/cut.py" (e+1)],#[]⟩
abbrev oQ(x q:Str)(t l n b:Nat)(u v:Value)(c k e:Nat):Obj:=⟨.type "code",none,.fields #[.str x t,.str q (t+1),.str "/claim/cut.py" (t+2),.int l 0,.int n 0,.int 0 0,.int 0 0,.int 3 0,.ref b,.bool true,.int k 0,.ref (b+1),.none,u,v,.ref c,.int e 0,.int l 0,.str "/claim/cut.py" (e+1)],#[]⟩
abbrev oX(a b:Nat)(x:Str)(t:Nat):Obj:=⟨.type "frame",none,.plain,#[some (.ref a),some (.ref 3),some (.ref b),none,some (.str x t),none,some (.ref 0)]⟩
abbrev oP:Obj:=⟨.type "builtin_function_or_method",none,.fields #[.builtin "type.__prepare__",.type "type"],#[]⟩
abbrev oI(a:Nat):Obj:=⟨.type "builtin_function_or_method",none,.fields #[.builtin "object.__init_subclass__",.ref a],#[]⟩
abbrev oS(a:Nat):Obj:=⟨.type "super",none,.fields #[.ref a,.ref a,.ref a],#[]⟩
abbrev oD(l:Array DictEntry)(n:Nat):Obj:=⟨.type "dict",none,.dict l n,#[]⟩
abbrev iz(n:Int):Value:=.int n 0
abbrev rf(n:Nat):Value:=.ref n
abbrev Za(P:Params)(x:Str)(t n:Nat):=en P x t (rf n)
abbrev fl:Obj:=⟨.none,none,.fields #[],#[]⟩
abbrev oZ(x:Str)(i:Nat):Obj:=⟨.none,none,fn x x (Lw.top i) .none .none .none .none none .none .none 0 0,#[]⟩
abbrev oF(x:Str)(i:Nat)(d:Value)(c:Nat):Obj:=⟨.type "function",none,.func (fnOf x x (L2.aEa (Lw.top i)) (L2.aDa (Lw.top i)) (L2.aBa (Lw.top i)) .none .none .none d none (.ref c) .none),#[]⟩
abbrev oM(x q:Str)(i j:Nat)(d:Value)(c:Nat):Obj:=⟨.type "function",none,.func (fnOf x q (L2.aEa (L2.inClass (Lw.top i) j)) (L2.aDa (L2.inClass (Lw.top i) j)) (L2.aBa (L2.inClass (Lw.top i) j)) .none .none .none d none (.ref c) .none),#[]⟩
abbrev oC(x:Str)(t l n b:Nat)(u v:Value)(c k e:Nat):Obj:=⟨.type "code",none,.fields #[.str x t,.str x (t+1),.str "/claim/cut.py" (t+2),.int (.ofNat l) 0,.int (.ofNat n) 0,.int 0 0,.int 0 0,.int 3 0,.ref b,.bool true,.int (.ofNat k) 0,.ref (b+1),.none,u,v,.ref c,.int (.ofNat e) 0,.int (.ofNat l) 0,.str "/claim/cut.py" (e+1)],#[]⟩
abbrev p0:Value:=.str "__main__" 164
abbrev p1:Value:=(.str "duskbook.adding" 194)
abbrev p2:Value:=(.str "duskbook.parts" 214)
abbrev p3:Value:=(.str "duskbook.roads" 232)
abbrev p4:Value:=(.str "duskbook.blends" 256)
abbrev p5:Value:=(.str "duskbook.books" 351)
abbrev p6:Value:=(.str "duskbook.deriving" 468)
abbrev p7:Value:=(.str "duskbook.storming" 511)
abbrev p8:Value:=(.str "duskbook.playing" 625)
abbrev p9:Value:=(.str "duskbook.settlers" 710)
abbrev eF:Value:=(.str "duskbook.keeping" 855)
abbrev Lc:Value:=(.str "duskbook.checking" 960)
abbrev dH:Value:=(.str "duskbook.watches" 973)
abbrev cA:Value:=(.str "law_duskbook_k43_whole_storms_papers_win" 1066)
def Wc(P:Params):List DictEntry:=[en P "__doc__" 166 .none,en P "__package__" 167 .none,en P "__loader__" 168 (.builtin "__main__.__loader__#opaque"),en P "__spec__" 169 .none,Za P "__annotations__" 170 6,Za P "__builtins__" 171 4,en P "__file__" 173 (.str "/claim/cut.py" 172),en P "__cached__" 174 .none,Za P "_wall" 193 21,Za P "both_added" 203 28,Za P "added" 213 35,Za P "HANDS" 218 36,Za P "beacons_with" 224 41,Za P "is_rising" 231 48,Za P "contrary" 240 55,Za P "led_to" 246 60,Za P "is_road" 255 67,Za P "EXCHANGED_KINDS" 270 68,Za P "exchanged_rule" 276 73,Za P "exchanged" 282 78,Za P "DuskError" 302 88,Za P "NoHands" 318 101,Za P "Over" 334 113,Za P "NoLight" 350 125,en P "BEACON_COUNT" 354 (.int (60) 353),Za P "either_holds" 360 132,Za P "sum_holds" 366 137,Za P "if_holds" 372 142,Za P "rule_holds" 381 149,Za P "broken_rules" 387 154,Za P "holds" 395 161,Za P "beacons_in" 401 166,Za P "beacons_of" 410 173,Za P "is_void" 418 180,Za P "without" 424 185,Za P "either_left" 430 190,Za P "sum_left" 441 197,Za P "if_left" 451 204,Za P "rule_left" 461 211,Za P "left_behind" 467 216]
def Wd(P:Params):List DictEntry:=[Za P "is_place" 477 223,Za P "body_is_known" 483 228,Za P "is_step" 493 235,Za P "is_derivation" 504 242,Za P "derived" 510 247,Za P "is_broken" 518 252,Za P "lead_there_and_back" 527 259,Za P "clash_good" 536 266,Za P "cross_good" 545 273,Za P "late_good" 556 280,Za P "odd_good" 562 285,Za P "first_ones" 568 290,Za P "is_first_part" 578 297,Za P "is_last_part" 590 304,Za P "lone_good" 602 311,Za P "either_paper_good" 612 318,Za P "storm_good" 624 325,Za P "row_of" 632 330,Za P "is_odd_count" 638 335,Za P "plan_said" 647 342,Za P "sums_said" 656 349,Za P "rows_said" 662 354,Za P "cross_said" 671 361,Za P "late_said" 680 368,Za P "odd_said" 689 375,Za P "lone_said" 695 380,Za P "said" 709 387,Za P "Settler" 757 418,Za P "Rowed" 801 453,Za P "Papered" 842 480,Za P "play_out" 854 489,Za P "rows_by_beacon" 862 494,Za P "is_plan_row" 870 501,Za P "come_to" 879 508,Za P "either_is_kept" 885 513,Za P "plan_good" 891 518,Za P "is_sum_row" 897 523,Za P "replaced" 908 530,Za P "sums_good" 914 535,Za P "are_some_of" 920 540]
def We(P:Params):List DictEntry:=[Za P "ahead_of" 926 545,Za P "is_row" 935 552,Za P "holds_where_lit" 941 557,Za P "rows_good" 947 562,Za P "keeper_good" 959 569,Za P "good" 972 576,Za P "is_hand" 981 583,Za P "check_hands" 987 588,Za P "Watch" 1065 647,Za P "_law_cell" 1075 658,Za P "_law_mixed" 1083 665,Za P "_law_bits" 1094 672,Za P "_law_so" 1100 677,Za P "_law_rule" 1114 684,Za P "_law_hands" 1120 689,Za P "_law_own" 1126 694,Za P "_law_numbers_of" 1136 701,Za P "_law_moved" 1142 706,Za P "_law_drawn" 1148 711,Za P "_law_cross" 1166 718,Za P "_law_odd" 1172 723,Za P "_law_lone" 1178 728,Za P "law" 1184 733]
def et(P:Params):List DictEntry:=Wc P++Wd P++We P
abbrev ns(P:Params)(x:DictEntry)(n k:Nat):Obj:=⟨.type "dict",none,.dict ⟨x::(et P).take n⟩ k,#[]⟩
def Wf:AC:=[iz 1,iz 0,rf 20,iz 5,iz 0,rf 27,iz 7,iz 0,rf 34,iz 14,iz 0,rf 40,iz 16,iz 0,rf 47,iz 19,iz 0,rf 54,iz 21,iz 0,rf 59,iz 29,iz 0,rf 66,iz 36,iz 0,rf 72,iz 42,iz 0,rf 77,iz 46,iz 0,rf 84,iz 48,iz 0,rf 97,iz 50,iz 0,rf 109,iz 52]
def Wg:AC:=[iz 0,rf 121,iz 56,iz 0,rf 131,iz 58,iz 0,rf 136,iz 61,iz 0,rf 141,iz 65,iz 0,rf 148,iz 71,iz 0,rf 153,iz 73,iz 0,rf 160,iz 75,iz 0,rf 165,iz 81,iz 0,rf 172,iz 86,iz 0,rf 179,iz 88,iz 0,rf 184,iz 90,iz 0,rf 189,iz 94,iz 0,rf 196,iz 100,iz 0]
def Wh:AC:=[rf 203,iz 107,iz 0,rf 210,iz 115,iz 0,rf 215,iz 119,iz 0,rf 222,iz 121,iz 0,rf 227,iz 123,iz 0,rf 234,iz 128,iz 0,rf 241,iz 135,iz 0,rf 246,iz 139,iz 0,rf 251,iz 141,iz 0,rf 258,iz 145,iz 0,rf 265,iz 147,iz 0,rf 272,iz 151,iz 0,rf 279,iz 155,iz 0,rf 284]
def Wi:AC:=[iz 162,iz 0,rf 289,iz 167,iz 0,rf 296,iz 171,iz 0,rf 303,iz 177,iz 0,rf 310,iz 183,iz 0,rf 317,iz 191,iz 0,rf 324,iz 206,iz 0,rf 329,iz 208,iz 0,rf 334,iz 210,iz 0,rf 341,iz 215,iz 0,rf 348,iz 218,iz 0,rf 353,iz 224,iz 0,rf 360,iz 231,iz 0,rf 367,iz 236]
def Wj:AC:=[iz 0,rf 374,iz 241,iz 0,rf 379,iz 245,iz 0,rf 386,iz 265,iz 0,rf 393,iz 275,iz 0,rf 428,iz 288,iz 0,rf 461,iz 299,iz 0,rf 488,iz 309,iz 0,rf 493,iz 311,iz 0,rf 500,iz 313,iz 0,rf 507,iz 318,iz 0,rf 512,iz 321,iz 0,rf 517,iz 326,iz 0,rf 522,iz 328,iz 0]
def Wl:AC:=[rf 529,iz 334,iz 0,rf 534,iz 339,iz 0,rf 539,iz 341,iz 0,rf 544,iz 343,iz 0,rf 551,iz 345,iz 0,rf 556,iz 347,iz 0,rf 561,iz 354,iz 0,rf 568,iz 367,iz 0,rf 575,iz 372,iz 0,rf 582,iz 374,iz 0,rf 587,iz 381,iz 0,rf 594,iz 419,iz 0,rf 657,iz 423,iz 0,rf 664]
def Wn:AC:=[iz 425,iz 0,rf 671,iz 432,iz 0,rf 676,iz 441,iz 0,rf 683,iz 460,iz 0,rf 688,iz 462,iz 0,rf 693,iz 464,iz 0,rf 700,iz 472,iz 0,rf 705,iz 479,iz 0,rf 710,iz 481,iz 0,rf 717,iz 497,iz 0,rf 722,iz 507,iz 0,rf 727,iz 526,iz 0,rf 732]
def ff:AC:=Wf++Wg++Wh++Wi++Wj++Wl++Wn
abbrev ft(n:Nat):Obj:=⟨.none,none,.fields ⟨ff.take n⟩,#[]⟩
abbrev dF(x:Str)(i l n t b:Nat)(a:Value)(k:Nat):List Obj:=[tu [],fl,oZ x i,oC x t l n b .none .none (b+2) k (t+3),oF x i a (b+3)]
abbrev dG(x:Str)(i l n t b:Nat)(a:Value)(k:Nat)(u:AC):List Obj:=[tu [],fl,tu u,tu [],oZ x i,oC x t l n b (.ref (b+2)) (.ref (b+3)) (b+4) k (t+3+u.length),oF x i a (b+5)]
def Wo(P:Params):List Obj:=[boot_o_0 P,boot_o_1 P,boot_o_2 P,ns P (en P "__name__" 165 (.str "law_duskbook_k43_whole_storms_papers_win" 1066)) 103 104,boot_o_4 P,boot_o_5 P,boot_o_6 P,boot_o_7 P,boot_o_8 P,boot_o_9 P,boot_o_10 P,tu [],ft 276,oK "<module>" 182 1 11 181 185,oX 13 3 "__main__" 164]++(dG "_wall" 0 1 1 187 15 p0 181 [.str "k" 190]++(dG "both_added" 2 5 2 196 22 p1 181 [.str "rule" 199,.str "other" 200]++(dG "added" 3 7 2 204 29 p1 181 [.str "book" 207,.str "places" 208,.str "whole" 209,.str "place" 210]++([tu [.str "keeper" 216,.str "storm" 217]]++(dF "beacons_with" 6 14 3 219 37 p2 181++(dG "is_rising" 7 16 1 225 42 p2 181 [.str "numbers" 228]++(dG "contrary" 9 19 1 234 49 p3 181 [.str "saying" 237]++(dF "led_to" 10 21 2 241 56 p3 181++(dG "is_road" 11 29 2 247 61 p3 181 [.str "book" 250,.str "road" 251,.str "place" 252]++([(oD #[en P "eithers" 258 (.str "eithers" 259),en P "sums" 260 (.str "sums" 261),en P "ifs" 262 (.str "nots" 263),en P "nots" 264 (.str "ifs" 265)] 4)]++(dF "exchanged_rule" 14 36 2 271 69 p4 181++(dF "exchanged" 15 42 1 277 74 p4 181++([tu [.type "ValueError"],oP,(oD #[en P "__module__" 292 (.str "duskbook.errors" 283),en P "__qualname__" 294 (.str "DuskError" 293),en P "__firstlineno__" 296 (.int (46) 295),Za P "__static_attributes__" 297 86] 4),tu [],fl,oK "DuskError" 287 46 82 181 290,oX 84 81 "duskbook.errors" 283,tu [],(oD #[en P "__module__" 292 (.str "duskbook.errors" 283),en P "__firstlineno__" 296 (.int (46) 295),Za P "__static_attributes__" 297 86,Za P "__weakref__" 299 89,en P "__doc__" 300 .none] 3),⟨.type "type",none,(.cls ⟨"DuskError",[.type "ValueError"],[rf 88,.type "ValueError",.type "Exception",.type "BaseException",.type "object"],87,"DuskError",true,[],[rf 101,rf 113,rf 125],false,none,false⟩),#[(some (rf 79)),none,(some (.str "DuskError" 285)),(some (.str "DuskError" 293)),(some (.builtin "ValueError.__new__")),(some (.bool true))]⟩,⟨.type "getset_descriptor",none,(.fields #[.str "__weakref__" 298,rf 88,.builtin "ExceptionGroup.__weakref__",.none]),#[]⟩,oS 88,oI 88,tu [rf 88],oP,(oD #[en P "__module__" 310 (.str "duskbook.errors" 283),en P "__qualname__" 312 (.str "NoHands" 311),en P "__firstlineno__" 314 (.int (48) 313),Za P "__static_attributes__" 315 99] 4),tu [],fl,oK "NoHands" 305 48 95 181 308,oX 97 94 "duskbook.errors" 283,tu [],(oD #[en P "__module__" 310 (.str "duskbook.errors" 283),en P "__firstlineno__" 314 (.int (48) 313),Za P "__static_attributes__" 315 99,en P "__doc__" 316 .none] 2),⟨.type "type",none,(.cls ⟨"NoHands",[rf 88],[rf 101,rf 88,.type "ValueError",.type "Exception",.type "BaseException",.type "object"],100,"NoHands",true,[],[],false,none,false⟩),#[(some (rf 92)),none,(some (.str "NoHands" 303)),(some (.str "NoHands" 311)),(some (.builtin "ValueError.__new__")),(some (.bool true))]⟩,oS 101,oI 101,tu [rf 88],oP,(oD #[en P "__module__" 326 (.str "duskbook.errors" 283),en P "__qualname__" 328 (.str "Over" 327),en P "__firstlineno__" 330 (.int (50) 329),Za P "__static_attributes__" 331 111] 4),tu [],fl,oK "Over" 321 50 107 181 324,oX 109 106 "duskbook.errors" 283,tu [],(oD #[en P "__module__" 326 (.str "duskbook.errors" 283),en P "__firstlineno__" 330 (.int (50) 329),Za P "__static_attributes__" 331 111,en P "__doc__" 332 .none] 2),⟨.type "type",none,(.cls ⟨"Over",[rf 88],[rf 113,rf 88,.type "ValueError",.type "Exception",.type "BaseException",.type "object"],112,"Over",true,[],[],false,none,false⟩),#[(some (rf 104)),none,(some (.str "Over" 319)),(some (.str "Over" 327)),(some (.builtin "ValueError.__new__")),(some (.bool true))]⟩,oS 113,oI 113,tu [rf 88],oP,(oD #[en P "__module__" 342 (.str "duskbook.errors" 283),en P "__qualname__" 344 (.str "NoLight" 343),en P "__firstlineno__" 346 (.int (52) 345),Za P "__static_attributes__" 347 123] 4)]++([tu [],fl,oK "NoLight" 337 52 119 181 340,oX 121 118 "duskbook.errors" 283,tu [],(oD #[en P "__module__" 342 (.str "duskbook.errors" 283),en P "__firstlineno__" 346 (.int (52) 345),Za P "__static_attributes__" 347 123,en P "__doc__" 348 .none] 2),⟨.type "type",none,(.cls ⟨"NoLight",[rf 88],[rf 125,rf 88,.type "ValueError",.type "Exception",.type "BaseException",.type "object"],124,"NoLight",true,[],[],false,none,false⟩),#[(some (rf 116)),none,(some (.str "NoLight" 335)),(some (.str "NoLight" 343)),(some (.builtin "ValueError.__new__")),(some (.bool true))]⟩,oS 125,oI 125]++(dF "either_holds" 23 56 2 355 128 p5 181++(dF "sum_holds" 24 58 2 361 133 p5 181++(dF "if_holds" 25 61 3 367 138 p5 181++(dG "rule_holds" 26 65 3 373 143 p5 181 [.str "kind" 376,.str "rule" 377,.str "evening" 378]++(dF "broken_rules" 27 71 2 382 150 p5 181++(dG "holds" 28 73 2 388 155 p5 181 [.str "book" 391,.str "evening" 392]++(dF "beacons_in" 29 75 2 396 162 p5 181++(dG "beacons_of" 30 81 1 402 167 p5 181 [.str "book" 405,.str "found" 406,.str "rule" 407]++(dG "is_void" 31 86 2 411 174 p5 181 [.str "kind" 414,.str "rule" 415]++(dF "without" 32 88 2 419 181 p5 181))))))))))))))))))))))))
def Wp(P:Params):List Obj:=dF "either_left" 33 90 3 425 186 p5 181++(dG "sum_left" 34 94 3 431 191 p5 181 [.str "rule" 434,.str "beacon" 435,.str "lit" 436,.str "beacons" 437,.str "odd" 438]++(dG "if_left" 35 100 3 442 198 p5 181 [.str "rule" 445,.str "beacon" 446,.str "so" 447,.str "head" 448]++(dG "rule_left" 36 107 4 452 205 p5 181 [.str "kind" 455,.str "rule" 456,.str "beacon" 457,.str "lit" 458]++(dF "left_behind" 37 115 3 462 212 p5 181++(dG "is_place" 39 119 2 470 217 p6 181 [.str "book" 473,.str "place" 474]++(dF "body_is_known" 40 121 2 478 224 p6 181++(dG "is_step" 41 123 3 484 229 p6 181 [.str "book" 487,.str "known" 488,.str "place" 489,.str "rule" 490]++(dG "is_derivation" 42 128 3 494 236 p6 181 [.str "book" 497,.str "facts" 498,.str "places" 499,.str "known" 500,.str "place" 501]++(dF "derived" 43 135 3 505 243 p6 181++(dF "is_broken" 45 139 1 513 248 p7 181++(dG "lead_there_and_back" 46 141 3 519 253 p7 181 [.str "book" 522,.str "road" 523,.str "other" 524]++(dG "clash_good" 47 145 3 528 260 p7 181 [.str "road" 531,.str "other" 532,.str "book" 533]++(dG "cross_good" 48 147 3 537 267 p7 181 [.str "road" 540,.str "book" 541,.str "storms" 542]++(dG "late_good" 49 151 5 546 274 p7 181 [.str "road" 549,.str "other" 550,.str "book" 551,.str "keepers" 552,.str "storms" 553]++(dF "odd_good" 50 155 3 557 281 p7 181++(dF "first_ones" 51 162 4 563 286 p7 181++(dG "is_first_part" 52 167 4 569 291 p7 181 [.str "beacon" 572,.str "places" 573,.str "book" 574,.str "storms" 575]++(dG "is_last_part" 53 171 4 579 298 p7 181 [.str "beacon" 582,.str "places" 583,.str "book" 584,.str "facts" 585,.str "rule" 586,.str "known" 587]++(dG "lone_good" 54 177 4 591 305 p7 181 [.str "paper" 594,.str "book" 595,.str "keepers" 596,.str "storms" 597,.str "beacon" 598,.str "facts" 599]++(dG "either_paper_good" 55 183 4 603 312 p7 181 [.str "paper" 606,.str "book" 607,.str "keepers" 608,.str "storms" 609]++(dG "storm_good" 56 191 4 613 319 p7 181 [.str "paper" 616,.str "book" 617,.str "hands" 618,.str "start" 619,.str "keepers" 620,.str "storms" 621]++(dF "row_of" 58 206 2 627 326 p8 181++(dF "is_odd_count" 59 208 2 633 331 p8 181++(dG "plan_said" 60 210 2 639 336 p8 181 [.str "rows" 642,.str "evening" 643,.str "row" 644]))))))))))))))))))))))))
def Wq(P:Params):List Obj:=dG "sums_said" 61 215 2 648 343 p8 181 [.str "rows" 651,.str "evening" 652,.str "row" 653]++(dF "rows_said" 62 218 4 657 350 p8 181++(dG "cross_said" 63 224 2 663 355 p8 181 [.str "road" 666,.str "evening" 667,.str "beacon" 668]++(dG "late_said" 64 231 2 672 362 p8 181 [.str "road" 675,.str "evening" 676,.str "is_so" 677]++(dG "odd_said" 65 236 2 681 369 p8 181 [.str "whole" 684,.str "evening" 685,.str "beacons" 686]++(dF "lone_said" 66 241 4 690 376 p8 181++(dG "said" 67 245 5 696 381 p8 181 [.str "paper" 699,.str "book" 700,.str "hands" 701,.str "start" 702,.str "evening" 703,.str "word" 704,.str "so" 705,.str "ahead" 706]++([tu [],oP,(oD #[en P "__module__" 719 (.str "duskbook.settlers" 710),en P "__qualname__" 721 (.str "Settler" 720),en P "__firstlineno__" 723 (.int (265) 722),Za P "__init__" 731 401,Za P "says" 739 408,Za P "sees" 748 415,Za P "__static_attributes__" 750 416] 7),tu [],⟨.none,none,(.fields #[iz 267,iz 4,rf 400,iz 270,iz 4,rf 407,iz 273,iz 4,rf 414]),#[]⟩,oK "Settler" 714 265 391 181 717,oX 393 390 "duskbook.settlers" 710,tu [],fl,tu [.str "self" 727,.str "hand" 728],tu [],⟨.none,none,(fn "__init__" "Settler.__init__" (bU 69 0) .none .none .none .none none .none .none 0 0),#[]⟩,(oQ "__init__" "Settler.__init__" 724 267 2 395 (rf 397) (rf 398) 399 181 729),oM "__init__" "Settler.__init__" 69 0 p9 400,tu [],fl,tu [.str "self" 735,.str "watch" 736],tu [],⟨.none,none,(fn "says" "Settler.says" (bU 69 1) .none .none .none .none none .none .none 0 0),#[]⟩,(oQ "says" "Settler.says" 732 270 2 402 (rf 404) (rf 405) 406 181 737),oM "says" "Settler.says" 69 1 p9 407,tu [],fl,tu [.str "self" 743,.str "hand" 744,.str "lit" 745],tu [],⟨.none,none,(fn "sees" "Settler.sees" (bU 69 2) .none .none .none .none none .none .none 0 0),#[]⟩,(oQ "sees" "Settler.sees" 740 273 3 409 (rf 411) (rf 412) 413 181 746),oM "sees" "Settler.sees" 69 2 p9 414,tu [.str "hand" 749],(oD #[en P "__module__" 719 (.str "duskbook.settlers" 710),en P "__firstlineno__" 723 (.int (265) 722),Za P "__init__" 731 401,Za P "says" 739 408,Za P "sees" 748 415,Za P "__static_attributes__" 750 416,Za P "__dict__" 752 419,Za P "__weakref__" 754 420,en P "__doc__" 755 .none] 4),⟨.type "type",none,(.cls ⟨"Settler",[.type "object"],[rf 418,.type "object"],417,"Settler",true,[],[rf 453,rf 480],false,none,false⟩),#[none,none,(some (.str "Settler" 712)),(some (.str "Settler" 720)),(some (.builtin "object.__new__")),(some (.bool true))]⟩,⟨.type "getset_descriptor",none,(.fields #[.str "__dict__" 751,rf 418,.builtin "function.__dict__",.builtin "function.__dict__#set"]),#[]⟩,⟨.type "getset_descriptor",none,(.fields #[.str "__weakref__" 753,rf 418,.builtin "ExceptionGroup.__weakref__",.none]),#[]⟩,oS 418,oI 418,tu [rf 418],oP,(oD #[en P "__module__" 765 (.str "duskbook.settlers" 710),en P "__qualname__" 767 (.str "Rowed" 766),en P "__firstlineno__" 769 (.int (275) 768),Za P "__init__" 778 436,Za P "says" 786 443,Za P "sees" 795 450,Za P "__static_attributes__" 798 451] 7),tu [],⟨.none,none,(.fields #[iz 277,iz 4,rf 435,iz 282,iz 4,rf 442,iz 285,iz 4,rf 449]),#[]⟩]++([oK "Rowed" 760 275 426 181 763,oX 428 425 "duskbook.settlers" 710,tu [],fl,tu [.str "self" 773,.str "hand" 774,.str "row" 775],tu [],⟨.none,none,(fn "__init__" "Rowed.__init__" (bU 70 0) .none .none .none .none none .none .none 0 0),#[]⟩,(oQ "__init__" "Rowed.__init__" 770 277 3 430 (rf 432) (rf 433) 434 181 776),oM "__init__" "Rowed.__init__" 70 0 p9 435,tu [],fl,tu [.str "self" 782,.str "watch" 783],tu [],⟨.none,none,(fn "says" "Rowed.says" (bU 70 1) .none .none .none .none none .none .none 0 0),#[]⟩,(oQ "says" "Rowed.says" 779 282 2 437 (rf 439) (rf 440) 441 181 784),oM "says" "Rowed.says" 70 1 p9 442,tu [],fl,tu [.str "self" 790,.str "hand" 791,.str "lit" 792],tu [],⟨.none,none,(fn "sees" "Rowed.sees" (bU 70 2) .none .none .none .none none .none .none 0 0),#[]⟩,(oQ "sees" "Rowed.sees" 787 285 3 444 (rf 446) (rf 447) 448 181 793),oM "sees" "Rowed.sees" 70 2 p9 449,tu [.str "row" 796,.str "seen" 797],(oD #[en P "__module__" 765 (.str "duskbook.settlers" 710),en P "__firstlineno__" 769 (.int (275) 768),Za P "__init__" 778 436,Za P "says" 786 443,Za P "sees" 795 450,Za P "__static_attributes__" 798 451,en P "__doc__" 799 .none] 2),⟨.type "type",none,(.cls ⟨"Rowed",[rf 418],[rf 453,rf 418,.type "object"],452,"Rowed",true,[],[],false,none,false⟩),#[(some (rf 423)),none,(some (.str "Rowed" 758)),(some (.str "Rowed" 766)),(some (.builtin "object.__new__")),(some (.bool true))]⟩,oS 453,oI 453,tu [rf 418],oP,(oD #[en P "__module__" 809 (.str "duskbook.settlers" 710),en P "__qualname__" 811 (.str "Papered" 810),en P "__firstlineno__" 813 (.int (288) 812),Za P "__init__" 826 470,Za P "says" 834 477,Za P "__static_attributes__" 839 478] 6),tu [],⟨.none,none,(.fields #[iz 290,iz 4,rf 469,iz 297,iz 4,rf 476]),#[]⟩,oK "Papered" 804 288 459 181 807,oX 461 458 "duskbook.settlers" 710,tu [(.int (0) 814)],tu [],fl,tu [.str "self" 818,.str "hand" 819,.str "paper" 820,.str "book" 821,.str "hands" 822,.str "start" 823],tu []]++([⟨.none,none,(fn "__init__" "Papered.__init__" (bU 71 0) .none .none .none .none none .none .none 0 0),#[]⟩,(oQ "__init__" "Papered.__init__" 815 290 6 464 (rf 466) (rf 467) 468 181 824),⟨.type "function",none,(fn "__init__" "Papered.__init__" (bU 71 0) (rf 463) .none .none (.str "duskbook.settlers" 710) none (rf 469) .none 3 0),#[]⟩,tu [],fl,tu [.str "self" 830,.str "watch" 831],tu [],⟨.none,none,(fn "says" "Papered.says" (bU 71 1) .none .none .none .none none .none .none 0 0),#[]⟩,(oQ "says" "Papered.says" 827 297 2 471 (rf 473) (rf 474) 475 181 832),oM "says" "Papered.says" 71 1 p9 476,tu [.str "book" 835,.str "hands" 836,.str "paper" 837,.str "start" 838],(oD #[en P "__module__" 809 (.str "duskbook.settlers" 710),en P "__firstlineno__" 813 (.int (288) 812),Za P "__init__" 826 470,Za P "says" 834 477,Za P "__static_attributes__" 839 478,en P "__doc__" 840 .none] 2),⟨.type "type",none,(.cls ⟨"Papered",[rf 418],[rf 480,rf 418,.type "object"],479,"Papered",true,[],[],false,none,false⟩),#[(some (rf 456)),none,(some (.str "Papered" 802)),(some (.str "Papered" 810)),(some (.builtin "object.__new__")),(some (.bool true))]⟩,oS 480,oI 480]++(dG "play_out" 72 299 3 843 483 p9 181 [.str "watch" 846,.str "keeper" 847,.str "storm" 848,.str "hand" 849,.str "mover" 850,.str "lit" 851]++(dF "rows_by_beacon" 74 309 1 857 490 eF 181++(dG "is_plan_row" 75 311 2 863 495 eF 181 [.str "row" 866,.str "storms" 867]++(dG "come_to" 76 313 2 871 502 eF 181 [.str "saying" 874,.str "plan" 875,.str "row" 876]++(dF "either_is_kept" 77 318 2 880 509 eF 181++(dF "plan_good" 78 321 4 886 514 eF 181++(dF "is_sum_row" 79 326 2 892 519 eF 181++(dG "replaced" 80 328 2 898 524 eF 181 [.str "rule" 901,.str "sums" 902,.str "whole" 903,.str "beacon" 904,.str "row" 905]++(dF "sums_good" 81 334 4 909 531 eF 181++(dF "are_some_of" 82 339 2 915 536 eF 181++(dF "ahead_of" 83 341 2 921 541 eF 181++(dG "is_row" 84 343 3 927 546 eF 181 [.str "row" 930,.str "first" 931,.str "keepers" 932]++(dF "holds_where_lit" 85 345 3 936 553 eF 181++(dF "rows_good" 86 347 6 942 558 eF 181++(dG "keeper_good" 87 354 4 948 563 eF 181 [.str "paper" 951,.str "book" 952,.str "hands" 953,.str "start" 954,.str "keepers" 955,.str "storms" 956]))))))))))))))))))))))))
def Wr(P:Params):List Obj:=dG "good" 89 367 5 962 570 Lc 181 [.str "paper" 965,.str "book" 966,.str "hands" 967,.str "start" 968,.str "hand" 969]++(dG "is_hand" 91 372 1 975 577 dH 181 [.str "thing" 978]++(dF "check_hands" 92 374 2 982 584 dH 181++([tu [],oP,(oD #[en P "__module__" 995 (.str "duskbook.watches" 973),en P "__qualname__" 997 (.str "Watch" 996),en P "__firstlineno__" 999 (.int (381) 998),Za P "__init__" 1008 602,Za P "turn" 1015 609,Za P "evening" 1022 616,Za P "left" 1032 623,Za P "winner" 1039 630,Za P "settle" 1047 637,Za P "back" 1054 644,Za P "__static_attributes__" 1058 645] 11),tu [],⟨.none,none,(.fields #[iz 383,iz 4,rf 601,iz 389,iz 4,rf 608,iz 394,iz 4,rf 615,iz 397,iz 4,rf 622,iz 403,iz 4,rf 629,iz 408,iz 4,rf 636,iz 416,iz 4,rf 643]),#[]⟩,oK "Watch" 990 381 592 181 993,oX 594 591 "duskbook.watches" 973,tu [],fl,tu [.str "self" 1003,.str "book" 1004,.str "hands" 1005],tu [],⟨.none,none,(fn "__init__" "Watch.__init__" (bU 93 0) .none .none .none .none none .none .none 0 0),#[]⟩,(oQ "__init__" "Watch.__init__" 1000 383 3 596 (rf 598) (rf 599) 600 181 1006),oM "__init__" "Watch.__init__" 93 0 dH 601,tu [],fl,tu [.str "self" 1012],tu [],⟨.none,none,(fn "turn" "Watch.turn" (bU 93 1) .none .none .none .none none .none .none 0 0),#[]⟩,(oQ "turn" "Watch.turn" 1009 389 1 603 (rf 605) (rf 606) 607 181 1013),oM "turn" "Watch.turn" 93 1 dH 608,tu [],fl,tu [.str "self" 1019],tu [],⟨.none,none,(fn "evening" "Watch.evening" (bU 93 2) .none .none .none .none none .none .none 0 0),#[]⟩,(oQ "evening" "Watch.evening" 1016 394 1 610 (rf 612) (rf 613) 614 181 1020),oM "evening" "Watch.evening" 93 2 dH 615,tu [],fl,tu [.str "self" 1026,.str "book" 1027,.str "beacon" 1028,.str "lit" 1029],tu [],⟨.none,none,(fn "left" "Watch.left" (bU 93 3) .none .none .none .none none .none .none 0 0),#[]⟩,(oQ "left" "Watch.left" 1023 397 1 617 (rf 619) (rf 620) 621 181 1030),oM "left" "Watch.left" 93 3 dH 622,tu [],fl,tu [.str "self" 1036],tu [],⟨.none,none,(fn "winner" "Watch.winner" (bU 93 4) .none .none .none .none none .none .none 0 0),#[]⟩]++([(oQ "winner" "Watch.winner" 1033 403 1 624 (rf 626) (rf 627) 628 181 1037),oM "winner" "Watch.winner" 93 4 dH 629,tu [],fl,tu [.str "self" 1043,.str "lit" 1044],tu [],⟨.none,none,(fn "settle" "Watch.settle" (bU 93 5) .none .none .none .none none .none .none 0 0),#[]⟩,(oQ "settle" "Watch.settle" 1040 408 2 631 (rf 633) (rf 634) 635 181 1045),oM "settle" "Watch.settle" 93 5 dH 636,tu [],fl,tu [.str "self" 1051],tu [],⟨.none,none,(fn "back" "Watch.back" (bU 93 6) .none .none .none .none none .none .none 0 0),#[]⟩,(oQ "back" "Watch.back" 1048 416 1 638 (rf 640) (rf 641) 642 181 1052),oM "back" "Watch.back" 93 6 dH 643,tu [.str "book" 1055,.str "hands" 1056,.str "truths" 1057],(oD #[en P "__module__" 995 (.str "duskbook.watches" 973),en P "__firstlineno__" 999 (.int (381) 998),Za P "__init__" 1008 602,Za P "turn" 1015 609,Za P "evening" 1022 616,Za P "left" 1032 623,Za P "winner" 1039 630,Za P "settle" 1047 637,Za P "back" 1054 644,Za P "__static_attributes__" 1058 645,Za P "__dict__" 1060 648,Za P "__weakref__" 1062 649,en P "__doc__" 1063 .none] 4),⟨.type "type",none,(.cls ⟨"Watch",[.type "object"],[rf 647,.type "object"],646,"Watch",true,[],[],false,none,false⟩),#[none,none,(some (.str "Watch" 988)),(some (.str "Watch" 996)),(some (.builtin "object.__new__")),(some (.bool true))]⟩,⟨.type "getset_descriptor",none,(.fields #[.str "__dict__" 1059,rf 647,.builtin "function.__dict__",.builtin "function.__dict__#set"]),#[]⟩,⟨.type "getset_descriptor",none,(.fields #[.str "__weakref__" 1061,rf 647,.builtin "ExceptionGroup.__weakref__",.none]),#[]⟩,oS 647,oI 647]++(dG "_law_cell" 95 419 2 1068 652 cA 181 [.str "script" 1071,.str "k" 1072]++(dG "_law_mixed" 96 423 2 1076 659 cA 181 [.str "cell" 1079,.str "by" 1080]++(dG "_law_bits" 97 425 2 1084 666 cA 181 [.str "cell" 1087,.str "many" 1088,.str "left" 1089,.str "bits" 1090,.str "k" 1091]++(dF "_law_so" 98 432 3 1095 673 cA 181++(dG "_law_rule" 99 441 3 1101 678 cA 181 [.str "kind" 1104,.str "cell" 1105,.str "many" 1106,.str "left" 1107,.str "size" 1108,.str "sayings" 1109,.str "k" 1110,.str "body" 1111]++(dF "_law_hands" 100 460 2 1115 685 cA 181++(dF "_law_own" 101 462 3 1121 690 cA 181++(dG "_law_numbers_of" 102 464 1 1127 695 cA 181 [.str "cells" 1130,.str "row" 1131,.str "cell" 1132,.str "number" 1133]++(dF "_law_moved" 103 472 3 1137 702 cA 181++(dF "_law_drawn" 104 479 4 1143 707 cA 181++(dG "_law_cross" 105 481 3 1149 712 cA 181 [.str "script" 1152,.str "hands" 1153,.str "start" 1154,.str "many" 1155,.str "storms" 1156,.str "ends" 1157,.str "road" 1158,.str "cell" 1159,.str "left" 1160,.str "last" 1161,.str "links" 1162,.str "k" 1163]++(dF "_law_odd" 106 497 3 1167 719 cA 181++(dF "_law_lone" 107 507 3 1173 724 cA 181++(dF "law" 108 526 1 1179 729 cA 181))))))))))))))))))
def al(P:Params):List Obj:=Wo P++Wp P++Wq P++Wr P
def upd(l:List (Nat×Obj))(xs:List Obj):List Obj:=l.foldl (λxs p=>xs.set p.1 p.2) xs
def ev:List Obj->List Obj
 | []=>[]
 | [x]=>[x]
 | x::_::r=>x::ev r
def bt:Nat->List Obj->BT
 | 0,_=>.nil
 | _+1,[]=>.nil
 | n+1,x::xs=>.node x (bt n (ev xs)) (bt n (ev xs.tail))
abbrev bd:List Stmt:=behindTheImports pg
abbrev sl(i n:Nat):List Stmt:=(bd.drop i).take n
abbrev env:Env:={scope:=pg.main.scope,locals:=mainNs,globals:=mainNs,cells:=[],code:=(rf 13),frame:=some 14}
abbrev cE:Code:=.body bd env
abbrev B:List Frame:=[topFrame ⟨0,0,0,0⟩]
abbrev ss(n:Nat)(l:Params->List (Nat×Obj))(t:Nat)(w:World)(os:OsState):SharedT:=⟨bt 12 (upd (l w.params) ((al w.params).take n)),n,{},.mk [],boot_drawn,t,os⟩
def h0(P:Params):Heap:=⟨⟨upd [(3,boot_o_3 P),(12,fl)] ((al P).take 15)⟩,{}⟩
abbrev s0(w:World)(os:OsState):Shared:=⟨h0 w.params,.mk [],boot_drawn,187,os⟩
abbrev s1:World->OsState->SharedT:=ss 15 (λP=>[(3,boot_o_3 P),(12,fl)]) 187
abbrev s2:World->OsState->SharedT:=ss 74 (λP=>[(3,ns P (en P "__name__" 165 (.str "duskbook.blends" 256)) 19 20),(12,ft 27)]) 277
abbrev s3:World->OsState->SharedT:=ss 92 (λP=>[(3,ns P (en P "__name__" 165 (.str "duskbook.errors" 283)) 21 22),(12,ft 33),(88,⟨.type "type",none,(.cls ⟨"DuskError",[.type "ValueError"],[rf 88,.type "ValueError",.type "Exception",.type "BaseException",.type "object"],87,"DuskError",true,[],[],false,none,false⟩),#[(some (rf 79)),none,(some (.str "DuskError" 285)),(some (.str "DuskError" 293)),(some (.builtin "ValueError.__new__")),(some (.bool true))]⟩)]) 303
abbrev s4:World->OsState->SharedT:=ss 104 (λP=>[(3,ns P (en P "__name__" 165 (.str "duskbook.errors" 283)) 22 23),(12,ft 36),(88,⟨.type "type",none,(.cls ⟨"DuskError",[.type "ValueError"],[rf 88,.type "ValueError",.type "Exception",.type "BaseException",.type "object"],87,"DuskError",true,[],[rf 101],false,none,false⟩),#[(some (rf 79)),none,(some (.str "DuskError" 285)),(some (.str "DuskError" 293)),(some (.builtin "ValueError.__new__")),(some (.bool true))]⟩)]) 319
abbrev s5:World->OsState->SharedT:=ss 116 (λP=>[(3,ns P (en P "__name__" 165 (.str "duskbook.errors" 283)) 23 24),(12,ft 39),(88,⟨.type "type",none,(.cls ⟨"DuskError",[.type "ValueError"],[rf 88,.type "ValueError",.type "Exception",.type "BaseException",.type "object"],87,"DuskError",true,[],[rf 101,rf 113],false,none,false⟩),#[(some (rf 79)),none,(some (.str "DuskError" 285)),(some (.str "DuskError" 293)),(some (.builtin "ValueError.__new__")),(some (.bool true))]⟩)]) 335
abbrev s6:World->OsState->SharedT:=ss 162 (λP=>[(3,ns P (en P "__name__" 165 (.str "duskbook.books" 351)) 31 32),(12,ft 60)]) 396
abbrev s7:World->OsState->SharedT:=ss 243 (λP=>[(3,ns P (en P "__name__" 165 (.str "duskbook.deriving" 468)) 44 45),(12,ft 99)]) 505
abbrev s8:World->OsState->SharedT:=ss 319 (λP=>[(3,ns P (en P "__name__" 165 (.str "duskbook.storming" 511)) 56 57),(12,ft 135)]) 613
abbrev s9:World->OsState->SharedT:=ss 388 (λP=>[(3,ns P (en P "__name__" 165 (.str "duskbook.settlers" 710)) 67 68),(12,ft 168)]) 712
abbrev Ld:World->OsState->SharedT:=ss 423 (λP=>[(3,ns P (en P "__name__" 165 (.str "duskbook.settlers" 710)) 68 69),(12,ft 171),(418,⟨.type "type",none,(.cls ⟨"Settler",[.type "object"],[rf 418,.type "object"],417,"Settler",true,[],[],false,none,false⟩),#[none,none,(some (.str "Settler" 712)),(some (.str "Settler" 720)),(some (.builtin "object.__new__")),(some (.bool true))]⟩)]) 758
abbrev Lf:World->OsState->SharedT:=ss 456 (λP=>[(3,ns P (en P "__name__" 165 (.str "duskbook.settlers" 710)) 69 70),(12,ft 174),(418,⟨.type "type",none,(.cls ⟨"Settler",[.type "object"],[rf 418,.type "object"],417,"Settler",true,[],[rf 453],false,none,false⟩),#[none,none,(some (.str "Settler" 712)),(some (.str "Settler" 720)),(some (.builtin "object.__new__")),(some (.bool true))]⟩)]) 802
abbrev Lg:World->OsState->SharedT:=ss 502 (λP=>[(3,ns P (en P "__name__" 165 (.str "duskbook.keeping" 855)) 73 74),(12,ft 186)]) 871
abbrev Lh:World->OsState->SharedT:=ss 577 (λP=>[(3,ns P (en P "__name__" 165 (.str "duskbook.watches" 973)) 86 87),(12,ft 225)]) 975
abbrev Li:World->OsState->SharedT:=ss 589 (λP=>[(3,ns P (en P "__name__" 165 (.str "duskbook.watches" 973)) 88 89),(12,ft 231)]) 988
abbrev Lj:World->OsState->SharedT:=ss 652 (λP=>[(3,ns P (en P "__name__" 165 (.str "duskbook.watches" 973)) 89 90),(12,ft 234)]) 1066
abbrev Lk:World->OsState->SharedT:=ss 729 (λP=>[(3,ns P (en P "__name__" 165 (.str "law_duskbook_k43_whole_storms_papers_win" 1066)) 102 103),(12,ft 273)]) 1179
abbrev E9:World->OsState->SharedT:=ss 734 (λP=>[]) 1185
def nZ(P:Params):Heap:=⟨⟨upd [] ((al P).take 734)⟩,{}⟩
abbrev kz(w:World)(os:OsState):Shared:=⟨nZ w.params,.mk [],boot_drawn,1185,os⟩
abbrev sz(w:World)(os:OsState):Shared:=⟨boot_heap w.params,.mk [],boot_drawn,boot_toks,os⟩
def e0:∀w:World,(λos=>topGo treeTable pg w 11 (some (rf 6)) 12 (sz w os) (topStub pg))=λos=>some (s0 w os,⟨denote treeTable cE,cE,⟨0,0,0,0⟩,B⟩):=by
 rw[W.Fast.te15667345088766844465,W.Fast.te14364793385576792824,W.Fast.te11892475500146522536];intro w;kernel_rfl
def e1:∀w:World,(λos=>segRun treeTable pg w 11 (some (rf 6)) 1 1 (s0 w os) (blockOf bd env cE ⟨0,0,0,0⟩ B))=λos=>some (.next,(s1 w os).abs,cE,⟨0,0,0,0⟩):=by
 rw[W.Fast.te14374325043358763698,W.Fast.te14364793385576792824];intro w;kernel_rfl
abbrev EK(m:Nat)(s u:World->OsState->SharedT)(i n:Nat)(p q:Pos):Prop:=∀w:World,(λos=>segRunT treeTable pg w 11 (some (rf 6)) 1 m (s w os) (piecesOf (sl i n) env cE p B))=λos=>some (.next,u w os,cE,q)
local macro_rules | `(tactic| and_intros)=>`(tactic| (unfold EK;rw[W.Fast.te10110043849684766642,W.Fast.te14364793385576792824];intro w;kernel_rfl))
def e2:EK 377 s1 s2 0 15 ⟨0,0,0,0⟩ ⟨36,0,41,15⟩:=by
 unfold EK;rw[W.Fast.te10110043849684766642,W.Fast.te14364793385576792824];refine byRow2 "special-get-raises" ?_ ?_<;>(intro w;kernel_rfl)
def e3:EK 222 s2 s3 15 3 ⟨36,0,41,15⟩ ⟨46,0,47,8⟩:=by
 and_intros
def e4:EK 214 s3 s4 18 1 ⟨46,0,47,8⟩ ⟨48,0,49,8⟩:=by
 and_intros
def e5:EK 214 s4 s5 19 1 ⟨48,0,49,8⟩ ⟨50,0,51,8⟩:=by
 and_intros
def e6:EK 397 s5 s6 20 9 ⟨50,0,51,8⟩ ⟨73,0,74,48⟩:=by
 and_intros
def e7:EK 393 s6 s7 29 14 ⟨73,0,74,48⟩ ⟨128,0,134,15⟩:=by
 and_intros
def e8:EK 372 s7 s8 43 13 ⟨128,0,134,15⟩ ⟨183,0,190,16⟩:=by
 and_intros
def e9:EK 348 s8 s9 56 13 ⟨183,0,190,16⟩ ⟨264,0,264,8⟩:=by
 and_intros
def Ws:EK 288 s9 Ld 69 1 ⟨264,0,264,8⟩ ⟨265,0,274,12⟩:=by
 and_intros
def Wt:EK 313 Ld Lf 70 1 ⟨265,0,274,12⟩ ⟨275,0,287,26⟩:=by
 and_intros
def Wu:EK 386 Lf Lg 71 5 ⟨275,0,287,26⟩ ⟨311,0,312,67⟩:=by
 and_intros
def Wv:EK 389 Lg Lh 76 15 ⟨311,0,312,67⟩ ⟨371,0,371,8⟩:=by
 and_intros
def Ww:EK 56 Lh Li 91 2 ⟨371,0,371,8⟩ ⟨374,0,380,69⟩:=by
 and_intros
def Wx:EK 416 Li Lj 93 1 ⟨374,0,380,69⟩ ⟨381,0,417,16⟩:=by
 and_intros
def Wy:EK 393 Lj Lk 94 14 ⟨381,0,417,16⟩ ⟨507,0,525,58⟩:=by
 and_intros
def Wz:EK 27 Lk E9 108 1 ⟨507,0,525,58⟩ ⟨526,0,550,81⟩:=by
 and_intros
def WA:∀w:World,(λos=>topRun treeTable pg w 11 (some (rf 6)) 2 (E9 w os).abs ⟨doneF .next,cE,⟨526,0,550,81⟩,B⟩)=λos=>some (kz w os):=by
 rw[W.Fast.te14082659384304107361,W.Fast.te14364793385576792824];intro w;kernel_rfl
abbrev R(w:World)(os:OsState)(m:Nat)(s:Shared)(t:List Stmt)(p:Pos):Prop:=topRun treeTable pg w 11 (some (rf 6)) m s (restOf t env cE p B)=some (kz w os)
def rk{m M i n:Nat}{s u:World->OsState->SharedT}{T:List Stmt}{p q:Pos}{w:World}{os:OsState}(h:EK m s u i n p q)(r:R w os M (u w os).abs T q):R w os (m+M) (s w os).abs (sl i n++T) p:=piece_app (segRun_of (congrFun (h w) os)) r
def rj{m:Nat}{s:Shared}{T:List Stmt}{p:Pos}{w:World}{os:OsState}(r:R w os m s T p)(h:T=bd):R w os m s bd p:=h ▸ r
def run(w:World)(os:OsState):topRun treeTable pg w 11 (some (rf 6)) (12+(1+(377+(222+(214+(214+(397+(393+(372+(348+(288+(313+(386+(389+(56+(416+(393+(27+2)))))))))))))))))) (sz w os) (topStub pg)=some (kz w os):=
 go_top (congrFun (e0 w) os) (piece_block (congrFun (e1 w) os) (rj (rk e2 (rk e3 (rk e4 (rk e5 (rk e6 (rk e7 (rk e8 (rk e9 (rk Ws (rk Wt (rk Wu (rk Wv (rk Ww (rk Wx (rk Wy (rk Wz (show R w os 2 (E9 w os).abs [] ⟨526,0,550,81⟩ from congrFun (WA w) os))))))))))))))))) (by kernel_rfl)))
def op:∀w:World,(fencedOpening treeTable pg w 9704).map (λs=>(s.heap,s.gens,s.drawn,s.toks))=some (boot_heap w.params,Array.mk [],boot_drawn,boot_toks):=
 boot_open (by kernel_rfl) (by decide) (λs=>by kernel_rfl)
def size:∀w:World,((boot_heap w.params).isNs mainGlobals&&(Array.mk []:Array GenState).size==0,(boot_heap w.params).objs.size,(boot_heap w.params).nsMap mainGlobals "__annotations__")=(true,11,(some (rf 6))):=by
 rw[W.Fast.te8920871248978507458];intro w;kernel_rfl
local macro_rules|`(-$x:num)=>`(nat_lit $x)
def K(P:Params):Frag:=(-2,boot_o_2 P)::(-3,ns P (en P "__name__" 165 (.str "law_duskbook_k43_whole_storms_papers_win" 1066)) 103 104)::(-27,oC "both_added" 196 5 2 22 (rf 24) (rf 25) 26 181 201)::(-28,oF "both_added" 2 p1 27)::(-34,oC "added" 204 7 2 29 (rf 31) (rf 32) 33 181 211)::(-35,oF "added" 3 p1 34)::(-36,tu [.str "keeper" 216,.str "storm" 217])::(-40,oC "beacons_with" 219 14 3 37 .none .none 39 181 222)::(-41,oF "beacons_with" 6 p2 40)::(-47,oC "is_rising" 225 16 1 42 (rf 44) (rf 45) 46 181 229)::(-48,oF "is_rising" 7 p2 47)::(-54,oC "contrary" 234 19 1 49 (rf 51) (rf 52) 53 181 238)::(-55,oF "contrary" 9 p3 54)::(-59,oC "led_to" 241 21 2 56 .none .none 58 181 244)::(-60,oF "led_to" 10 p3 59)::(-66,oC "is_road" 247 29 2 61 (rf 63) (rf 64) 65 181 253)::(-67,oF "is_road" 11 p3 66)::(-68,(oD #[en P "eithers" 258 (.str "eithers" 259),en P "sums" 260 (.str "sums" 261),en P "ifs" 262 (.str "nots" 263),en P "nots" 264 (.str "ifs" 265)] 4))::(-72,oC "exchanged_rule" 271 36 2 69 .none .none 71 181 274)::(-73,oF "exchanged_rule" 14 p4 72)::(-77,oC "exchanged" 277 42 1 74 .none .none 76 181 280)::(-78,oF "exchanged" 15 p4 77)::(-131,oC "either_holds" 355 56 2 128 .none .none 130 181 358)::(-132,oF "either_holds" 23 p5 131)::(-136,oC "sum_holds" 361 58 2 133 .none .none 135 181 364)::(-137,oF "sum_holds" 24 p5 136)::(-141,oC "if_holds" 367 61 3 138 .none .none 140 181 370)::(-142,oF "if_holds" 25 p5 141)::(-148,oC "rule_holds" 373 65 3 143 (rf 145) (rf 146) 147 181 379)::(-149,oF "rule_holds" 26 p5 148)::(-153,oC "broken_rules" 382 71 2 150 .none .none 152 181 385)::(-154,oF "broken_rules" 27 p5 153)::(-160,oC "holds" 388 73 2 155 (rf 157) (rf 158) 159 181 393)::(-161,oF "holds" 28 p5 160)::(-165,oC "beacons_in" 396 75 2 162 .none .none 164 181 399)::(-166,oF "beacons_in" 29 p5 165)::(-172,oC "beacons_of" 402 81 1 167 (rf 169) (rf 170) 171 181 408)::(-173,oF "beacons_of" 30 p5 172)::(-179,oC "is_void" 411 86 2 174 (rf 176) (rf 177) 178 181 416)::(-180,oF "is_void" 31 p5 179)::(-184,oC "without" 419 88 2 181 .none .none 183 181 422)::(-185,oF "without" 32 p5 184)::(-189,oC "either_left" 425 90 3 186 .none .none 188 181 428)::(-190,oF "either_left" 33 p5 189)::(-196,oC "sum_left" 431 94 3 191 (rf 193) (rf 194) 195 181 439)::(-197,oF "sum_left" 34 p5 196)::(-203,oC "if_left" 442 100 3 198 (rf 200) (rf 201) 202 181 449)::(-204,oF "if_left" 35 p5 203)::(-210,oC "rule_left" 452 107 4 205 (rf 207) (rf 208) 209 181 459)::(-211,oF "rule_left" 36 p5 210)::(-215,oC "left_behind" 462 115 3 212 .none .none 214 181 465)::(-216,oF "left_behind" 37 p5 215)::(-222,oC "is_place" 470 119 2 217 (rf 219) (rf 220) 221 181 475)::(-223,oF "is_place" 39 p6 222)::(-227,oC "body_is_known" 478 121 2 224 .none .none 226 181 481)::(-228,oF "body_is_known" 40 p6 227)::(-234,oC "is_step" 484 123 3 229 (rf 231) (rf 232) 233 181 491)::(-235,oF "is_step" 41 p6 234)::(-241,oC "is_derivation" 494 128 3 236 (rf 238) (rf 239) 240 181 502)::(-242,oF "is_derivation" 42 p6 241)::(-246,oC "derived" 505 135 3 243 .none .none 245 181 508)::(-247,oF "derived" 43 p6 246)::(-251,oC "is_broken" 513 139 1 248 .none .none 250 181 516)::(-252,oF "is_broken" 45 p7 251)::(-258,oC "lead_there_and_back" 519 141 3 253 (rf 255) (rf 256) 257 181 525)::(-259,oF "lead_there_and_back" 46 p7 258)::(-265,oC "clash_good" 528 145 3 260 (rf 262) (rf 263) 264 181 534)::(-266,oF "clash_good" 47 p7 265)::(-272,oC "cross_good" 537 147 3 267 (rf 269) (rf 270) 271 181 543)::(-273,oF "cross_good" 48 p7 272)::(-279,oC "late_good" 546 151 5 274 (rf 276) (rf 277) 278 181 554)::(-280,oF "late_good" 49 p7 279)::(-284,oC "odd_good" 557 155 3 281 .none .none 283 181 560)::(-285,oF "odd_good" 50 p7 284)::(-289,oC "first_ones" 563 162 4 286 .none .none 288 181 566)::(-290,oF "first_ones" 51 p7 289)::(-296,oC "is_first_part" 569 167 4 291 (rf 293) (rf 294) 295 181 576)::(-297,oF "is_first_part" 52 p7 296)::(-303,oC "is_last_part" 579 171 4 298 (rf 300) (rf 301) 302 181 588)::(-304,oF "is_last_part" 53 p7 303)::(-310,oC "lone_good" 591 177 4 305 (rf 307) (rf 308) 309 181 600)::(-311,oF "lone_good" 54 p7 310)::(-317,oC "either_paper_good" 603 183 4 312 (rf 314) (rf 315) 316 181 610)::(-318,oF "either_paper_good" 55 p7 317)::(-324,oC "storm_good" 613 191 4 319 (rf 321) (rf 322) 323 181 622)::(-325,oF "storm_good" 56 p7 324)::(-334,oC "is_odd_count" 633 208 2 331 .none .none 333 181 636)::(-335,oF "is_odd_count" 59 p8 334)::(-360,oC "cross_said" 663 224 2 355 (rf 357) (rf 358) 359 181 669)::(-361,oF "cross_said" 63 p8 360)::(-374,oC "odd_said" 681 236 2 369 (rf 371) (rf 372) 373 181 687)::(-375,oF "odd_said" 65 p8 374)::(-379,oC "lone_said" 690 241 4 376 .none .none 378 181 693)::(-380,oF "lone_said" 66 p8 379)::(-386,oC "said" 696 245 5 381 (rf 383) (rf 384) 385 181 707)::(-387,oF "said" 67 p8 386)::(-400,(oQ "__init__" "Settler.__init__" 724 267 2 395 (rf 397) (rf 398) 399 181 729))::(-401,oM "__init__" "Settler.__init__" 69 0 p9 400)::(-407,(oQ "says" "Settler.says" 732 270 2 402 (rf 404) (rf 405) 406 181 737))::(-408,oM "says" "Settler.says" 69 1 p9 407)::(-414,(oQ "sees" "Settler.sees" 740 273 3 409 (rf 411) (rf 412) 413 181 746))::(-415,oM "sees" "Settler.sees" 69 2 p9 414)::(-417,(oD #[en P "__module__" 719 (.str "duskbook.settlers" 710),en P "__firstlineno__" 723 (.int (265) 722),Za P "__init__" 731 401,Za P "says" 739 408,Za P "sees" 748 415,Za P "__static_attributes__" 750 416,Za P "__dict__" 752 419,Za P "__weakref__" 754 420,en P "__doc__" 755 .none] 4))::(-418,⟨.type "type",none,(.cls ⟨"Settler",[.type "object"],[rf 418,.type "object"],417,"Settler",true,[],[rf 453,rf 480],false,none,false⟩),#[none,none,(some (.str "Settler" 712)),(some (.str "Settler" 720)),(some (.builtin "object.__new__")),(some (.bool true))]⟩)::(-435,(oQ "__init__" "Rowed.__init__" 770 277 3 430 (rf 432) (rf 433) 434 181 776))::(-436,oM "__init__" "Rowed.__init__" 70 0 p9 435)::(-442,(oQ "says" "Rowed.says" 779 282 2 437 (rf 439) (rf 440) 441 181 784))::(-443,oM "says" "Rowed.says" 70 1 p9 442)::(-449,(oQ "sees" "Rowed.sees" 787 285 3 444 (rf 446) (rf 447) 448 181 793))::(-450,oM "sees" "Rowed.sees" 70 2 p9 449)::(-452,(oD #[en P "__module__" 765 (.str "duskbook.settlers" 710),en P "__firstlineno__" 769 (.int (275) 768),Za P "__init__" 778 436,Za P "says" 786 443,Za P "sees" 795 450,Za P "__static_attributes__" 798 451,en P "__doc__" 799 .none] 2))::(-453,⟨.type "type",none,(.cls ⟨"Rowed",[rf 418],[rf 453,rf 418,.type "object"],452,"Rowed",true,[],[],false,none,false⟩),#[(some (rf 423)),none,(some (.str "Rowed" 758)),(some (.str "Rowed" 766)),(some (.builtin "object.__new__")),(some (.bool true))]⟩)::(-463,tu [(.int (0) 814)])::(-469,(oQ "__init__" "Papered.__init__" 815 290 6 464 (rf 466) (rf 467) 468 181 824))::(-470,⟨.type "function",none,(fn "__init__" "Papered.__init__" (bU 71 0) (rf 463) .none .none (.str "duskbook.settlers" 710) none (rf 469) .none 3 0),#[]⟩)::(-476,(oQ "says" "Papered.says" 827 297 2 471 (rf 473) (rf 474) 475 181 832))::(-477,oM "says" "Papered.says" 71 1 p9 476)::(-479,(oD #[en P "__module__" 809 (.str "duskbook.settlers" 710),en P "__firstlineno__" 813 (.int (288) 812),Za P "__init__" 826 470,Za P "says" 834 477,Za P "__static_attributes__" 839 478,en P "__doc__" 840 .none] 2))::(-480,⟨.type "type",none,(.cls ⟨"Papered",[rf 418],[rf 480,rf 418,.type "object"],479,"Papered",true,[],[],false,none,false⟩),#[(some (rf 456)),none,(some (.str "Papered" 802)),(some (.str "Papered" 810)),(some (.builtin "object.__new__")),(some (.bool true))]⟩)::(-488,oC "play_out" 843 299 3 483 (rf 485) (rf 486) 487 181 852)::(-489,oF "play_out" 72 p9 488)::(-575,oC "good" 962 367 5 570 (rf 572) (rf 573) 574 181 970)::(-576,oF "good" 89 Lc 575)::(-582,oC "is_hand" 975 372 1 577 (rf 579) (rf 580) 581 181 979)::(-583,oF "is_hand" 91 dH 582)::(-587,oC "check_hands" 982 374 2 584 .none .none 586 181 985)::(-588,oF "check_hands" 92 dH 587)::(-601,(oQ "__init__" "Watch.__init__" 1000 383 3 596 (rf 598) (rf 599) 600 181 1006))::(-602,oM "__init__" "Watch.__init__" 93 0 dH 601)::(-608,(oQ "turn" "Watch.turn" 1009 389 1 603 (rf 605) (rf 606) 607 181 1013))::(-609,oM "turn" "Watch.turn" 93 1 dH 608)::(-615,(oQ "evening" "Watch.evening" 1016 394 1 610 (rf 612) (rf 613) 614 181 1020))::(-616,oM "evening" "Watch.evening" 93 2 dH 615)::(-622,(oQ "left" "Watch.left" 1023 397 1 617 (rf 619) (rf 620) 621 181 1030))::(-623,oM "left" "Watch.left" 93 3 dH 622)::(-629,(oQ "winner" "Watch.winner" 1033 403 1 624 (rf 626) (rf 627) 628 181 1037))::(-630,oM "winner" "Watch.winner" 93 4 dH 629)::(-636,(oQ "settle" "Watch.settle" 1040 408 2 631 (rf 633) (rf 634) 635 181 1045))::(-637,oM "settle" "Watch.settle" 93 5 dH 636)::(-643,(oQ "back" "Watch.back" 1048 416 1 638 (rf 640) (rf 641) 642 181 1052))::(-644,oM "back" "Watch.back" 93 6 dH 643)::(-646,(oD #[en P "__module__" 995 (.str "duskbook.watches" 973),en P "__firstlineno__" 999 (.int (381) 998),Za P "__init__" 1008 602,Za P "turn" 1015 609,Za P "evening" 1022 616,Za P "left" 1032 623,Za P "winner" 1039 630,Za P "settle" 1047 637,Za P "back" 1054 644,Za P "__static_attributes__" 1058 645,Za P "__dict__" 1060 648,Za P "__weakref__" 1062 649,en P "__doc__" 1063 .none] 4))::(-647,⟨.type "type",none,(.cls ⟨"Watch",[.type "object"],[rf 647,.type "object"],646,"Watch",true,[],[],false,none,false⟩),#[none,none,(some (.str "Watch" 988)),(some (.str "Watch" 996)),(some (.builtin "object.__new__")),(some (.bool true))]⟩)::(-657,oC "_law_cell" 1068 419 2 652 (rf 654) (rf 655) 656 181 1073)::(-658,oF "_law_cell" 95 cA 657)::(-664,oC "_law_mixed" 1076 423 2 659 (rf 661) (rf 662) 663 181 1081)::(-665,oF "_law_mixed" 96 cA 664)::(-671,oC "_law_bits" 1084 425 2 666 (rf 668) (rf 669) 670 181 1092)::(-672,oF "_law_bits" 97 cA 671)::(-676,oC "_law_so" 1095 432 3 673 .none .none 675 181 1098)::(-677,oF "_law_so" 98 cA 676)::(-683,oC "_law_rule" 1101 441 3 678 (rf 680) (rf 681) 682 181 1112)::(-684,oF "_law_rule" 99 cA 683)::(-688,oC "_law_hands" 1115 460 2 685 .none .none 687 181 1118)::(-689,oF "_law_hands" 100 cA 688)::(-693,oC "_law_own" 1121 462 3 690 .none .none 692 181 1124)::(-694,oF "_law_own" 101 cA 693)::(-700,oC "_law_numbers_of" 1127 464 1 695 (rf 697) (rf 698) 699 181 1134)::(-701,oF "_law_numbers_of" 102 cA 700)::(-705,oC "_law_moved" 1137 472 3 702 .none .none 704 181 1140)::(-706,oF "_law_moved" 103 cA 705)::(-710,oC "_law_drawn" 1143 479 4 707 .none .none 709 181 1146)::(-711,oF "_law_drawn" 104 cA 710)::(-717,oC "_law_cross" 1149 481 3 712 (rf 714) (rf 715) 716 181 1164)::(-718,oF "_law_cross" 105 cA 717)::(-722,oC "_law_odd" 1167 497 3 719 .none .none 721 181 1170)::(-723,oF "_law_odd" 106 cA 722)::(-727,oC "_law_lone" 1173 507 3 724 .none .none 726 181 1176)::(-728,oF "_law_lone" 107 cA 727)::(-732,oC "law" 1179 526 1 729 .none .none 731 181 1182)::(-733,oF "law" 108 cA 732)::[]
def hk:Hook:=kHook K (2::3::27::28::34::35::36::40::41::47::48::54::55::59::60::66::67::68::72::73::77::78::131::132::136::137::141::142::148::149::153::154::160::161::165::166::172::173::179::180::184::185::189::190::196::197::203::204::210::211::215::216::222::223::227::228::234::235::241::242::246::247::251::252::258::259::265::266::272::273::279::280::284::285::289::290::296::297::303::304::310::311::317::318::324::325::334::335::360::361::374::375::379::380::386::387::400::401::407::408::414::415::417::418::435::436::442::443::449::450::452::453::463::469::470::476::477::479::480::488::489::575::576::582::583::587::588::601::602::608::609::615::616::622::623::629::630::636::637::643::644::646::647::657::658::664::665::671::672::676::677::683::684::688::689::693::694::700::701::705::706::710::711::717::718::722::723::727::728::732::733::[]) (λ_=>by kernel_rfl)
def Q:P7:={pg with main:={pg.main with body:=[Lw.top 108]} }
def ls:AK:=(["_wall","both_added","added","HANDS","beacons_with","is_rising","contrary","led_to","is_road","EXCHANGED_KINDS","exchanged_rule","exchanged","DuskError","NoHands","Over","NoLight","BEACON_COUNT","either_holds","sum_holds","if_holds","rule_holds","broken_rules","holds","beacons_in","beacons_of","is_void","without","either_left","sum_left","if_left","rule_left","left_behind","is_place","body_is_known","is_step","is_derivation","derived","is_broken","lead_there_and_back","clash_good","cross_good","late_good","odd_good","first_ones","is_first_part","is_last_part","lone_good","either_paper_good","storm_good","row_of"]++["is_odd_count","plan_said","sums_said","rows_said","cross_said","late_said","odd_said","lone_said","said","Settler","Rowed","Papered","play_out","rows_by_beacon","is_plan_row","come_to","either_is_kept","plan_good","is_sum_row","replaced","sums_good","are_some_of","ahead_of","is_row","holds_where_lit","rows_good","keeper_good","good","is_hand","check_hands","Watch","_law_cell","_law_mixed","_law_bits","_law_so","_law_rule","_law_hands","_law_own","_law_numbers_of","_law_moved","_law_drawn","_law_cross","_law_odd","_law_lone"]).map Str.ofString
abbrev Xt(s:Shared):Bool:=xlAt Q [] s&&recOk (RowW.records (OpenRow.toRowW PySem.Challenge.rw_duskbook_k43_whole_storms_papers_win.row)) s
def E_:∀w:World,(λos=>((staticsOk (importedModules pg.main.body) (boot_heap w.params) (nZ w.params)&&namesBound pg (nZ w.params)&&gensDone (kz w os)&&laidKept (boot_heap w.params) (nZ w.params)),openSeen Q ls (importedModules pg.main.body) Xt true (kz w os),Hook.obs hk (kz w os)))=λ_=>(true,openGood Q ls,Hook.val hk w):=by
 intro w;kernel_rfl
def left:LeftO pg Q ls Xt (Hook.obs hk) (Hook.val hk) 9704:=LeftO.of_pieces (H₁:=nZ) op size run (by decide) E_
end Op
end
noncomputable def PySem.W.Fast.tw16254766650117491756:PySem.Program:=PySem.Challenge.pw_duskbook_k43_whole_storms_papers_win
theorem PySem.W.Fast.te16254766650117491756:PySem.Challenge.pw_duskbook_k43_whole_storms_papers_win=PySem.W.Fast.tw16254766650117491756:=rfl
open PySem PySem.W PyProof.Rows
local macro_rules|`(tactic|ac_rfl)=>`(tactic|first|k_is|kernel_rfl)
theorem PySem.Challenge.cw_duskbook_k43_whole_storms_papers_win_holds : PySem.Challenge.rw_duskbook_k43_whole_storms_papers_win.Holds := by
 w_on;o_law
 refine holds_open (q:=Op.Q) (loose:=Op.ls) (Xt:=Op.Xt) (XP:=XL Op.Q []) (Yf:=Hook.obs Op.hk) (Ya:=Hook.val Op.hk) (YP:=InK Op.K) (N:=9704) Op.left (Hook.of Op.hk) (Hook.keeps Op.hk) (λs e=>xl_of s (Bool.and_eq_true_iff.mp e).1) XL.keeps (by rfl) (by rfl) (by rfl) (λs e=>recFacts_of (Bool.and_eq_true_iff.mp e).2) (by rfl) (by assumption) (by decide +kernel) ⟨rfl,rfl,rfl,rfl,rfl,by decide +kernel⟩ ?hw ?hc
 (case hw=>w_witness2)
 k_fill
 refine Lw.walk Lw.law_true (l:=PySem.Challenge.rw_duskbook_k43_whole_storms_papers_win) rfl rfl (K:=Op.K) (λw h Y=>Y) ?F
 case F=>
  intro w mg fa h KX G hmg;refine' Lw.all_mk KX G hmg ..
  all_goals (try (first|(refine' M.mq_mk ?a ?pg ?hd ?po ?sa ?i ?n ?l ?cd ?k;(case a=>ac_rfl);(case pg=>ac_rfl);(case hd=>ac_rfl);(case po=>ac_rfl);(case sa=>ac_rfl);(case i=>ac_rfl);(case n=>ac_rfl);(case l=>ac_rfl);(case cd=>ac_rfl);(case k=>ac_rfl))|(refine' M.nq_mk ?a ?pg ?hd ?po ?sa ?n;(case a=>ac_rfl);(case pg=>ac_rfl);(case hd=>ac_rfl);(case po=>ac_rfl);(case sa=>ac_rfl);(case n=>ac_rfl))|(refine' M.iqc_mk ?a ?mk ?kc ?i ?n ?l ?cd ?k;(case a=>ac_rfl);(case mk=>ac_rfl);(case kc=>ac_rfl);(case i=>ac_rfl);(case n=>ac_rfl);(case l=>ac_rfl);(case cd=>ac_rfl);(case k=>ac_rfl))|(refine' M.iqz_mk ?a ?mk ?kc ?i ?n ?l ?cd ?d;(case a=>ac_rfl);(case mk=>ac_rfl);(case kc=>ac_rfl);(case i=>ac_rfl);(case n=>ac_rfl);(case l=>ac_rfl);(case cd=>ac_rfl);(case d=>ac_rfl))|(refine' M.kq_mk (mc:=.type "type") ?e ?i ?l ?cd ?k ?s ?r ?g ?h;(case e=>ac_rfl);(case i=>ac_rfl);(case l=>ac_rfl);(case cd=>ac_rfl);(case k=>ac_rfl);(case s=>ac_rfl);(case r=>ac_rfl);(case g=>ac_rfl);(case h=>ac_rfl))|(refine' M.isk_mk ?a ?a0 ?pg ?hd ?po ?sa ?e ?f ?g ?m ?k;(case a=>ac_rfl);(case a0=>ac_rfl);(case pg=>ac_rfl);(case hd=>ac_rfl);(case po=>ac_rfl);(case sa=>ac_rfl);(case e=>ac_rfl);(case f=>ac_rfl);(case g=>ac_rfl);(case m=>ac_rfl);(case k=>ac_rfl))|(refine' Lw.fk_mk ?a ?l ?c ?k;(case a=>k_is);(case l=>k_is);(case c=>k_is);(case k=>k_is))|k_is))
