import PyProof.Rows.All
import Wide.All
import OpenK.AllK
import Wide.FinOn
import Lean
import PyProof.EqAt
import PyProof.EqKinds
import PyProof.TupleCall
import PySem.Challenge.RW_duskbook_k33_whole_never_both
set_option Elab.async false
set_option linter.all false
set_option genSizeOf false
set_option compiler.extract_closed false
set_option maxRecDepth 100000
abbrev GT(l:List (PySem.Str×PySem.NameKind)):PySem.Scope:={ kind:=.function,names:=l,isGenerator:=false,isCoroutine:=false,more:=[] }
def qa{c d:Type _}{o:Option c}{f:c->Option d}{b:d}(h:o.bind f=some b):∃a,o=some a/\f a=some b:=Option.bind_eq_some_iff.mp h
def qc{c d:Type _}{o:Option c}{f:c->d}{b:d}(h:o.map f=some b):∃a,o=some a/\f a=b:=Option.map_eq_some_iff.mp h
def qd:=@Option.bind_some
def qe:=@PySem.Heap.get?_push_of_some
def qf:=@List.length_map
def qg:=@List.mem_cons_of_mem
def qh:=@List.mem_cons_self
def qi:=@Bool.false_ne_true
def qj:=@Array.length_toList
def qk:=@List.size_toArray
def ql:=@PySem.Heap.lt_size
def qm:=@Nat.ne_of_lt
def qo{b:Type _}{l:List b}{i:Nat}{a:b}(h:l[i]?=some a):∃h:i<l.length,l[i]=a:=List.getElem?_eq_some_iff.mp h
def qp:=@PySem.Heap.get?_push_size
def qr:=@List.getElem?_eq_getElem
def qt:=@List.length_cons
def qu{c:Type _}{a b:c}{l:List c}(h:a∈b::l):a=b\/a∈l:=List.mem_cons.mp h
def qv:=@Nat.le_refl
def qw{b:Type _}{a:b}{s t:List b}(h:a∈s++t):a∈s\/a∈t:=List.mem_append.mp h
def qx:=@Nat.lt_succ_of_lt
def qy{c d:Type _}{b:d}{f:c->d}{l:List c}(h:b∈l.map f):∃a,a∈l/\f a=b:=List.mem_map.mp h
def qz:=@List.length_append
def Qa:=@Nat.lt_succ_self
def Qb{m n:Nat}(h:m∈List.range n):m<n:=List.mem_range.mp h
def Qc{b:Type _}{p:b->Bool}{l:List b}{a:b}(h:a∈l.filter p):a∈l/\p a=true:=List.mem_filter.mp h
def Qd:=@List.map_cons
def Qe:=@Bool.and_eq_true
def Qf:=@List.map_map
def Qg:=@Nat.le_trans
def Qh:=@Nat.zero_le
def Qi:=@Nat.lt_of_lt_of_le
def Qj:=@List.nil_append
def Qk:=@List.map_append
def Ql:=@List.mem_filter
def Qm:=@List.getElem?_map
def Qn:=@List.length_filter_le
def Qo:=@Bool.false_eq_true
def Qp:=@List.getElem?_set_ne
def Qq:=@List.map_congr_left
def Qr:=@List.mem_append_right
def Qs:=@List.mem_map_of_mem
set_option maxHeartbeats 4000000
set_option hygiene false in
local macro_rules|`(tactic|and_intros)=>`(tactic|(intro _ _ _ _ _ _ us b;first|(obtain⟨_,rfl⟩:=jH b;rfl)|(obtain⟨_,_,rfl⟩:=jI b;rfl)|(obtain⟨_,_,_,rfl⟩:=jJ b;rfl)|(obtain⟨_,_,_,_,rfl⟩:=jK b;rfl)|(obtain⟨_,_,_,_,_,rfl⟩:=jL b;rfl)|(obtain⟨_,_,_,_,_,_,rfl⟩:=jM b;rfl)|(obtain⟨_,_,_,_,_,_,_,rfl⟩:=nK b;rfl)))
local macro_rules|`(tactic|ext)=>`(tactic|simp_all)
local macro_rules|`(tactic|grind)=>`(tactic|grind -abstractProof)
local macro_rules|`(tactic|lia)=>`(tactic|lia -abstractProof)
local macro_rules|`(tactic|symm)=>`(tactic|grind -lax)
local macro_rules|`(tactic|ac_nf)=>`(tactic|lia -lax)
local macro_rules|`(∅)=>`(by ac_nf)
local macro_rules|`(⋯)=>`(by symm)
local macro_rules|`(term|nofun)=>`(by simp)
local macro_rules|`(tactic|trivial)=>`(tactic|first|exact .inl rfl|exact .inr rfl|exact .inr (.inl rfl)|exact .inr (.inr rfl)|assumption)
local macro_rules|`(~~~$x)=>`(($x).heap.objs.size)|`(↑$x)=>`(some (.sh $x))
abbrev AC:=PySem.Value->PySem.Shared->Prop
abbrev AD:=List (PySem.Addr×PySem.Obj)
abbrev AE:=List PySem.Value
abbrev AF:=PySem.Str->Option PySem.Value
abbrev AG:=List Nat
abbrev AH:=List Int
abbrev AJ:=List Bool
abbrev AK:=Nat->Bool
abbrev AL:=List PySem.Str
abbrev AM:=List PySem.Expr
abbrev AN:=Option Nat
def wa:=@PySem.wpAny_bind
def wb:=@PySem.wpAny_pure
def wc:=@PySem.wpAny_holding
def wd:=@PySem.wpAny_call_entry
def we:=@PySem.wpAny_newObj_type
def wf:=@PySem.wpAny_setState_of
def wg:=@decide_eq_true_eq
def wh:=@decide_eq_true
def wj:=@decide_eq_false
def wm:=@of_decide_eq_true
def wn:=@Function.comp_def
def wo:=@PySem.Heap.SameBut.update
def wq:=@PySem.Heap.size_push
def wt:=@PySem.Heap.get?_update_self
def wu:=@PySem.codeAny_builtin
def wv:=@PySem.wpAny_mono
def wx:=@Option.some.inj
def wy:=@Int.toNat_natCast
def wz:=@List.append_nil
def w4:=@List.length_singleton
def w5:=@PySem.plainId_quiet
def ja:=@PySem.Around.under_plainId
def jb:=@PySem.PassesOwn.never
def jc:=@PySem.Obj.data_mapFields
def jd:=@PySem.wpAny_attempt
def je:=@PySem.sizeLine_eq
abbrev mZ:=@PySem.model
abbrev W7:=PySem.W.Frag
abbrev P7:=PySem.Program
noncomputable section
namespace L2
variable {X:Cx}{pins:AD}{pos apos cpos:Pos}{ys:AQ}{es:AM}
open PySem PySem.Spec PyProof.Rows
abbrev bT:=Sum Int Str
noncomputable def kz:bT->Value->Bool
 | .inl k,v=>Value.isInt k v
 | .inr x,v=>Value.isStrOf x v
noncomputable def vm(w:World):bT->Int
 | .inl k=>hashInt k
 | .inr x=>hashStr w x
theorem gN:∀{k:bT}{v:Value},kz k v=true->(∃i t,k=Sum.inl i/\v=Value.int i t)\/(∃x t,k=Sum.inr x/\v=Value.str x t)
 | .inl i,v,h=>by
   obtain⟨t,e⟩:=Value.isInt_shape h;exact .inl ⟨i,t,rfl,e⟩
 | .inr x,v,h=>by
   obtain⟨t,e⟩:=Value.isStrOf_shape h;exact .inr ⟨x,t,rfl,e⟩
def M7(i:Int)(t:Tok):kz (.inl i) (.int i t)=true:=by simp[kz,Value.isInt]
def M8(x:Str)(t:Tok):kz (.inr x) (.str x t)=true:=by simp[kz,Value.isStrOf]
theorem vn(a b:Int):decide ((Sum.inl a:bT)=Sum.inl b)=(a==b):=by ext<;>lia
theorem vo(a b:Str):decide ((Sum.inr a:bT)=Sum.inr b)=decide (a=b):=by ext
theorem vp(a:Int)(b:Str):decide ((Sum.inl a:bT)=Sum.inr b)=false:=by grind
theorem vq(a:Str)(b:Int):decide ((Sum.inr a:bT)=Sum.inl b)=false:=by grind
def c9(prog:P7)(w:World):KeyKind prog w bT where
 is:=kz
 hash:=vm w
 inj:=λv a b l m=>by
  rcases gN l with⟨i,t,rfl,rfl⟩|⟨x,t,rfl,rfl⟩
  .rcases gN m with⟨j,u,rfl,e⟩|⟨y,u,rfl,e⟩
   .grind
   grind
  .rcases gN m with⟨j,u,rfl,e⟩|⟨y,u,rfl,e⟩
   .grind
   grind
 byValue:=λk v h=>by
  rcases gN h with⟨i,t,rfl,rfl⟩|⟨x,t,rfl,rfl⟩<;>rfl
 pyHash:=λd h=>by
  rcases gN d with⟨i,t,rfl,rfl⟩|⟨x,t,rfl,rfl⟩
  .exact wpAny_pyHash_int h
  .exact wpAny_pyHash_str h
 eqBool:=λg d h=>by
  rcases gN g with⟨i,t,rfl,rfl⟩|⟨x,t,rfl,rfl⟩
  .rcases gN d with⟨j,u,rfl,rfl⟩|⟨y,u,rfl,rfl⟩
   .rw[vn]at h;exact wpAny_eqBool_int h
   .exact SeqAt.EqAt.int_str i t y u _ _ _ _ h
  .rcases gN d with⟨j,u,rfl,rfl⟩|⟨y,u,rfl,rfl⟩
   .exact SeqAt.EqAt.str_int x t j u _ _ _ _ h
   .rw[vo]at h;exact wpAny_eqBool_str h
 «strs»:=λk x t v h=>by
  rcases gN h with⟨i,u,rfl,e⟩|⟨y,u,rfl,e⟩
  .grind
  .injection e with n _
   subst n;cases v<;>rfl
def M9(prog:P7)(w:World)(i:Int)(t:Tok):(c9 prog w).is (.inl i) (.int i t)=true:=M7 i t
def M_(prog:P7)(w:World)(x:Str)(t:Tok):(c9 prog w).is (.inr x) (.str x t)=true:=M8 x t
inductive V where
 | non|bl (b:Bool)|int (i:Int)|str (x:Str)|byt (b:Array UInt8)|flt (b:UInt64)|ref (a:Addr)|ty (n:String)
 deriving DecidableEq
abbrev AQ:=List V
def RelV:V->Value->Prop
 | .non,u=>u=.none
 | .bl b,u=>u=.bool b
 | .int i,u=>∃t,u=.int i t
 | .str x,u=>∃t,u=.str x t
 | .byt b,u=>∃t,u=.bytes b t
 | .flt b,u=>∃t,u=.float b t
 | .ref a,u=>u=.ref a
 | .ty n,u=>u=.type n
abbrev Vals:AQ->AE->Prop:=Paired RelV
def Vals.length(r:Vals xs us):xs.length=us.length:=Paired.length r
theorem Vals.get:∀{xs:AQ}{us:AE}{i:Nat}{x:V},Vals xs us->xs[i]?=some x->∃u,us[i]?=some u/\RelV x u
 | _,_,_,_,.nil,e=>by simp at e
 | _,_,0,_,.cons r _,e=>by ext
 | _,_,i+1,x,.cons _ t,e=>by
   obtain⟨u,a,b⟩:=Vals.get t (by simpa using e)
   ext
theorem Vals.append:∀{xs ys:AQ}{us a:AE},Vals xs us->Vals ys a->Vals (xs++ys) (us++a)
 | _,_,_,_,.nil,s=>s
 | _,_,_,_,.cons r t,s=>.cons r (Vals.append t s)
theorem Vals.take:∀{xs:AQ}{us:AE} (n:Nat),Vals xs us->Vals (xs.take n) (us.take n)
 | _,_,0,_=>.nil
 | _,_,_+1,.nil=>.nil
 | _,_,n+1,.cons r t=>.cons r (Vals.take n t)
theorem Vals.drop:∀{xs:AQ}{us:AE} (n:Nat),Vals xs us->Vals (xs.drop n) (us.drop n)
 | _,_,0,r=>r
 | _,_,_+1,.nil=>.nil
 | _,_,n+1,.cons _ t=>.drop n t
def RelO:Option V->Option Value->Prop
 | some v,some u=>RelV v u
 | none,none=>True
 | _,_=>False
def KV{κ:Type}:List (κ×V)->List (κ×Value)->Prop:=Paired λp q=>p.1=q.1/\RelV p.2 q.2
noncomputable def kV:bT->V
 | .inl i=>.int i
 | .inr x=>.str x
inductive HO where
 | lst (xs:AQ)
 | tup (xs:AQ)
 | dK (kvs:List (bT×V))|dT (kvs:List (List bT×V))
 | set (S:Int->Bool) (n:Nat)
 | ins (C dx:Addr) (fs:List (Str×V))
 | own (x:Addr)
 | xd (fs:List (Str×V))
 | met (f x:Addr)
 | rng (lo hi:Int)
 | frz (o:Obj) (u:HO)
 | tbl (ps:Array Value)
 | ext (φ:Heap->Prop)
abbrev Hp:=Addr->Option HO
noncomputable def upd(H:Hp)(a:Addr)(o:HO):Hp:=λb=>if b=a then some o else H b
theorem Yh:upd H a o a=some o:=by unfold upd;grind
def Yj(h:b≠a):upd H a o b=H b:=by unfold upd;rw[if_neg h]
theorem Yi{H:Hp}(h:H a=some o)(c:H b=none):a≠b:=by grind
section
variable (P:P7)(w:World)
def ObjOk(H:Hp)(h:Heap)(a:Addr):HO->Prop
 | .lst xs=>xs.length<=sizeLine/\∃(its:AE) (n:Nat),Vals xs its/\h.get? a=some {cls:=.type "list",data:=.seq its.toArray n}
 | .tup xs=>xs.length<=sizeLine/\∃its:AE,Vals xs its/\IsTup h a its.toArray
 | .dK c=>c.length<=sizeLine/\(a==sysModules)=false/\∃vs,KV c vs/\h.DictOf (c9 P w) a vs
 | .dT c=>c.length<=sizeLine/\(a==sysModules)=false/\∃xs:List (List bT×Addr×Value),
  Paired (λp q=>p.1=q.1/\H q.2.1=some (.tup (p.1.map kV))/\RelV p.2 q.2.2) c xs/\
  ∃o k m,h.get? a=some o/\o.ExactDict/\o.data=.dict k m/\k.toList=xs.map (entryOfKey (tupleKind (c9 P w)))/\(xs.map (·.1)).Nodup
 | .set S n=>h.SetOf (intKind P w) a S n
 | .ins C g e=>H g=some (.own a)/\e.length<=1000/\g≠a/\h.get? a=some (W.instObj C g)/\
  ∃d,h.Ns1 g d/\(∀f,RelO (e.lookup f) (d f))/\PySem.Within d (e.map (·.1))
 | .own _=>∃o,h.get? a=some o
 | .xd e=>∃d,h.Ns1 a d/\∀f,RelO (e.lookup f) (d f)
 | .rng lo r=>∃t u v,h.get? a=some {cls:=.type "range",data:=.fields #[.int lo t,.int r u,.int 1 v]}
 | .frz o u=>h.get? a=some o/\ObjOk H h a u
 | .tbl ps=>h.get? a=some {cls:=.none,data:=.fields ps}
 | .met f x=>h.get? a=some (W.methodObj (.ref f) (.ref x))
 | .ext i=>i h/\(∃o,h.get? a=some o)/\∀j l,i j->(∀o,j.get? a=some o->l.get? a=some o)->i l
def HOk(H:Hp)(h:Heap):Prop:=∀a o,H a=some o->ObjOk P w H h a o
end
section
variable {P:P7}{w:World}{H H':Hp}{h h':Heap}{a:Addr}{o:HO}
def ObjOk.lt(x:ObjOk P w H h a o):a<h.objs.size:=by
 cases o with
 | lst k=>obtain⟨_,_,_,_,e⟩:=x;exact ql e
 | tup k=>obtain⟨_,_,_,p⟩:=x;exact p.lt
 | dK b=>obtain⟨_,_,_,_,o,_,_,e,_⟩:=x;exact ql e
 | dT b=>obtain⟨_,_,_,_,o,_,_,e,_⟩:=x;exact ql e
 | set S n=>obtain⟨o,_,_,_,e,_⟩:=x;exact ql e
 | ins C i c=>obtain⟨_,_,_,e,_⟩:=x;exact ql e
 | own y=>obtain⟨_,e⟩:=x;exact ql e
 | xd c=>obtain⟨_,⟨_,_,_,e,_⟩,_⟩:=x;exact ql e
 | rng lo g=>obtain⟨_,_,_,e⟩:=x;exact ql e
 | frz d u=>obtain⟨e,_⟩:=x;exact ql e
 | tbl l=>exact ql (x)
 | met f y=>exact ql (x)
 | ext j=>obtain⟨_,⟨_,e⟩,_⟩:=x;exact ql e
theorem Paired.mapP:∀{g:List d}{c:List e},Paired F g c->(∀a b,F a b->G a b)->Paired G g c
 | _,_,.nil,_=>.nil
 | _,_,.cons r t,f=>.cons (f _ _ r) (Paired.mapP t f)
theorem ObjOk.stay(x:ObjOk P w H h a o)(k:∀b u,(b=a\/H b=some (.own a))->h.get? b=some u->h'.get? b=some u)(G:∀b,H b=some (.own a)->H' b=some (.own a))(E:∀b xs,H b=some (.tup xs)->H' b=some (.tup xs)):ObjOk P w H' h' a o:=by
 induction o with
 | lst xs=>obtain⟨z,l,n,r,e⟩:=x;exact⟨z,l,n,r,k _ _ (.inl rfl) e⟩
 | tup xs=>obtain⟨z,l,r,g,e,c⟩:=x;exact⟨z,l,r,g,k _ _ (.inl rfl) e,c⟩
 | dK s=>obtain⟨z,y,L,r,g,i,j,e,c⟩:=x;exact⟨z,y,L,r,g,i,j,k _ _ (.inl rfl) e,c⟩
 | dT s=>
   obtain⟨z,y,xs,r,g,i,j,e,c⟩:=x;exact⟨z,y,xs,Paired.mapP r λp q z=>⟨z.1,E _ _ z.2.1,z.2.2⟩,g,i,j,k _ _ (.inl rfl) e,c⟩
 | set S n=>obtain⟨g,i,j,t,e,c⟩:=x;exact⟨g,i,j,t,k _ _ (.inl rfl) e,c⟩
 | ins C I D=>
   obtain⟨d,z,B,e,A,⟨m,i,j,M,c⟩,r⟩:=x;exact⟨G _ d,z,B,k _ _ (.inl rfl) e,A,⟨m,i,j,k _ _ (.inr d) M,c⟩,r⟩
 | own y=>obtain⟨g,e⟩:=x;exact⟨g,k _ _ (.inl rfl) e⟩
 | xd D=>obtain⟨A,⟨m,i,j,e,c⟩,r⟩:=x;exact⟨A,⟨m,i,j,k _ _ (.inl rfl) e,c⟩,r⟩
 | rng lo K=>obtain⟨t,u,v,e⟩:=x;exact⟨t,u,v,k _ _ (.inl rfl) e⟩
 | frz g u F=>obtain⟨e,q⟩:=x;exact⟨k _ _ (.inl rfl) e,F q⟩
 | tbl N=>
   have e:_=_:=x;show _=_
   ext
 | met f y=>
   have e:_=_:=x;show _=_
   ext
 | ext J=>obtain⟨p,⟨o,e⟩,st⟩:=x;exact⟨st _ _ p λo q=>k _ _ (.inl rfl) q,⟨o,k _ _ (.inl rfl) e⟩,st⟩
def HOk.lt(x:HOk P w H h)(e:H a=some o):a<h.objs.size:=(x a o e).lt
def HOk.fresh(x:HOk P w H h)(e:h.objs.size<=a):H a=none:=by
 cases q:H a with
 | none=>rfl
 | some u=>exact absurd (Qi (x.lt q) e) (Nat.lt_irrefl _)
def HOk.kept(x:HOk P w H h)(k:∀b u,h.get? b=some u->h'.get? b=some u):HOk P w H h':=λa o e=>
 (x a o e).stay (λb u _ q=>k b u q) (λ_ q=>q) λ_ _ q=>q
theorem HOk.laid(x:HOk P w H h)(k:∀b u,h.get? b=some u->h'.get? b=some u)(g:h.objs.size<=a)(f:ObjOk P w (upd H a o) h' a o):HOk P w (upd H a o) h':=λb u e=>by
 have d:=x.fresh g;by_cases i:b=a
 .subst i;rw[Yh]at e;grind
 .rw[Yj i]at e
  exact(x b u e).stay (λc v _ q=>k c v q) (λc q=>by rwa [Yj (Yi q d)]) λc j q=>by rwa [Yj (Yi q d)]
end
def Rd(H:Hp)(a:Addr)(u:HO):Prop:=H a=some u\/∃o,H a=some (.frz o u)
def Rd.ok(r:Rd H a u)(x:HOk P w H h):ObjOk P w H h a u:=by
 rcases r with r|⟨o,r⟩
 .exact x a u r
 .obtain⟨_,q⟩:=x a _ r
  exact q
def lG:Option HO->Prop
 | some (.lst _)=>True
 | some (.dK _)=>True
 | some (.dT _)=>True
 | some (.set _ _)=>True
 | some (.ins _ _ _)=>True
 | some (.ext _)=>True
 | _=>False
section
variable {P:P7}{w:World}{H:Hp}{h h':Heap}{x e:Addr}{o':HO}
theorem HOk.write(l:HOk P w H h)(d:lG (H x))(o:e=x\/H e=some (.own x))(k:∀b u,b≠e->h.get? b=some u->h'.get? b=some u)(f:∃u,h'.get? e=some u)(i:ObjOk P w (upd H x o') h' x o'):HOk P w (upd H x o') h':=λb u q=>by
 have a:∀c y,H c=some (.own y)->c≠x:=λc y r z=>by subst z;rwa [r]at d
 by_cases p:b=x
 .subst p;rw[Yh]at q;grind
 .rw[Yj p]at q
  by_cases j:b=e
  .have g:H b=some (.own x):=by
    grind
   rw[q]at g;cases g;obtain⟨v,m⟩:=f;exact⟨v,by grind⟩
  .refine(l b u q).stay (λc v n r=>k c v ?_ r) (λc r=>by rwa [Yj (a c b r)]) λc s r=>by rwa [Yj ((λc s r z=>by subst z;rwa [r]at d) c s r)]
   grind
end
structure Un(fs ex:List Addr)(H H':Hp)(h h':Heap):Prop where
 keep:∀b o,h.get? b=some o->H b=none->b∉fs->b∉ex->h'.get? b=some o
 slot:∀b o,h.get? b=some o->H b=none->b∈fs->b∉ex->∃sl,h'.get? b=some {o with slots:=sl}
 free:∀b o,h.get? b=some o->H b=none->b∉ex->H' b=none
 there:∀b o,h.get? b=some o->b∉ex->∃o',h'.get? b=some o'
 tups:∀b xs,H b=some (.tup xs)->H' b=some (.tup xs)
 frzs:∀b o u,H b=some (.frz o u)->H' b=some (.frz o u)
 tbls:∀b ps,H b=some (.tbl ps)->∃more,H' b=some (.tbl (ps++more))
section
variable {fs fs' ex ex':List Addr}{H H1 H2:Hp}{h h1 h2 h':Heap}{a x e:Addr}{o:HO}
def Un.any(u:Un fs ex H H1 h h1)(q:h.get? b=some c)(n:H b=none)(d:b∉ex):∃f,h1.get? b=some {c with slots:=f}:=by
 by_cases a:b∈fs
 .exact u.slot b c q n a d
 .exact⟨c.slots,u.keep b c q n a d⟩
def Un.kept(k:∀b u,h.get? b=some u->h'.get? b=some u):Un fs ex H H h h':=
 ⟨λb c q _ _ _=>k b c q,λb c q _ _ _=>⟨c.slots,k b c q⟩,λ_ _ _ n _=>n,λb c q _=>⟨c,k b c q⟩,λ_ _ q=>q,λ_ _ _ q=>q,λ_ a q=>⟨#[],by rw[q];simp⟩⟩
def Un.refl:Un fs ex H H h h:=.kept λ_ _ q=>q
theorem Un.laid(k:∀b u,h.get? b=some u->h'.get? b=some u)(d:h.objs.size<=a)(c:H a=none):Un fs ex H (upd H a o) h h' where
 keep:=λb u q _ _ _=>k b u q
 slot:=λb u q _ _ _=>⟨u.slots,k b u q⟩
 free:=λb u q n _=>by rwa [Yj (qm (Qi (ql q) d))]
 there:=λb u q _=>⟨u,k b u q⟩
 tups:=λb e q=>by rwa [Yj (Yi q c)]
 frzs:=λb u e q=>by rwa [Yj (Yi q c)]
 tbls:=λb f q=>⟨#[],by rw[Yj (Yi q c),q];simp⟩
theorem Un.write(d:lG (H x))(j:e=x\/H e=some (.own x))(k:∀b u,b≠e->h.get? b=some u->h'.get? b=some u)(g:∃u,h'.get? e=some u):Un fs ex H (upd H x o) h h':=by
 have f:∀b,H b=none->b≠x:=λb n z=>by subst z;rwa [n]at d
 have a:∀b,H b=none->b≠e:=λb n z=>by
  ext
 have c:∀b u,H b=some u->¬lG (some u)->b≠x:=λb u q i z=>by grind
 refine⟨λb u q n _ _=>k b u (a b n) q,λb u q n _ _=>⟨u.slots,k b u (a b n) q⟩,λb u q n _=>by rwa [Yj (f b n)],λb u q _=>?_,
  λb l q=>by rwa [Yj (c b _ q λz=>z)],λb u l q=>by rwa [Yj (c b _ q λz=>z)],λb m q=>⟨#[],by rw[Yj (c b _ q λz=>z),q];simp⟩⟩
 grind
end
noncomputable def Na(h:Heap)(H:Hp):List Addr:=(List.range h.objs.size).filter λa=>(H a).isSome
def d_(h:Heap)(H:Hp):Heap:=W.hideAll h (Na h H)
def Nb(h:Heap)(H:Hp):(d_ h H).objs.size=h.objs.size:=W.hideAll_size _ _
theorem Nc(e:h.get? b=some o)(n:H b=none):(d_ h H).get? b=some o:=
 W.hideAll_get _ e λc=>by
  have q:=(Qc c).2;grind
theorem vr(e:(d_ h H).get? b=some o):h.get? b=some o/\H b=none:=by
 have c:=W.of_hideAll _ e;refine⟨c,?_⟩
 cases q:H b with
 | none=>rfl
 | some x=>
   have z:(d_ h H).get? b=none:=W.hideAll_none _ (List.mem_filter.mpr ⟨List.mem_range.mpr (ql c),by simp[q]⟩);grind
structure Mod(K:W7)(mg:AF)(base:Heap):Prop where
 kin:K.In base
 glob:base.Ns mainGlobals mg
 blt:∃mb,base.Ns builtinsNs mb/\∀x:Str,x≠"__name__"->mb x=bootBuiltins x
 nolimit:base.NoLimit
structure Cx where
 prog:P7
 w:World
 K:W7
 mg:AF
 base:Heap
 A:Around
 N:AL
 s₀:Shared
 H₀:Hp
 env:Env
 outer:List Env
 stack:List Env
 ex:List Addr
 fn:Str->Bool
 calm:Bool
 pn:AD
 xe:AC
noncomputable def fv(l:List Env):List Addr:=l.filterMap (·.frame)
abbrev Cx.fs(X:Cx):List Addr:=fv X.outer
def ip(a:Scope)(x:Str):Prop:=a.names.lookup x=some .local\/a.names.lookup x=some .cell\/a.names.lookup x=some .free
def ec(a:Scope)(x:Str):Prop:=a.names.lookup x=some .local\/a.names.lookup x=some .cell
def vt(env:Env)(h:Heap)(m:AF)(x:Str)(u:Value):Prop:=
 env.kindOf x=some .local/\m x=some u\/((env.kindOf x=some .cell\/env.kindOf x=some .free)/\∃c,env.cells.lookup x=some c/\h.IsCell c (some u))
structure Cx.Ok(X:Cx):Prop where
 mod:Mod X.K X.mg X.base
 kind:X.env.scope.kind=.function
 glob:X.env.globals=mainGlobals
 blt:X.env.builtins=builtinsNs
 above:X.s₀.heap.objs.size<=X.env.locals
 inj:∀x y c,X.env.cells.lookup x=some c->X.env.cells.lookup y=some c->x=y
 has:∀x,(X.env.kindOf x=some .cell\/X.env.kindOf x=some .free)->∃c,X.env.cells.lookup x=some c
 cab:∀x c,X.fn x=true->X.env.cells.lookup x=some c->X.s₀.heap.objs.size<=c
 hd:X.calm=true->X.A.handled=none
 frames:X.A.frames=some X.stack
 stk:X.stack=X.outer\/(X.stack=X.env::X.outer/\X.env.frame=some X.env.locals)
 exf:∀b∈X.ex,b≠X.env.locals/\∀x c,X.env.cells.lookup x=some c->c≠b
 bs:∀b o,X.base.get? b=some o->X.s₀.heap.get? b=some o/\X.H₀ b=none
 bsz:X.base.objs.size<=X.s₀.heap.objs.size
 noex:∀b o,X.base.get? b=some o->b∉X.ex
 exfs:∀b∈X.ex,b∉X.fs
 funs:X.s₀.heap.FunFrames X.base X.outer
 frf:∀b∈X.fs,X.H₀ b=none
structure Inv(X:Cx)(pins:AD)(σ:List (Option V))(H:Hp)(s:Shared):Prop where
 ok:X.Ok
 os:s.os=X.s₀.os
 bare:AllBare s.gens
 base:Un X.fs X.ex X.H₀ H X.s₀.heap s.heap
 loc:∃m,s.heap.Ns X.env.locals m/\∀(i:Nat) (x:Str) (v:V),X.N[i]?=some x->σ[i]?=some (some v)->ip X.env.scope x->∃u,RelV v u/\vt X.env s.heap m x u
 cell:∀x c,X.env.cells.lookup x=some c->∃v,s.heap.IsCell c v
 free:H X.env.locals=none
 freeC:∀x c,X.env.cells.lookup x=some c->H c=none
 pin:∀p∈X.pn++pins,s.heap.get? p.1=some p.2/\H p.1=none/\p.1≠X.env.locals/\p.1∉X.fs/\∀v,p.2.data≠.cell v
 hok:HOk X.prog X.w H s.heap
 len:σ.length=X.N.length
section
variable {σ:List (Option V)}{H H':Hp}{s:Shared}{h':Heap}
theorem Cx.Ok.nofr(c:X.Ok)(e:X.base.get? b=some o):b∉X.fs:=λa=>by
 have:=(c.funs.mem a).1;grind
def Inv.bs(I:Inv X pins σ H s):∀b o,X.base.get? b=some o->s.heap.get? b=some o/\H b=none:=λb o e=>
 ⟨I.base.keep b o (I.ok.bs b o e).1 (I.ok.bs b o e).2 (I.ok.nofr e) (I.ok.noex b o e),I.base.free b o (I.ok.bs b o e).1 (I.ok.bs b o e).2 (I.ok.noex b o e)⟩
def Inv.bk(I:Inv X pins σ H s):∀b o,X.base.get? b=some o->s.heap.get? b=some o:=λb o e=>(I.bs b o e).1
def Inv.mod(I:Inv X pins σ H s):Mod X.K X.mg X.base:=I.ok.mod
def Inv.kIn(I:Inv X pins σ H s):X.K.In s.heap:=I.ok.mod.kin.keeps I.bk
def Inv.lt(I:Inv X pins σ H s):X.env.locals< ~~~s:=let ⟨_,a,_⟩:=I.loc;a.lt
def Inv.sz(I:Inv X pins σ H s):X.s₀.heap.objs.size<= ~~~s:=Qg I.ok.above (Nat.le_of_lt I.lt)
def Inv.nofs(I:Inv X pins σ H s){a:Addr}(h:(~~~s)<=a):a∉X.fs:=λc=>by
 obtain⟨_,o,b,_⟩:=I.ok.funs.mem c;exact absurd (Qi (ql b) (Qg I.sz h)) (Nat.lt_irrefl _)
theorem Inv.cne(I:Inv X pins σ H s):∀x c,X.env.cells.lookup x=some c->c≠X.env.locals:=λx c e z=>by
 obtain⟨v,o,d,i⟩:=I.cell x c e;obtain⟨m,⟨g,f,h,b,a,_⟩,_⟩:=I.loc;grind
theorem Inv.funs(I:Inv X pins σ H s):s.heap.FunFrames X.base X.outer:=by
 have c:∀(l:_),(∀b∈fv l,b∈X.fs)->X.s₀.heap.FunFrames X.base l->s.heap.FunFrames X.base l:=by
  intro l
  induction l with
  | nil=>intro _ _;trivial
  | cons t r k=>
    intro q m;obtain⟨j,⟨L,o,d,i,f,h⟩,g⟩:=m;have a:=q L (by unfold fv;ext);obtain⟨n,e⟩:=I.base.slot L o f (I.ok.frf L a) a λz=>I.ok.exfs L z a;exact⟨j,⟨L,_,d,i,e,h⟩,k (λb p=>q b (by unfold fv;rw[List.filterMap_cons,d];exact qg _ p)) g⟩
 exact c _ (λ_ p=>p) I.ok.funs
def Inv.stack(I:Inv X pins σ H s):s.heap.FunFrames X.base X.stack:=by
 rcases I.ok.stk with e|⟨e,b⟩
 .rw[e];exact I.funs
 .rw[e]
  obtain⟨m,a,_⟩:=I.loc;exact .cons (by rw[I.ok.kind];decide) b a (Heap.get?_none_of_le (Qg I.ok.bsz I.ok.above)) I.funs
theorem Inv.stkSub(I:Inv X pins σ H s):∀b∈fv X.stack,b∈X.env.locals::X.fs:=λb c=>by
 rcases I.ok.stk with e|⟨e,a⟩
 .grind
 .rw[e]at c
  unfold fv at c
  rwa [List.filterMap_cons,a]at c
def Inv.stkFree(I:Inv X pins σ H s):∀b∈fv X.stack,H b=none:=λb c=>by
 rcases qu (I.stkSub b c)with e|c
 .rw[e];exact I.free
 .obtain⟨_,o,a,_⟩:=I.ok.funs.mem c
  exact I.base.free b o a (I.ok.frf b c) λz=>I.ok.exfs b z c
theorem Inv.step{ch:List Addr}(I:Inv X pins σ H s)(hch:∀b∈ch,(b∈X.ex\/X.s₀.heap.objs.size<=b)/\b≠X.env.locals/\(∀x c,X.env.cells.lookup x=some c->c≠b)/\∀p∈X.pn++pins,p.1≠b)(keep:∀b o,b≠X.env.locals->b∉X.fs->b∉ch->s.heap.get? b=some o->H b=none->h'.get? b=some o)(slot:∀b o,b≠X.env.locals->b∈X.fs->b∉ch->s.heap.get? b=some o->H b=none->∃sl,h'.get? b=some {o with slots:=sl})(free:∀b o,b∉ch->s.heap.get? b=some o->H b=none->H' b=none)(there:∀b o,b∉ch->s.heap.get? b=some o->∃o',h'.get? b=some o')(tups:∀b xs,H b=some (.tup xs)->H' b=some (.tup xs))(frzs:∀b o u,H b=some (.frz o u)->H' b=some (.frz o u))(tbls:∀b ps,H b=some (.tbl ps)->∃more,H' b=some (.tbl (ps++more)))(ns:∀m,s.heap.Ns X.env.locals m->h'.Ns X.env.locals m)(hok:HOk X.prog X.w H' h')(hg:AllBare g'):
 Inv X pins σ H' {s with heap:=h',gens:=g',drawn:=d',toks:=t' }:=by
 have neL:∀b o,X.s₀.heap.get? b=some o->b≠X.env.locals:=λb o e=>qm (Qi (ql e) I.ok.above)
 have neC:∀b o,X.s₀.heap.get? b=some o->b∉X.ex->b∉ch:=λb o e hx hb=>by
  rcases(hch b hb).1 with z|z
  .exact hx z
  .exact absurd (Qi (ql e) z) (Nat.lt_irrefl _)
 have cellK:∀x c,X.env.cells.lookup x=some c->∀v,s.heap.IsCell c v->h'.IsCell c v:=λx c e v hx_=>by
  obtain⟨o,ho,hd⟩:=hx_;have nch:c∉ch:=λz=>(hch c z).2.2.1 x c e rfl;by_cases hc:c∈X.fs
  .obtain⟨sl,q⟩:=slot c o (I.cne x c e) hc nch ho (I.freeC x c e)
   exact⟨_,q,hd⟩
  .exact⟨o,keep c o (I.cne x c e) hc nch ho (I.freeC x c e),hd⟩
 refine⟨I.ok,I.os,hg,⟨λb o e n hb hx=>?_,λb o e n hb hx=>?_,λb o e n hx=>?_,λb o e hx=>?_,λb xs e=>tups b xs (I.base.tups b xs e),λb o xs e=>frzs b o xs (I.base.frzs b o xs e),λb ps e=>?_⟩,?_,λx c e=>?_,?_,λx c e=>?_,λp hp=>?_,hok,I.len⟩
 .exact keep b o (neL b o e) hb (neC b o e hx) (I.base.keep b o e n hb hx) (I.base.free b o e n hx)
 .obtain⟨sl,e1⟩:=I.base.slot b o e n hb hx
  obtain⟨sl',e2⟩:=slot b _ (neL b o e) hb (neC b o e hx) e1 (I.base.free b o e n hx);exact⟨sl',e2⟩
 .obtain⟨o',e1⟩:=I.base.there b o e hx
  exact free b o' (neC b o e hx) e1 (I.base.free b o e n hx)
 .obtain⟨o',e1⟩:=I.base.there b o e hx
  exact there b o' (neC b o e hx) e1
 .obtain⟨m1,e1⟩:=I.base.tbls b ps e
  obtain⟨m2,e2⟩:=tbls b _ e1;exact⟨m1++m2,by rw[e2,Array.append_assoc]⟩
 .obtain⟨m,hn,hl⟩:=I.loc
  refine⟨m,ns m hn,λi x v e1 e2 e3=>?_⟩;obtain⟨u,r,l⟩:=hl i x v e1 e2 e3;refine⟨u,r,?_⟩;rcases l with l|⟨k,c,e,z⟩
  .exact .inl l
  .exact .inr ⟨k,c,e,cellK x c e _ z⟩
 .obtain⟨v,z⟩:=I.cell x c e
  exact⟨v,cellK x c e v z⟩
 .obtain⟨m,⟨o,_,_,ho,_⟩,_⟩:=I.loc
  exact free _ o (λz=>(hch _ z).2.1 rfl) ho I.free
 .obtain⟨v,o,ho,hd⟩:=I.cell x c e
  exact free c o (λz=>(hch c z).2.2.1 x c e rfl) ho (I.freeC x c e)
 .obtain⟨e,n,ne,nf,d⟩:=I.pin p hp
  have nch:p.1∉ch:=λz=>(hch p.1 z).2.2.2 p hp rfl;exact⟨keep p.1 p.2 ne nf nch e n,free p.1 p.2 nch e n,ne,nf,d⟩
theorem Inv.un(I:Inv X pins σ H s)(u:Un X.fs [] H H' s.heap h')(f:HOk X.prog X.w H' h'):Inv X pins σ H' {s with heap:=h',toks:=t' }:=by
 obtain⟨m,⟨o,q,t,g,r⟩,_⟩:=id I.loc;obtain⟨p,j⟩:=u.any g I.free nofun
 exact I.step (ch:=[]) (λ_ z=>nomatch z) (λb o _ v _ e n=>u.keep b o e n v nofun) (λb o _ v _ e n=>u.slot b o e n v nofun) (λb o _ e n=>u.free b o e n nofun) (λb o _ e=>u.there b o e nofun) u.tups u.frzs u.tbls (λk h=>by
  obtain⟨l,c,d,a,i⟩:=h;rw[g]at a;cases a
  exact⟨_,c,d,j,i⟩) f I.bare
def Inv.call(I:Inv X pins σ H s)(u:Un (fv X.stack) ch H H' s.heap h')(i:HOk X.prog X.w H' h')(q:AllBare D)(d:∀b∈ch,(b∈X.ex\/X.s₀.heap.objs.size<=b)/\b≠X.env.locals/\(∀x c,X.env.cells.lookup x=some c->c≠b)/\∀p∈X.pn++pins,p.1≠b):
 Inv X pins σ H' {s with heap:=h',gens:=D,drawn:=E,toks:=t' }:=by
 obtain⟨m,⟨o,B,A,k,r⟩,_⟩:=id I.loc;obtain⟨v,j⟩:=u.any k I.free λz=>(d _ z).2.1 rfl
 exact I.step d (λb o j C a e n=>u.keep b o e n (λz=>(qu (I.stkSub b z)).elim j C) a) (λb o _ _ a e n=>u.any e n a) (λb o a e n=>u.free b o e n a) (λb o a e=>u.there b o e a) u.tups u.frzs u.tbls (λy l=>by
  obtain⟨w,g,h,f,t⟩:=l;rw[k]at f;cases f
  exact⟨_,g,h,j,t⟩) i q
theorem Inv.turned(I:Inv X pins σ H s)(k:∀b o,b≠a->s.heap.get? b=some o->h'.get? b=some o)(t:H a=none)(i:a≠X.env.locals)(w:a∈X.ex\/X.s₀.heap.objs.size<=a)(y:∀x c,X.env.cells.lookup x=some c->c≠a)(l:∀p∈X.pn++pins,p.1≠a):Inv X pins σ H {s with heap:=h',toks:=t' }:=by
 refine I.step (ch:=[a]) (λb A=>?_) (λb o _ _ d e _=>k b o (λz=>d (by simp[z])) e) (λb o _ _ d e _=>⟨o.slots,k b o (λz=>d (by simp[z])) e⟩) (λ_ _ _ _ n=>n)
  (λb o d e=>⟨o,k b o (λz=>d (by simp[z])) e⟩) (λ_ _ e=>e) (λ_ _ _ e=>e) (λb B e=>⟨#[],by rw[e];simp⟩) (λm f=>?_) (λb u e=>?_) I.bare
 .simp_all<;>ac_nf
 .obtain⟨o,g,h,j,r⟩:=f
  exact⟨o,g,h,k _ o (.symm i) j,r⟩
 .refine(I.hok b u e).stay (λc v d q=>k c v ?_ q) (λ_ q=>q) λ_ _ q=>q
  symm
def Inv.tok(I:Inv X pins σ H s)(t:Nat):Inv X pins σ H {s with toks:=t}:=I.un .refl I.hok
def Inv.kept(I:Inv X pins σ H s)(k:∀b u,s.heap.get? b=some u->h'.get? b=some u):Inv X pins σ H {s with heap:=h',toks:=t' }:=I.un (.kept k) (I.hok.kept k)
def Inv.laid{a:Addr}(I:Inv X pins σ H s)(k:∀b u,s.heap.get? b=some u->h'.get? b=some u)(c:(~~~s)<=a)(d:ObjOk X.prog X.w (upd H a o) h' a o):
 Inv X pins σ (upd H a o) {s with heap:=h',toks:=t' }:=I.un (.laid k c (I.hok.fresh c)) (I.hok.laid k c d)
def Inv.write(I:Inv X pins σ H s)(f:lG (H x))(d:e=x\/H e=some (.own x))(k:∀b u,b≠e->s.heap.get? b=some u->h'.get? b=some u)(a:∃u,h'.get? e=some u)(c:ObjOk X.prog X.w (upd H x o) h' x o):Inv X pins σ (upd H x o) {s with heap:=h',toks:=t' }:=I.un (.write f d k a) (I.hok.write f d k a c)
def Inv.pins_of(I:Inv X pins σ H s)(h:∀p∈a,s.heap.get? p.1=some p.2/\H p.1=none/\p.1≠X.env.locals/\p.1∉X.fs/\∀v,p.2.data≠.cell v):Inv X a σ H s:=
 ⟨I.ok,I.os,I.bare,I.base,I.loc,I.cell,I.free,I.freeC,λp b=>(qw b).elim (λz=>I.pin p (List.mem_append_left _ z)) (h p),I.hok,I.len⟩
def GU{N:AL}(c:N.Nodup){i j:Nat}(a:N[i]?=some x)(b:N[j]?=some x):i=j:=by
 obtain⟨e,f⟩:=qo a;obtain⟨d,g⟩:=qo b;exact(List.getElem_inj c).mp (f.trans g.symm)
theorem GV(I:Inv X pins σ H s)(hN:X.N.Nodup)(J:X.N[i]?=some x)(g:ec X.env.scope x)(r:RelV v u)(h:∀s',Inv X pins (σ.set i (some v)) H s'->(∃a,Heap.SameBut a s.heap s'.heap/\(a=X.env.locals\/X.env.cells.lookup x=some a))->Q () s')(hf:X.fn x=true\/X.env.scope.names.lookup x=some .local:=by trivial):wpAny M A (storeName X.env x u) Q E s:=by
 obtain⟨m,N,hl⟩:=id I.loc
 have F:(X.env.scope.kind==.class||(X.env.scope.kind==.module&&X.env.locals != X.env.globals))=false:=by rw[I.ok.kind];rfl
 have t:i<σ.length:=by rw[I.len];grind
 have B:=I.cne
 have f:∀{a:Addr}{h':Heap},(∃o,s.heap.get? a=some o/\H a=none)->Heap.SameBut a s.heap h'->HOk X.prog X.w H h':=λ{a h'} ha V b ob e=>by
  refine(I.hok b ob e).stay (λc R l q=>(V.2 c ?_).trans q) (λ_ q=>q) λ_ _ q=>q;grind
 rcases g with D|D
 .refine wpAny_storeName_local D N (λh' hn' V=>?_) F
  obtain⟨oL,_,_,Z,_⟩:=id N;refine h _ ⟨I.ok,I.os,I.bare,⟨λb o e n hb g=>?_,λb o e n hb g=>?_,I.base.free,λb o e g=>?_,I.base.tups,I.base.frzs,I.base.tbls⟩,⟨_,hn',λj y O e1 e2 U=>?_⟩,λy c e=>?_,I.free,I.freeC,λp L=>?_,f ⟨oL,Z,I.free⟩ V,by simpa using I.len⟩ ⟨_,V,.inl rfl⟩
  .exact(V.2 b (qm (Qi (ql e) I.ok.above))).trans (I.base.keep b o e n hb g)
  .obtain⟨T,e1⟩:=I.base.slot b o e n hb g
   exact⟨T,(V.2 b (qm (Qi (ql e) I.ok.above))).trans e1⟩
  .obtain⟨o',e1⟩:=I.base.there b o e g
   exact⟨o',(V.2 b (qm (Qi (ql e) I.ok.above))).trans e1⟩
  .by_cases w:j=i
   .subst w
    rw[J]at e1;cases e1;rw[List.getElem?_set_self t]at e2;cases e2;exact⟨u,r,.inl ⟨D,by simp⟩⟩
   .rw[Qp (Ne.symm w)]at e2
    obtain⟨W,S,q⟩:=hl j y O e1 e2 U;refine⟨W,S,?_⟩;rcases q with⟨k,e⟩|⟨k,c,e,z⟩
    .refine .inl ⟨k,?_⟩
     have:y≠x:=λe=>w (GU hN e1 (e ▸ J));grind
    .exact .inr ⟨k,c,e,z.sameBut V (B y c e)⟩
  .obtain⟨R,z⟩:=I.cell y c e
   exact⟨R,z.sameBut V (B y c e)⟩
  .obtain⟨e,n,K,nf,d⟩:=I.pin p L
   exact⟨(V.2 p.1 K).trans e,n,K,nf,d⟩
 .have C:X.fn x=true:=by
   grind
  obtain⟨c,l⟩:=I.ok.has x (.inl D);obtain⟨R,z⟩:=I.cell x c l;refine wpAny_storeName_cell I.ok.kind D l z (λh' P V=>?_);obtain⟨oc,hoc,hocd⟩:=id z;refine h {s with heap:=h' } ⟨I.ok,I.os,I.bare,⟨λb o e n hb g=>?_,λb o e n hb g=>?_,I.base.free,λb o e g=>?_,I.base.tups,I.base.frzs,I.base.tbls⟩,⟨m,N.sameBut V (Ne.symm (B x c l)),λj y O e1 e2 U=>?_⟩,λy G e=>?_,I.free,I.freeC,λp L=>?_,f ⟨oc,hoc,I.freeC x c l⟩ V,by simpa using I.len⟩ ⟨c,V,.inr l⟩
  .exact(V.2 b (qm (Qi (ql e) (I.ok.cab x c C l)))).trans (I.base.keep b o e n hb g)
  .obtain⟨T,e1⟩:=I.base.slot b o e n hb g
   exact⟨T,(V.2 b (qm (Qi (ql e) (I.ok.cab x c C l)))).trans e1⟩
  .obtain⟨o',e1⟩:=I.base.there b o e g
   exact⟨o',(V.2 b (qm (Qi (ql e) (I.ok.cab x c C l)))).trans e1⟩
  .by_cases w:j=i
   .subst w
    rw[J]at e1;cases e1;rw[List.getElem?_set_self t]at e2;cases e2;exact⟨u,r,.inr ⟨.inl D,c,l,P⟩⟩
   .rw[Qp (Ne.symm w)]at e2
    obtain⟨W,S,q⟩:=hl j y O e1 e2 U;refine⟨W,S,?_⟩;rcases q with q|⟨k,G,e,z'⟩
    .exact .inl q
    .refine .inr ⟨k,G,e,z'.sameBut V ?_⟩
     rintro rfl;exact w (GU hN e1 (I.ok.inj _ _ _ e l ▸ J))
  .by_cases Y:G=c
   .grind
   .obtain⟨w2,z2⟩:=I.cell y G e
    exact⟨w2,z2.sameBut V Y⟩
  .obtain⟨e,n,K,nf,d⟩:=I.pin p L
   refine⟨(V.2 p.1 ?_).trans e,n,K,nf,d⟩;grind
abbrev Zf(X:Cx)(x:Str):Prop:=X.fn x=true\/X.env.scope.names.lookup x=some .local
def GW(I:Inv X pins σ H s)(a:X.N.Nodup)(d:X.N[i]?=some x)(b:ec X.env.scope x)(r:RelV v u)(h:∀s',Inv X pins (σ.set i (some v)) H s'->Q () s')(e:Zf X x:=by trivial):wpAny M A (storeName X.env x u) Q E s:=
 GV I a d b r (λs' c _=>h s' c) e
def Inv.call'(I:Inv X pins σ H s)(f:s'.os=s.os)(u:Un (fv X.stack) ch H H' s.heap s'.heap)(d:HOk X.prog X.w H' s'.heap)(e:AllBare s'.gens)(a:∀b∈ch,(b∈X.ex\/X.s₀.heap.objs.size<=b)/\b≠X.env.locals/\(∀x c,X.env.cells.lookup x=some c->c≠b)/\∀p∈X.pn++pins,p.1≠b):Inv X pins σ H' s':=by
 obtain⟨k,h,j,i,g⟩:=s';subst f;exact I.call u d e a
end
abbrev XK:=Value->Option Addr->Hp->Prop
abbrev St:=List (Option V)
abbrev VK:=V->Hp->Prop
abbrev TE:=St->Hp->VK->Prop
abbrev TT:=St->Hp->(Bool->Hp->Prop)->Prop
abbrev TA:=St->Hp->(AQ->Hp->Prop)->Prop
structure eP where
 nx:St->Hp->Prop
 rt:VK
 bk:St->Hp->Prop:=λ_ _=>False
 ct:St->Hp->Prop:=λ_ _=>False
abbrev TS:=eP->St->Hp->Prop
def EP(X:Cx)(pins:AD)(σ:St)(Q:VK)(u:Value)(s':Shared):Prop:=∃v a,Inv X pins σ a s'/\RelV v u/\Q v a
def TP(X:Cx)(pins:AD)(σ:St)(Q:Bool->Hp->Prop)(b:Bool)(s':Shared):Prop:=∃a,Inv X pins σ a s'/\Q b a
def AP(X:Cx)(pins:AD)(σ:St)(Q:AQ->Hp->Prop)(us:AE)(s':Shared):Prop:=∃a b,Inv X pins σ b s'/\Vals a us/\Q a b
def SP(X:Cx)(pins:AD)(D:eP)(f:Flow)(s':Shared):Prop:=
 match f with
 | .next=>∃a b,Inv X pins a b s'/\D.nx a b
 | .brk=>∃a b,Inv X pins a b s'/\D.bk a b
 | .cont=>∃a b,Inv X pins a b s'/\D.ct a b
 | .ret u=>∃v a b,Inv X pins a b s'/\RelV v u/\D.rt v b
abbrev Zh(X:Cx){a:Type}:=@wpAny a (mZ X.prog X.w) X.A
def PE(X:Cx)(e:Expr)(t:TE):Prop:=
 ∀(a:List _) (s:Shared) (b:St) (H:Hp) (Q:VK),Inv X a b H s->t b H Q->Zh X (eval e X.env) (EP X a b Q) X.xe s
def PT(X:Cx)(e:Expr)(t:TT):Prop:=
 ∀(a:List _) (s:Shared) (b:St) (H:Hp) (Q:Bool->Hp->Prop),Inv X a b H s->t b H Q->Zh X (isTrue e X.env (eval e X.env)) (TP X a b Q) X.xe s
def PW(X:Cx)(e:Expr)(t:TT):Prop:=
 ∀(a:Sem _) (b:List _) (s:Shared) (c:St) (H:Hp) (Q:Bool->Hp->Prop),Inv X b c H s->t c H Q->Zh X (isTrue e X.env a) (TP X b c Q) X.xe s
def PW.pt(h:PW X e t):PT X e t:=h _
def PA(X:Cx)(b:AM)(t:TA):Prop:=
 ∀(a:Pos) (c:List _) (s:Shared) (d:St) (H:Hp) (Q:AQ->Hp->Prop),Inv X c d H s->t d H Q->Zh X (spliced (backTo a (starEach b X.env))) (AP X c d Q) X.xe s
def PS(X:Cx)(st:Stmt)(t:TS):Prop:=
 ∀(a:List _) (s:Shared) (b:St) (H:Hp) (D:eP),Inv X a b H s->t D b H->Zh X (exec st X.env) (SP X a D) X.xe s
def PSs(X:Cx)(st:List Stmt)(t:TS):Prop:=
 ∀(a:List _) (s:Shared) (b:St) (H:Hp) (D:eP),Inv X a b H s->t D b H->Zh X (execs st X.env) (SP X a D) X.xe s
def aS(h:wpAny M A t Q E s)(c:∀a s,Q a s->b a s):wpAny M A t b E s:=wv h c λ_ _ x=>x
section
def vu(i:Nat):TE:=λa H Q=>∃v,a[i]?=some (some v)/\Q v H
def tC(v:V):TE:=λ_ H Q=>Q v H
abbrev dq(x:Str):Prop:=(x==("__debug__":Str))=false
abbrev iV(x:Str):Prop:=(x==("__classdict__":Str))=false
def kA{j:Pos}(p:X.N[i]?=some x)(o:ip X.env.scope x)(f:dq x:=by decide)(g:iV x:=by decide):PE X (.Name x j) (vu i):=by
 intro w s y H Q I h;obtain⟨v,e,h⟩:=h;obtain⟨m,n,q⟩:=I.loc;obtain⟨u,r,l⟩:=q i x v p e o
 have b:EP X _ y Q u s:=⟨v,H,I,r,h⟩
 rcases l with⟨d,t⟩|⟨d,c,k,a⟩
 .exact wpAny_Name (wpAny_loadName_local I.ok.kind d n t b) f
 .rcases d with d|d
  .exact wpAny_Name (wpAny_loadName_cell I.ok.kind d k a b) f
  .exact wpAny_Name (wpAny_loadName_free I.ok.kind d k a b g) f
def vw{i j a}:PE X (.Constant (.int i) j a) (tC (.int i)):=λ_ _ _ H _ I h=>wpAny_Constant_int ⟨.int i,H,I.tok _,⟨_,rfl⟩,h⟩
def vy{b j a}:PE X (.Constant (.bool b) j a) (tC (.bl b)):=λ_ _ _ H _ I h=>Constant_bool ⟨.bl b,H,I,rfl,h⟩
def vz{j a}:PE X (.Constant .none j a) (tC .non):=λ_ _ _ H _ I h=>Constant_none ⟨.non,H,I,rfl,h⟩
def vA{x j b}:PE X (.Constant (.str x) j b) (tC (.str x)):=λ_ _ _ H _ I h=>Calls.Constant_str ⟨.str x,H,I.tok _,⟨_,rfl⟩,h⟩
def Gl(X:Cx)(x:Str):Prop:=X.env.kindOf x=some .globalImplicit
def GX{σ:St}(I:Inv X pins σ H s)(d:Gl X x)(e:X.mg x=some u)(h:Q u s)(c:dq x:=by decide):Zh X (eval (.Name x b) X.env) Q E s:=
 Calls.Name_function_global I.ok.kind d (Calls.loadGlobal_global (by rw[I.ok.glob];exact I.mod.glob.keeps I.bk) e h) c
theorem kB{E:AC}{σ:St}{b:Pos}(I:Inv X pins σ H s)(e:Gl X x)(g:X.mg x=none)(c:bootBuiltins x=some u)(h:Q u s)(j:x≠"__name__":=by decide)(f:dq x:=by decide):Zh X (eval (.Name x b) X.env) Q E s:=by
 obtain⟨k,i,d⟩:=I.mod.blt;exact Calls.Name_function_global I.ok.kind e (Calls.loadGlobal_builtin (by rw[I.ok.glob];exact I.mod.glob.keeps I.bk) g (by rw[I.ok.blt];exact i.keeps I.bk) ((d x j).trans c) h) f
def vB{a:Pos}(d:Gl X x)(e:X.mg x=none)(b:bootBuiltins x=some u)(r:RelV v u)(f:x≠"__name__":=by decide)(c:dq x:=by decide):PE X (.Name x a) (tC v):=
 λ_ _ _ H _ I h=>kB I d e b ⟨v,H,I,r,h⟩ f c
variable {a b:Expr}{ta tb:TE}
variable {tA tB':TT}{rest:AM}
def lH(t u:TT):TT:=λa H Q=>t a H λc d=>if c=true then u a d Q else Q false d
def GY(t u:TT):TT:=λa H Q=>t a H λc d=>if c=true then Q true d else u a d Q
def vC(t:TT):TT:=λa H Q=>t a H λc d=>Q (!c) d
def vD(d:PT X a tA):PW X (.BoolOp .And [a] pos) tA:=by
 intro g b s i H Q I h;refine isTrue_and (aS (d _ s i H Q I h) λc f e=>?_)
 cases c with
 | true=>exact isTrue_and_nil e
 | false=>exact e
def vE(d:PT X a tA):PW X (.BoolOp .Or [a] pos) tA:=by
 intro g b s i H Q I h;refine isTrue_or (aS (d _ s i H Q I h) λc f e=>?_)
 cases c with
 | false=>exact isTrue_or_nil e
 | true=>exact e
def vF(i:PT X a tA)(n:PW X (.BoolOp .And (b::rest) pos) tB'):PW X (.BoolOp .And (a::b::rest) pos) (lH tA tB'):=by
 intro k l s m H Q I h;refine isTrue_and (aS (i _ s m H _ I h) λc j d=>?_);obtain⟨g,f,e⟩:=d
 cases c with
 | true=>exact n k _ j m g Q f e
 | false=>exact⟨g,f,e⟩
def vG(i:PT X a tA)(n:PW X (.BoolOp .Or (b::rest) pos) tB'):PW X (.BoolOp .Or (a::b::rest) pos) (GY tA tB'):=by
 intro k l s m H Q I h;refine isTrue_or (aS (i _ s m H _ I h) λc j d=>?_);obtain⟨g,f,e⟩:=d
 cases c with
 | true=>exact⟨g,f,e⟩
 | false=>exact n k _ j m g Q f e
def vH(d:PT X a tA):PT X (.UnaryOp .Not a pos) (vC tA):=by
 intro b s c H Q I h;exact isTrue_not (d _ s c H _ I h)
def vI(ta tb:TE):TE:=λa H Q=>ta a H λx d=>∃c,x=.bl c/\if c=true then tb a d Q else Q (.bl false) d
def vJ(ta tb:TE):TE:=λσ H Q=>ta σ H λx d=>∃c,x=.bl c/\if c=true then Q (.bl true) d else tb σ d Q
def vK(ta:TE):TE:=λa H Q=>ta a H λx d=>∃c,x=.bl c/\Q (.bl (!c)) d
def lI{e}(h:PE X a t):PE X (.BoolOp e [a] pos) t:=λb s d H Q I c=>BoolOp_one (h _ s d H Q I c)
def vL(k:PE X a ta)(n:PE X (.BoolOp .And (b::rest) pos) tb):PE X (.BoolOp .And (a::b::rest) pos) (vI ta tb):=by
 intro l s m H Q I h;refine BoolOp_and (aS (k _ s m H _ I h) λv i e=>?_);obtain⟨x,f,g,j,d⟩:=e;obtain⟨c,rfl,d⟩:=d;cases j;refine wpAny_truthy_bool ?_
 cases c with
 | true=>exact n _ i m f Q g d
 | false=>exact⟨.bl _,f,g,rfl,d⟩
def vM(k:PE X a ta)(hb:PE X (.BoolOp .Or (b::rest) pos) tb):PE X (.BoolOp .Or (a::b::rest) pos) (vJ ta tb):=by
 intro pins s σ H Q I h;refine BoolOp_or (aS (k pins s σ H _ I h) λv i e=>?_);obtain⟨x,f,g,j,d⟩:=e;obtain⟨c,rfl,d⟩:=d;cases j;refine wpAny_truthy_bool ?_
 cases c with
 | false=>exact hb pins i σ f Q g d
 | true=>exact⟨.bl true,f,g,rfl,d⟩
def vN(j:PE X a ta):PE X (.UnaryOp .Not a pos) (vK ta):=by
 intro b s l H Q I h;refine UnaryOp_ (aS (j _ s l H _ I h) λv k d=>?_);obtain⟨x,i,g,f,e⟩:=d;obtain⟨c,rfl,e⟩:=e;cases f;exact not_of (wpAny_truthy_bool ⟨.bl _,i,g,rfl,e⟩)
def Nd(t:TT)(ta tb:TE):TE:=λa H Q=>t a H λc d=>if c=true then ta a d Q else tb a d Q
def Nf(l:PT X c tA)(k:PE X a ta)(o:PE X b tb):PE X (.IfExp c a b pos) (Nd tA ta tb):=by
 intro n s m H Q I h;refine wpAny_IfExp (aS (l _ s m H _ I h) λd j e=>?_);obtain⟨i,g,f⟩:=e
 cases d with
 | true=>exact k _ j m i Q g f
 | false=>exact o _ j m i Q g f
end
def SqL(K:W7)(H:Hp)(a:Addr)(xs:AQ):Prop:=
 Rd H a (.lst xs)\/
  ∃(o:Obj) (b:Array _) (n:Nat),K.lookup a=some o/\o.cls=.type "list"/\o.dict=none/\o.data=.seq b n/\b.size<=sizeLine/\Vals xs b.toList
def SqT(K:W7)(H:Hp)(a:Addr)(xs:AQ):Prop:=
 Rd H a (.tup xs)\/
  ∃(o:Obj) (b:Array _) (n:Nat),K.lookup a=some o/\o.cls=.type "tuple"/\o.data=.seq b n/\b.size<=sizeLine/\Vals xs b.toList
noncomputable def vO:Value->Option V
 | .none=>some .non
 | .bool b=>some (.bl b)
 | .int i _=>some (.int i)
 | .str x _=>some (.str x)
 | .bytes b _=>some (.byt b)
 | .float b _=>some (.flt b)
 | .ref a=>some (.ref a)
 | .type n=>some (.ty n)
 | _=>none
def RelV.abs(r:RelV x u):vO u=some x:=by
 cases x with
 | non=>cases r;rfl
 | bl _=>cases r;rfl
 | int _=>obtain⟨t,rfl⟩:=r;rfl
 | str _=>obtain⟨t,rfl⟩:=r;rfl
 | byt _=>obtain⟨t,rfl⟩:=r;rfl
 | flt _=>obtain⟨t,rfl⟩:=r;rfl
 | ref _=>cases r;rfl
 | ty _=>cases r;rfl
def RelV.inj(r:RelV x u)(q:RelV y u):x=y:=wx (r.abs.symm.trans q.abs)
theorem Vals.inj:∀{xs ys:AQ}{us:AE},Vals xs us->Vals ys us->xs=ys
 :=by
  intro xs ys us h
  induction h generalizing ys with
  | nil=>
    intro a;cases a;rfl
  | cons r t c=>
    intro a
    cases a with
    | cons b d=>rw[r.inj b,c d]
section
variable {σ:St}{H:Hp}{s:Shared}{a:Addr}{xs:AQ}
def SqL.of{K:W7}(h:H a=some (.lst xs)):SqL K H a xs:=.inl (.inl h)
def SqT.of{K:W7}(h:H a=some (.tup xs)):SqT K H a xs:=.inl (.inl h)
theorem Inv.list(I:Inv X pins σ H s)(h:SqL X.K H a xs):∃its:AE,Vals xs its/\PlainL s.heap a its.toArray/\xs.length<=sizeLine:=by
 rcases h with h|⟨o,its,n,c,d,b,g,f,r⟩
 .obtain⟨z,its,n,r,e⟩:=h.ok I.hok
  exact⟨its,r,⟨_,n,e,rfl,rfl,rfl⟩,z⟩
 .refine⟨its.toList,r,⟨o,n,I.kIn a o c,d,b,by simpa using g⟩,?_⟩
  have e:=r.length
  ext
theorem Inv.tuple(I:Inv X pins σ H s)(h:SqT X.K H a xs):∃its:AE,Vals xs its/\IsTup s.heap a its.toArray/\xs.length<=sizeLine:=by
 rcases h with h|⟨o,its,n,c,b,d,f,r⟩
 .obtain⟨z,its,r,p⟩:=h.ok I.hok
  exact⟨its,r,p,z⟩
 .refine⟨its.toList,r,⟨o,I.kIn a o c,b,n,by simpa using d⟩,?_⟩
  have e:=r.length
  ext
theorem Inv.list_inj(I:Inv X pins σ H s)(h:SqL X.K H a xs)(k:SqL X.K H a ys):xs=ys:=by
 obtain⟨j,r,⟨o,n,e,_,_,d⟩,_⟩:=I.list h;obtain⟨i,b,⟨c,f,g,_,_,l⟩,_⟩:=I.list k
 have:j=i:=by grind
 subst this;exact r.inj b
theorem Inv.tuple_inj(I:Inv X pins σ H s)(h:SqT X.K H a xs)(k:SqT X.K H a ys):xs=ys:=by
 obtain⟨j,r,⟨o,e,_,n,d⟩,_⟩:=I.tuple h;obtain⟨i,b,⟨c,g,_,f,l⟩,_⟩:=I.tuple k
 have:j=i:=by grind
 subst this;exact r.inj b
end
noncomputable abbrev Cx.wish(X:Cx)(E:AC):Cx:={X with xe:=E}
abbrev Cx.nox(X:Cx):Cx:=X.wish λ_ _=>False
def Cx.Ok.wish{X:Cx}(a:X.Ok)(E:AC):(X.wish E).Ok:=
 ⟨a.mod,a.kind,a.glob,a.blt,a.above,a.inj,a.has,a.cab,a.hd,a.frames,a.stk,a.exf,a.bs,a.bsz,a.noex,a.exfs,a.funs,a.frf⟩
def Cx.Ok.unwish{X:Cx}(a:(X.wish E).Ok):X.Ok:=
 ⟨a.mod,a.kind,a.glob,a.blt,a.above,a.inj,a.has,a.cab,a.hd,a.frames,a.stk,a.exf,a.bs,a.bsz,a.noex,a.exfs,a.funs,a.frf⟩
section
variable {σ:St}{H:Hp}{s:Shared}{E:AC}{st:Stmt}{rest:List Stmt}{t u:TS}{e:Expr}{te:TE}
def Inv.wish(I:Inv X pins σ H s)(E:AC):Inv (X.wish E) pins σ H s:=⟨I.ok.wish E,I.os,I.bare,I.base,I.loc,I.cell,I.free,I.freeC,I.pin,I.hok,I.len⟩
def Inv.unwish(I:Inv (X.wish E) pins σ H s):Inv X pins σ H s:=⟨I.ok.unwish,I.os,I.bare,I.base,I.loc,I.cell,I.free,I.freeC,I.pin,I.hok,I.len⟩
def SP.unwish(h:SP (X.wish E) pins D f s'):SP X pins D f s':=by
 cases f with
 | next=>obtain⟨a,b,I,q⟩:=h;exact⟨a,b,I.unwish,q⟩
 | brk=>obtain⟨a,b,I,q⟩:=h;exact⟨a,b,I.unwish,q⟩
 | cont=>obtain⟨a,b,I,q⟩:=h;exact⟨a,b,I.unwish,q⟩
 | ret u=>obtain⟨v,a,b,I,r,q⟩:=h;exact⟨v,a,b,I.unwish,r,q⟩
def PSs.nox{st:List Stmt}(h:PSs X.nox st t):PSs X st t:=λb s c H D I a=>
 wv (h _ s c H D (I.wish _) a) (λ_ _ q=>q.unwish) λ_ _ z=>False.elim z
def vP:TS:=λD a H=>D.nx a H
def vQ(t u:TS):TS:=λD a H=>t {D with nx:=u D} a H
def vR:PSs X [] vP:=λ_ _ a H _ I h=>wpAny_execs_nil ⟨a,H,I,h⟩
def Ng(a:PS X st t)(c:PSs X rest u):PSs X (st::rest) (vQ t u):=by
 intro g s i H D I h;refine wpAny_execs_cons (aS (a _ s i H _ I h) λf b q=>?_)
 cases f with
 | next=>
   obtain⟨e,j,d,q⟩:=q;exact c _ b e j D d q
 | ret v=>exact q
 | brk=>exact q
 | cont=>exact q
def vS(a:PS X st t):PSs X [st] t:=by
 intro c s d H D I h;refine wpAny_execs_cons (aS (a _ s d H D I h) λf b q=>?_)
 cases f with
 | next=>exact wpAny_execs_nil q
 | ret v=>exact q
 | brk=>exact q
 | cont=>exact q
def Inv.quiet(I:Inv X pins σ H s):interactive X.env=false:=by simp[interactive,I.ok.kind]
def vT(te:TE):TS:=λD b H=>te b H λ_ a=>D.nx b a
def GZ(f:PE X e te)(hs:swapsWith e none pos.line X.env=pure false:=by rfl):PS X (.Expr e pos) (vT te):=by
 intro j s k H D I h;refine wpAny_Expr_any (aS (f _ s k H _ I h) λv i a=>?_) I.quiet hs;obtain⟨x,d,c,g,b⟩:=a;exact⟨k,d,c,b⟩
def vU(te:TE):TS:=λD a H=>te a H D.rt
def vV(d:PE X e te):PS X (.Return (some e) pos) (vU te):=by
 intro j s k H D I h;refine wpAny_Return_some (aS (d _ s k H _ I h) λv i a=>?_);obtain⟨x,g,c,b,f⟩:=a;exact⟨x,k,g,c,b,f⟩
def vW(c:TT)(t u:TS):TS:=λD d H=>c d H λb a=>if b=true then t D d a else u D d a
def vX(m:PT X c n)(l:PSs X a t)(p:PSs X b u):PS X (.If c a b pos) (vW n t u):=by
 intro o s e H D I h;refine wpAny_If (aS (m _ s e H _ I h) λd g f=>?_);obtain⟨k,i,j⟩:=f
 cases d with
 | true=>exact l _ g e k D i j
 | false=>exact p _ g e k D i j
end
abbrev TG:=V->St->Hp->(St->Hp->Prop)->Prop
abbrev lJ:=AQ->St->Hp->(St->Hp->Prop)->Prop
def PG(X:Cx)(a:Expr)(t:TG):Prop:=
 ∀(b:List _) (s:Shared) (d:St) (H:Hp) (v:V) (u:Value) (Q:St->Hp->Prop),Inv X b d H s->RelV v u->t v d H Q->
  Zh X (assign a X.env u) (λ_ f=>∃c e,Inv X b c e f/\Q c e) X.xe s
def pQ(X:Cx)(a:AM)(t:lJ):Prop:=
 ∀(b:List _) (s:Shared) (g:St) (H:Hp) (f:AQ) (e:List _) (Q:St->Hp->Prop),Inv X b g H s->Vals f e->t f g H Q->
  Zh X (assignInOrder ((assignEach a X.env).map (·.2)) e) (λ_ h=>∃c d,Inv X b c d h/\Q c d) X.xe s
abbrev lK:=V->V->V->Hp->(Hp->Prop)->Prop
def iW(X:Cx)(t:lK):Prop:=
 ∀(a:List _) (s:Shared) (d:St) (H:Hp) (o i v:V) (b c u:Value) (Q:Hp->Prop),Inv X a d H s->RelV o b->RelV i c->RelV v u->t o i v H Q->
  Zh X (setItem b c u) (λ_ f=>∃e,Inv X a d e f/\Q e) X.xe s
def kC(i:Nat):TG:=λv a H Q=>Q (a.set i (some v)) H
def vY(a:X.N.Nodup)(d:X.N[i]?=some x)(b:ec X.env.scope x)(e:Zf X x:=by trivial):PG X (.Name x pos) (kC i):=by
 intro f s j H v u Q I r h;exact wpAny_assign_Name (GW I a d b r (λg c=>⟨_,H,c,h⟩) e)
def vZ:lJ:=λb a H Q=>b=[]/\Q a H
def v5(t:TG)(u:lJ):lJ:=λd b H Q=>∃v r,d=v::r/\t v b H λa c=>u r a c Q
def v7:pQ X [] vZ:=by
 intro a s b H d c Q I r h;obtain⟨e,h⟩:=h;exact assignInOrder_nil ⟨b,H,I,h⟩
def G6(k:PG X e t)(i:pQ X a u)(hs:(assignEach (e::a) X.env).map (·.2)=assign e X.env::(assignEach a X.env).map (·.2):=by rfl):pQ X (e::a) (v5 t u):=by
 intro n s o H w q Q I r h;obtain⟨v,m,p,h⟩:=h;subst p
 cases r with
 | cons r f=>
   rw[hs];refine assignInOrder_cons (aS (k _ s o H _ _ _ I r h) λ_ d b=>?_);obtain⟨c,j,g,l⟩:=b;exact i _ d c j _ _ Q g f l
def v8(K:W7)(n:Nat)(t:lJ):TG:=λv d H Q=>∃a c,v=.ref a/\SqT K H a c/\c.length=n/\t c d H Q
theorem v9{k:Nat}(l:X.calm=true)(h:pQ X f t)(m:(assignEach f X.env).length=n:=by rfl)(d:(assignEach f X.env).findIdx? (·.1)=none:=by rfl):PG X (.Tuple f k pos) (v8 X.K n t):=by
 intro x s B H v u Q I r c;obtain⟨a,z,y,p,q,c⟩:=c;subst y;cases r;obtain⟨A,i,j,w⟩:=I.tuple p;exact assign_Tuple_tuple (I.ok.hd l) j (by simp[m,<-q,i.length]) d λC g=>h _ _ B H z _ Q (I.kept λb o e=>g b o (qm (ql e)) e) (by grind) c
def v_(b f:TE)(t:lK):TG:=λv a H Q=>b a H λo d=>f a d λi c=>t o i v c λe=>Q a e
def lL(n:PE X o D)(k:PE X i f)(hs:iW X t)(B:∀v,assign (.Subscript o i pos) X.env v=(do
  let b <-holding [v] (eval o X.env)
  let c <-holding [v,b] (eval i X.env)
  standAt pos
  holding [v,b,c] (setItem b c v)
  release [v,b,c] []):=by intro _;rfl):PG X (.Subscript o i pos) (v_ D f t):=by
 intro e s d H v u Q I r h;rw[B];refine wa (wc (aS (n _ s d H _ I h) λb m a=>?_));obtain⟨x,p,j,G,q⟩:=a;refine wa (wc (aS (k _ m d p _ j q) λc l a=>?_));obtain⟨y,E,C,A,F⟩:=a;refine wa (wpAny_standAt (wa (wc (aS (hs _ l d E x y v b c u _ C G A r F) λ_ J a=>?_))));obtain⟨w,g,z⟩:=a;exact wpAny_release ⟨d,w,g,z⟩
def fJ(a:TE)(g:TG):TS:=λD c H=>a c H λx b=>g x c b D.nx
theorem lM(i:PE X e m)(j:PG X a g)(hs:swapsWithSole [a] e pos.line X.env=pure false:=by rfl)(o:swappedStores [a] e X.env=pure none:=by rfl)(n:(assignEach [a] X.env).map (·.2)=[assign a X.env]:=by rfl):PS X (.Assign [a] e pos) (fJ m g):=by
 intro r s t H D I h;refine wpAny_Assign_stores (aS (i _ s t H _ I h) λv c b=>?_) hs o;obtain⟨x,d,l,k,f⟩:=b;rw[n];exact aS (j _ c t d x v _ l k f) λ_ p q=>q
def wA(c:X.N.Nodup)(o:X.N[i]?=some x)(p:ec X.env.scope x)(j:PE X e n)(hs:swapsWith e (some (.Name x a)) pos.line X.env=pure false:=by rfl)(g:Zf X x:=by trivial):
 PS X (.Assign [.Name x a] e pos) (fJ n (kC i)):=by
 intro t s u H D I h;refine wpAny_Assign_Name (aS (j _ s u H _ I h) λv r b=>?_) hs;obtain⟨y,d,m,l,f⟩:=b;exact GW m c o p l (λq k=>⟨_,d,k,f⟩) g
def wB(c:TT)(e:TS):TS:=λD f H=>∃W:Nat->St->Hp->Prop,(∃m,W m f H)/\∀m f H,W m f H->
 c f H λb d=>if b=true then ∃N:St->Hp->Prop,(∀g h,N g h->∃a,a<m/\W a g h)/\e {D with nx:=N,ct:=N,bk:=D.nx} f d else D.nx f d
def Nh(B:PassesOwn (mZ X.prog X.w) X.A X.env X.xe)(M:PT X c J)(hb:PSs X e L):PS X (.While c e [] pos) (wB J L):=by
 intro z s E H D I h;obtain⟨W,⟨R,O⟩,j⟩:=h;refine wpAny_While (codeAny_whileLoop (λn K=>∃g x,Inv X _ g x K/\W n g x) ?_ R ⟨E,H,I,O⟩);rintro n C ⟨d,w,F,G⟩;refine wpAny_passesOwn B (aS (M _ C d w _ F (j n d w G)) λb Q q=>?_);obtain⟨y,u,l⟩:=q
 cases b with
 | true=>
   obtain⟨N,A,l⟩:=l;refine wpAny_passesOwn B (aS (hb _ Q d y _ u l) λf S k=>?_)
   cases f with
   | next=>
     obtain⟨a,i,o,r⟩:=k;obtain⟨p,t,m⟩:=A a i r;exact⟨p,t,a,i,o,m⟩
   | cont=>
     obtain⟨a,i,o,r⟩:=k;obtain⟨p,t,m⟩:=A a i r;exact⟨p,t,a,i,o,m⟩
   | brk=>exact k
   | ret v=>exact k
 | false=>
   exact wpAny_execs_nil ⟨d,y,u,l⟩
structure It where
 go:Nat->Hp->Prop
 yld:Nat->Hp->V->Hp->Prop
 stop:Nat->Hp->Prop
def cU(X:Cx)(pins:AD)(H:Hp)(b:Addr):Prop:=
 H b=none/\b≠X.env.locals/\b∉X.fs/\(b∈X.ex\/X.s₀.heap.objs.size<=b)/\(∀x c,X.env.cells.lookup x=some c->c≠b)/\∀p∈X.pn++pins,p.1≠b
theorem Inv.fpOk{σ:St}{b:Addr}(I:Inv X pins σ H s)(f:(~~~s)<=b)(a:H' b=none):cU X pins H' b:=by
 refine⟨a,Nat.ne_of_gt (Qi I.lt f),I.nofs f,.inr (Qg I.sz f),λx c e z=>?_,λp d z=>?_⟩
 .obtain⟨v,q⟩:=I.cell x c e
  exact absurd (Qi q.lt (by ext)) (Nat.lt_irrefl _)
 .exact absurd (Qi (ql (I.pin p d).1) (by ext)) (Nat.lt_irrefl _)
structure dP(P:P7)(w:World)(K:W7)(tg:Expr)(J:It)(fp:List Addr)(it:Addr)(tn:Nat->Heap->Prop):Prop where
 mem:it∈fp
 obj:∀i h,tn i h->∀b∈fp,∃o,h.get? b=some o/\∀v,o.data≠.cell v
 keep:∀i h h',tn i h->(∀b∈fp,∀o,h.get? b=some o->h'.get? b=some o)->tn i h'
 item:∀(X:Cx),X.prog=P->X.w=w->X.K=K->X.calm=true->∀(i:Nat) (pins:AD) (s:Shared) (σ:St) (H:Hp) (E:AC),Inv X pins σ H s->(∀b∈fp,cU X pins H b)->tn i s.heap->J.go i H->
  wpAny (mZ P w) X.A (pyNext (.ref it)) (λr s1=>∃u,r=some u/\
   wpAny (mZ P w) X.A (letOwnedTupleGo tg (.ref it) u) (λ_ s2=>∃x H',Inv X pins σ H' s2/\RelV x u/\J.yld i H x H'/\tn (i+1) s2.heap/\∀b∈fp,H' b=none) E s1) E s
 done:∀(X:Cx),X.prog=P->X.w=w->X.K=K->X.calm=true->∀(i:Nat) (pins:AD) (s:Shared) (σ:St) (H:Hp) (E:AC),Inv X pins σ H s->(∀b∈fp,cU X pins H b)->tn i s.heap->J.stop i H->
  wpAny (mZ P w) X.A (pyNext (.ref it)) (λr s1=>r=none/\Inv X pins σ H s1) E s
 self:∀(A:Around) (i:Nat) (s:Shared) (Q:AC) (E:AC),tn i s.heap->Q (.ref it) s->wpAny (mZ P w) A (pyIter (.ref it)) Q E s
abbrev TI:=St->Hp->(It->Hp->Prop)->Prop
def G7(X:Cx)(pins:AD)(σ:St)(g:Expr)(R:It->Hp->Prop)(a:Value)(e:Shared):Prop:=
 ∃(f:Addr) (d:List _) (c:Nat->Heap->Prop) (J:It) (h:Hp),a=.ref f/\Inv X pins σ h e/\dP X.prog X.w X.K g J d f c/\c 0 e.heap/\(∀b∈d,cU X pins h b)/\R J h
def PI(X:Cx)(d a:Expr)(b:TI):Prop:=
 ∀(e:List _) (s:Shared) (f:St) (H:Hp) (R:It->Hp->Prop),Inv X e f H s->b f H R->
  Zh X (eval a X.env) (λv c=>Zh X (pyIter v) (G7 X e f d R) X.xe c) X.xe s
theorem pR(f:s.heap.get? c=some o)(b:o.cls=.type n)(e:o.data=.fields vs)(g:["enumerate","zip","dict_itemiterator","dict_reverseitemiterator","odict_iterator","itertools.zip_longest","itertools.pairwise"].contains n=false)(a:Q () s):wpAny M A (letOwnedTupleGo d (.ref c) u) Q E s:=by
 cases d<;>first
  | exact wb a
  | (cases u<;>first
   | exact wb a
   | (refine wa (wpAny_load f ?_)
      rw[b,e];show wpAny M A (if _ then _ else _) Q E s;rw[if_neg ⋯]
      exact wb a))
noncomputable def G8(K:W7)(a:Addr):It:=
 ⟨λi H=>∃b x,SqL K H a b/\b[i]?=some x,λi H x d=>d=H/\∀b,SqL K H a b->b[i]?=some x,λi H=>∃b,SqL K H a b/\b.length<=i⟩
def G9(K:W7)(a:Addr):It:=
 ⟨λi H=>∃b x,SqT K H a b/\b[i]?=some x,λi H x d=>d=H/\∀b,SqT K H a b->b[i]?=some x,λi H=>∃b,SqT K H a b/\b.length<=i⟩
def lN(lo:Int)(n:Nat):It:=⟨λi _=>i<n,λi H x a=>a=H/\x=.int (lo+i),λi _=>n<=i⟩
theorem Ni{K:W7}(a g:Addr):dP P w K tg (G8 K a) [g] g (λi h=>h.IsListIter g a i) where
 mem:=by simp
 obj:=λi h st b f=>by
  have e:=by simpa using f
  subst e;obtain⟨o,e,c,d⟩:=st;exact⟨o,e,λv z=>by rw[d]at z;cases z⟩
 keep:=λi h M st k=>st.at λo e=>k g nofun o e
 item:=by
  intro X B F C N i j s σ H E I n st L;subst B F C;obtain⟨U,x,m,O⟩:=L;obtain⟨A,r,p,Z⟩:=I.list m;obtain⟨u,R,S⟩:=r.get O;obtain⟨t,G,T,y,J,D⟩:=n g nofun;refine wpAny_pyNext_list_item st p.isList (by simpa using R) λM l Y=>?_;obtain⟨o,e,c,d⟩:=id l;exact⟨u,rfl,pR e c d (by decide) ⟨x,H,I.turned (t':=s.toks) (λb o f e=>(Y.2 b f).trans e) t G y J D,S,⟨rfl,λys Q=>by rwa [I.list_inj Q m]⟩,l,λb f=>(n b f).1⟩⟩
 done:=by
  intro X B F C N i j s σ H E I n st L;subst B F C;obtain⟨U,m,O⟩:=L;obtain⟨A,r,p,Z⟩:=I.list m;obtain⟨t,G,T,y,J,D⟩:=n g nofun;have hl:=r.length
  exact wpAny_pyNext_list_end (I.ok.hd N) st p.isList (by simp;ext) λM V=>⟨rfl,I.turned (λb o f e=>V b o f e) t G y J D⟩
 self:=λ_ _ _ _ _ st h=>wpAny_pyIter_listiter st h
theorem Nj{K:W7}(a f:Addr):dP P w K S (G9 K a) [f] f (λi h=>h.IsTupleIter f a i) where
 mem:=by simp
 obj:=λi h st b m=>by
  obtain⟨o,e,c,d⟩:=st;grind
 keep:=λi h Y st k=>st.at λo e=>k f nofun o e
 item:=by
  intro X r n C F i T s σ H E I l st t;subst r n C;obtain⟨Z,x,j,z⟩:=t;obtain⟨U,A,p,J⟩:=I.tuple j;obtain⟨u,R,G⟩:=A.get z;obtain⟨q,y,N,v,B,D⟩:=l f nofun;refine wpAny_pyNext_tuple_item st (p) (x:=u) (by grind) λY g M=>?_;obtain⟨o,e,c,d⟩:=id g;exact⟨u,rfl,pR e c d (by decide) ⟨x,H,I.turned (λb o m e=>(M.2 b m).trans e) q y v B D,G,⟨rfl,λys L=>by rwa [I.tuple_inj L j]⟩,g,λb m=>(l b m).1⟩⟩
 done:=by
  intro X r n C F i T s σ H E I l st t;subst r n C;obtain⟨Z,j,z⟩:=t;obtain⟨U,A,p,J⟩:=I.tuple j;obtain⟨q,y,N,v,B,D⟩:=l f nofun;have Q:=A.length
  exact wpAny_pyNext_tuple_end (I.ok.hd F) st (p) (by simp;lia) λY O=>⟨rfl,I.turned (λb o m e=>O b o m e) q y v B D⟩
 self:=λ_ _ _ _ _ st h=>wpAny_pyIter_tupleiter st h
theorem Nk{K:W7}(a:Addr)(lo:Int)(n:Nat):dP P w K F (lN lo n) [a] a (λi h=>IsRangeIter h a (lo+(i:Nat)*1) ((n:Int)-(i:Nat)) 1) where
 mem:=by simp
 obj:=λi h st b q=>by
  ext
 keep:=λi h J st k=>k a nofun _ st
 item:=by
  intro X y u x m i G s M H E I d st f;obtain⟨l,r,C,g,p,j⟩:=d a nofun;refine(Walks.range (I.ok.hd m) a lo 1 n).item i s _ _ f st λv J N A c z=>?_;obtain⟨t,rfl⟩:=A;have D:Inv X _ M H {s with heap:=J,toks:=N}:=I.turned (λb o q e=>z b o (by grind) e) l r g p j;refine⟨_,rfl,pR c rfl rfl (by decide) ⟨.int _,H,D,⟨t,?_⟩,⟨rfl,rfl⟩,c,λb q=>(d b q).1⟩⟩;grind
 done:=by
  intro X y u x m i G s M H E I d st f;obtain⟨l,r,C,g,p,j⟩:=d a nofun
  exact wpAny_pyNext_range_end (I.ok.hd m) st (by have:n<=i:=f;lia) λJ B=>⟨rfl,I.turned (λb o q e=>B b o q e) l r g p j⟩
 self:=λ_ _ _ _ _ st h=>wpAny_pyIter_rangeiter st h
section
variable {tg:Expr}
theorem G_{σ:St}{lo a:Int}(I:Inv X pins σ H s)(d:-(2^62)<=lo)(g:lo<2^62)(f:-(2^62)<=a)(h:a<2^62)(q:R (lN lo (a-lo).toNat) H):Zh X (pyIter (.ref (~~~s))) (G7 X pins σ tg R) E {s with heap:=s.heap.push {cls:=.type "range",data:=.fields #[.int lo t,.int a u,.int 1 v]},toks:=tk}:=by
 refine wpAny_pyIter_range (.new ..) (small_one d g f h) ?_;have c:Inv X _ σ H {s with heap:=s.heap.push {cls:=.type "range",data:=.fields #[.int lo t,.int a u,.int 1 v]},toks:=tk}:=I.kept λb o e=>qe _ e
 refine⟨(s.heap.push _).objs.size,[(s.heap.push _).objs.size],_,_,H,rfl,
  c.kept λb o e=>qe _ e,Nk _ lo _,?_,λb k=>?_,q⟩
 .have i:lo+((0:Nat))*1=lo:=by simp
  have j:(((a-lo).toNat))-((0:Nat))=Builtin.Range.rangeSize lo a 1:=by rw[rangeSize_one];split<;>lia
  rw[i,j];exact qp _ rfl
 .have e:b=(s.heap.push {cls:=.type "range",data:=.fields #[.int lo t,.int a u,.int 1 v]}).objs.size:=by ext
  subst e;exact c.fpOk (qv _) (c.hok.fresh (qv _))
def wC(a:TA):TI:=λd H R=>a d H λc b=>∃j:Int,c=[.int j]/\-(2^62)<=j/\j<2^62/\R (lN 0 j.toNat) b
def wD(a:TA):TI:=λc H R=>a c H λd b=>∃i j:Int,d=[.int i,.int j]/\(-(2^62)<=i/\i<2^62/\-(2^62)<=j/\j<2^62)/\R (lN i (j-i).toNat) b
abbrev Ze(X:Cx)(e:Expr):Prop:=starEach [e] X.env=[(false,eval e X.env)]
theorem Nl(k:Gl X "range")(g:X.mg "range"=none)(m:PA X [a] u)(hs:Ze X a:=by rfl):PI X tg (.Call (.Name "range" p) [a] [] c) (wC u):=by
 intro x s y H R I h;refine Call_ (kB I k g boot_range (PyProof.Rows.callWith_type1 (aS (m c _ s y H _ I h) λA v f=>?_) hs rfl));obtain⟨z,w,l,o,d⟩:=f;obtain⟨j,e,d,n,q⟩:=d;subst e
 cases o with
 | cons r i=>
   cases i;obtain⟨t,rfl⟩:=r;exact call_range_1 (G_ l (by lia) (by lia) d n (by simpa using q))
theorem Nm{p c:Pos}(o:Gl X "range")(l:X.mg "range"=none)(w:PA X [a,b] m)(hs:starEach [a,b] X.env=[(false,eval a X.env),(false,eval b X.env)]:=by rfl)(f:starEach [b] X.env=[(false,eval b X.env)]:=by rfl):
 PI X tg (.Call (.Name "range" p) [a,b] [] c) (wD m):=by
 intro C s D H R I h;refine Call_ (kB I o l boot_range (PyProof.Rows.callWith_type1 (aS (w c _ s D H _ I h) λF B ⟨G,A,u,n,k⟩=>?_) (by rw[hs,f]) (by rw[f];rfl)));obtain⟨i,j,e,⟨k,x,y,v⟩,q⟩:=k;subst e
 cases n with
 | cons r g=>
   cases g with
   | cons z g=>
     cases g;obtain⟨t,rfl⟩:=r;obtain⟨E,rfl⟩:=z;exact call_range_2 (G_ u k x y v q)
def wG(f:TI)(g:TG)(e:TS):TS:=λD h H=>f h H λJ c=>∃W:Nat->Nat->St->Hp->Prop,(∃m,W 0 m h c)/\∀i m h H,W i m h H->
 (J.stop i H/\D.nx h H)\/(J.go i H/\∃N:St->Hp->Prop,(∀j k,N j k->∃b,b<m/\W (i+1) b j k)/\∀x k,J.yld i H x k->g x h k λa d=>e {D with nx:=N,ct:=N,bk:=D.nx} a d)
noncomputable def pS(a:List Addr)(h:Heap):AD:=a.filterMap λb=>(h.get? b).map λo=>(b,o)
def pT(c:b∈a)(e:h.get? b=some o):(b,o)∈pS a h:=List.mem_filterMap.mpr ⟨b,c,by rw[e];rfl⟩
theorem Nn(a:p∈pS c h):p.1∈c/\h.get? p.1=some p.2:=by
 obtain⟨b,d,e⟩:=List.mem_filterMap.mp a
 cases q:h.get? b with
 | none=>grind
 | some o=>
   grind
theorem Inv.pinned{σ:St}(I:Inv X pins σ H s)(c:∀b∈a,cU X pins H b)(i:∀b∈a,∃o,s.heap.get? b=some o/\∀v,o.data≠.cell v):Inv X (pins++pS a s.heap) σ H s:=
 I.pins_of λp d=>(qw d).elim (λz=>I.pin p (Qr _ z)) λz=>by
  obtain⟨j,e⟩:=Nn z;obtain⟨f,g,h,_⟩:=c p.1 j;grind
def Inv.unpinned{σ:St}(I:Inv X (pins++b) σ H s):Inv X pins σ H s:=I.pins_of λp a=>I.pin p (Qr _ (List.mem_append_left _ a))
def wH(K:PassesOwn (mZ X.prog X.w) X.A X.env X.xe)(hc:X.calm=true)(hi:PI X tg y wi)(hg:PG X tg g)(hb:PSs X B tb)(hs:∀x,foldedSetIterable y X.env x=pure x:=by intro _;rfl):PS X (.For tg y B [] pos) (wG wi g tb):=by
 intro c s σ H D I h;refine wpAny_For (aS (hi c s σ H _ I h) λv s1 h1=>aS h1 λitv s2 h2=>?_) hs;obtain⟨it,fp,V,J,H2,e,I2,T,Q,f2,W,⟨m0,w0⟩,L⟩:=h2;subst e
 have p:∀{w:Hp},(∀b _,_)->∀b _,cU X c w b:=λhn b hb=>⟨hn b hb,(f2 b hb).2⟩
 refine codeAny_forLoop_any (λn Z=>∃i l w,Inv X c l w Z/\V i Z.heap/\(∀b∈fp,w b=none)/\W i n l w) ?_ m0 ⟨0,σ,H2,I2,Q,λb hb=>(f2 b hb).1,w0⟩;rintro n Y ⟨i,k,M,I3,E,C,w3⟩;rcases L i n k M w3 with⟨F,qn⟩|⟨go,N,hN,step⟩
 .refine wpAny_passesOwn K (aS (T.done X rfl rfl rfl hc i c Y k M X.xe I3 (p C) E F) λr s4 j=>?_)
  obtain⟨R,I4⟩:=j;subst R;exact wpAny_execs_nil ⟨k,M,I4,qn⟩
 .refine wpAny_passesOwn K (aS (T.item X rfl rfl rfl hc i c Y k M X.xe I3 (p C) E go) λr s4 j=>?_)
  obtain⟨u,R,h4⟩:=j;subst R;refine wpAny_passesOwn K (aS h4 λ_ s5 j=>?_);obtain⟨x,H5,I5,r5,y5,A,O⟩:=j;have U:=I5.pinned (p O) (T.obj _ _ A);refine wpAny_passesOwn K (aS (hg _ s5 k H5 x u _ U r5 (step x H5 y5)) λ_ s6 j=>?_);obtain⟨S,H6,I6,q6⟩:=j;refine wpAny_passesOwn K (aS (hb _ s6 S H6 _ I6 q6) λf s7 z=>?_)
  have again:∀{a:St}{t:Hp},Inv X _ a t s7->_->∃m,m<n/\∃i l w,Inv X c l w s7/\V i _/\(∀b∈fp,w b=none)/\W i m l w:=λ{a t} q G=>by
   obtain⟨m',hm,w7⟩:=hN a t G;refine⟨m',hm,i+1,a,t,q.unpinned,T.keep _ _ _ A λb hb o e=>(q.pin _ (Qr _ (Qr _ (pT hb e)))).1,λb hb=>?_,w7⟩;obtain⟨o,e,d⟩:=T.obj _ _ A b hb;exact(q.pin _ (Qr _ (Qr _ (pT hb e)))).2.1
  cases f with
  | next=>obtain⟨a,t,q,G⟩:=z;exact again q G
  | cont=>obtain⟨a,t,q,G⟩:=z;exact again q G
  | brk=>obtain⟨a,t,q,z⟩:=z;exact⟨a,t,q.unpinned,z⟩
  | ret v=>obtain⟨x7,a,t,q,r7,z⟩:=z;exact⟨x7,a,t,q.unpinned,r7,z⟩
end
abbrev R2:=V->V->Hp->VK->Prop
def bR(X:Cx)(f:Value->Value->Sem Value)(r:R2):Prop:=
 ∀(a:List _) (s:Shared) (b:St) (H:Hp) (x y:V) (v u:Value) (Q:VK),Inv X a b H s->RelV x v->RelV y u->r x y H Q->
  Zh X (f v u) (EP X a b Q) X.xe s
def wI(X:Cx)(f:Value->Sem Value)(r:V->Hp->VK->Prop):Prop:=
 ∀(a:List _) (s:Shared) (b:St) (H:Hp) (x:V) (v:Value) (Q:VK),Inv X a b H s->RelV x v->r x H Q->
  Zh X (f v) (EP X a b Q) X.xe s
def dz(X:Cx)(f:Value)(r:AQ->Hp->VK->Prop):Prop:=
 ∀(a:List _) (s:Shared) (b:St) (H:Hp) (c:AQ) (d:List _) (Q:VK),Inv X a b H s->Vals c d->r c H Q->
  Zh X (call f d) (EP X a b Q) X.xe s
def wJ(X:Cx)(r:V->Hp->(Bool->Hp->Prop)->Prop):Prop:=
 ∀(a:List _) (s:Shared) (b:St) (H:Hp) (x:V) (v:Value) (Q:Bool->Hp->Prop),Inv X a b H s->RelV x v->r x H Q->
  Zh X (truthy v) (TP X a b Q) X.xe s
def iX(r:R2)(d a:TE):TE:=λe H Q=>d e H λx b=>a e b λy c=>r x y c Q
def Np(r:V->Hp->VK->Prop)(a:TE):TE:=λc H Q=>a c H λx b=>r x b Q
def rI(C:Int->Int->Prop)(g:Int->Int->V):R2:=λx y H Q=>∃i j,x=.int i/\y=.int j/\C i j/\Q (g i j) H
def gq(g:Int->Int->V):R2:=λx y H Q=>∃i j,x=.int i/\y=.int j/\Q (g i j) H
def rU(g:Int->V):V->Hp->VK->Prop:=λx H Q=>∃i,x=.int i/\Q (g i) H
section
variable {a b c:Expr}{ta tb tc:TE}
def iY(n:PE X a ta)(hb:PE X b tb){σ:St}{R:V->V->Hp->Prop}(I:Inv X pins σ H s)(h:ta σ H λx j=>tb σ j λy d=>R x y d){f:Value->Value->Sem Value}(t:∀v u i x y d,Inv X pins σ d i->RelV x v->RelV y u->R x y d->Zh X (f v u) Q X.xe i):
 Zh X (eval a X.env) (λv g=>Zh X (eval b X.env) (λu e=>Zh X (f v u) Q X.xe e) X.xe g) X.xe s:=by
 refine aS (n _ s σ H _ I h) λv k c=>?_;obtain⟨x,j,p,m,o⟩:=c;refine aS (hb _ k σ j _ p o) λu i c=>?_;obtain⟨y,d,l,r,q⟩:=c;exact t v u i x y d l m r q
def pU(j:bR X (binaryOp n) r)(d:PE X a ta)(l:PE X b tb):PE X (.BinOp a n b pos) (iX r ta tb):=by
 intro c s m H Q I h;exact wpAny_BinOp (iY d l I h λv u g x y f i e k q=>j _ g m f x y v u Q i e k q)
def wK(k:wI X (unaryOp m) r)(l:PE X a ta):PE X (.UnaryOp m a pos) (Np r ta):=by
 intro b s c H Q I h;refine UnaryOp_ (aS (l _ s c H _ I h) λv g d=>?_);obtain⟨x,j,f,e,i⟩:=d;exact k _ g c j x v Q f e i
def pV{g:Int->Int->Int}(rule:∀(i j:Int) (t u:Tok) (s:Shared) (Q:AC) (E:AC),C i j->Q (.int (g i j) s.toks) {s with toks:=s.toks+1}->Zh X (f (.int i t) (.int j u)) Q E s):
 bR X f (rI C λi j=>.int (g i j)):=by
 intro a s c H x y v u Q I e d h;obtain⟨i,j,rfl,rfl,k,q⟩:=h;obtain⟨t,rfl⟩:=e;obtain⟨b,rfl⟩:=d;exact rule i j t b s _ _ k ⟨.int _,H,I.tok _,⟨_,rfl⟩,q⟩
def iZ{g:Int->Int->Int}(rule:∀(i j:Int) (t u:Tok) (s:Shared) (Q:AC) (E:AC),Q (.int (g i j) s.toks) {s with toks:=s.toks+1}->Zh X (f (.int i t) (.int j u)) Q E s):
 bR X f (gq λi j=>.int (g i j)):=by
 intro a s c H x y v u Q I e d h;obtain⟨i,j,rfl,rfl,q⟩:=h;obtain⟨t,rfl⟩:=e;obtain⟨b,rfl⟩:=d;exact rule i j t b s _ _ ⟨.int _,H,I.tok _,⟨_,rfl⟩,q⟩
def i0{g:Int->Int->Bool}(rule:∀(i j:Int) (t u:Tok) (s:Shared) (Q:AC) (E:AC),Q (.bool (g i j)) s->Zh X (f (.int i t) (.int j u)) Q E s):
 bR X f (gq λi j=>.bl (g i j)):=by
 intro a s c H x y v u Q I e d h;obtain⟨i,j,rfl,rfl,q⟩:=h;obtain⟨t,rfl⟩:=e;obtain⟨b,rfl⟩:=d;exact rule i j t b s _ _ ⟨.bl _,H,I,rfl,q⟩
def wL(i j:Int):Prop:=0<j/\j<1073741824
def CMul(i j:Int):Prop:=-(2^64)<i/\i<2^64\/(-(2^64)<j/\j<2^64)
def CMul.ok(h:CMul i j):IntMulOk i j:=by
 rcases h with⟨d,e⟩|⟨d,e⟩
 .exact .of_left (intBits_le_64 d e)
 .exact .of_right (intBits_le_64 d e)
theorem Nq(k:Nat):(0:Int)<=2^k:=by constructor<;>ac_nf
def wM:bR X (binaryOp .Add) (gq λi j=>.int (i+j)):=iZ λ_ _ _ _ _ _ _ q=>add_int q
def wN:bR X (binaryOp .Sub) (gq λi j=>.int (i-j)):=iZ λ_ _ _ _ _ _ _ q=>sub_int q
def wO:bR X (binaryOp .Mult) (rI CMul λi j=>.int (i*j)):=pV λ_ _ _ _ _ _ _ d q=>mul_int q d.ok
theorem wQ:bR X (binaryOp .FloorDiv) (rI wL λi j=>.int (i/j)):=pV λi j _ _ _ _ _ b q=>by
 have d:=b.1;have c:=b.2;exact floordiv_int ∅ (by rwa [Int.fdiv_eq_ediv_of_nonneg i ∅]) (.inl (PyProof.noPylong_small (by omega)))
theorem wR:bR X (binaryOp .Mod) (rI (λ_ j=>0<j) λi j=>.int (i%j)):=pV λi j _ _ _ _ _ a q=>mod_int' ∅ (by rwa [Int.fmod_eq_emod_of_nonneg i ∅])
def wU:bR X (binaryOp .RShift) (rI (λ_ j=>0<=j) λi j=>.int (i/2^j.toNat)):=pV λi j _ _ _ _ _ a q=>
 rshift_int a (by rwa [Int.fdiv_eq_ediv_of_nonneg i (Nq _)])
def op_xor:bR X (binaryOp .BitXor) (gq λi j=>.int (Builtin.bitXor i j)):=iZ λ_ _ _ _ _ _ _ q=>xor_int q
def Nr{g:Int->Int}(rule:∀(i:Int) (t:Tok) (s:Shared) (Q:AC) (E:AC),Q (.int (g i) s.toks) {s with toks:=s.toks+1}->Zh X (f (.int i t)) Q E s):
 wI X f (rU λi=>.int (g i)):=by
 intro a s b H x v Q I d h;obtain⟨i,rfl,q⟩:=h;obtain⟨t,rfl⟩:=d;exact rule i t s _ _ ⟨.int _,H,I.tok _,⟨_,rfl⟩,q⟩
def wV:wI X (unaryOp .USub) (rU λi=>.int (-i)):=Nr λ_ _ _ _ _ q=>neg_int q
def lO{σ:St}(I:Inv X pins σ H s)(q:Q (.bl k) H)(e:k=d):EP X pins σ Q (.bool d) s:=by
 subst e;exact⟨.bl k,H,I,rfl,q⟩
def i5:bR X (compareOp .Lt) (gq λi j=>.bl (decide (i<j))):=i0 λ_ _ _ _ _ _ _ q=>lt_int q
def wW:bR X (compareOp .LtE) (gq λi j=>.bl (decide (i<=j))):=i0 λ_ _ _ _ _ _ _ q=>le_int q
def lP:bR X (compareOp .Gt) (gq λi j=>.bl (decide (j<i))):=i0 λ_ _ _ _ _ _ _ q=>gt_int q
def lQ:bR X (compareOp .Is) (λx y H Q=>y=.non/\Q (.bl (decide (x=.non))) H):=by
 intro a s b H x y v u Q I e d h;obtain⟨rfl,q⟩:=h;cases d;refine is_none_gen (lO I q ?_)
 cases x<;>first
  | (rfl)
  | (obtain⟨t,rfl⟩:=e;rfl)
def Hc:bR X (compareOp .IsNot) (λx y H Q=>y=.non/\Q (.bl (!decide (x=.non))) H):=by
 intro a s b H x y v u Q I e d h;obtain⟨rfl,q⟩:=h;cases d;refine isnot_none_gen (lO I q ?_)
 cases x<;>first
  | (rfl)
  | (obtain⟨t,rfl⟩:=e;rfl)
theorem fw(b:Expr)(h:op≠.In:=by decide)(e:op≠.NotIn:=by decide):behindInMarks op b=false:=by
 cases b with
 | Set d k p=>
   show(_&&_)=_;grind
 | _=>rfl
def wX(k:bR X (compareOp m) r)(d:PE X a ta)(n:PE X b tb)(j:behindInMarks m b=false):PE X (.Compare a [m] [b] pos) (iX r ta tb):=by
 intro c s o H Q I h;exact wpAny_Compare1 (iY d n I h λv u g x y f i e l q=>k _ g o f x y v u Q i e l q) j
def lR(t:TE):TT:=λa H Q=>t a H λx b=>∃k,x=.bl k/\Q k b
def wY(E:bR X (compareOp J) r)(p:PE X a ta)(L:PE X b tb)(f:behindInMarks J b=false):PT X (.Compare a [J] [b] pos) (lR (iX r ta tb)):=by
 intro K s G H Q I h;refine wpAny_isTrue_Compare1 (aS (p _ s G H _ I h) λv C d=>?_) f;obtain⟨x,g,w,o,i⟩:=d;refine aS (L _ C G g _ w i) λu D d=>?_;obtain⟨y,t,n,m,B⟩:=d;refine aS (E _ D G t x y v u _ n o m B) λc F d=>?_;obtain⟨z,j,q,A,k,e,l⟩:=d;subst e;cases A;exact wpAny_truthy_bool ⟨j,q,l⟩
def wZ(r f:R2)(ta tb tc:TE):TE:=λa H Q=>ta a H λx d=>tb a d λy g=>r x y g λz b=>∃k,z=.bl k/\
 (if k=true then tc a b λc e=>f y c e Q else Q (.bl false) b)
def Nt(E:bR X (compareOp o) r)(j:bR X (compareOp g) J)(R:PE X a ta)(hb:PE X b tb)(O:PE X c tc)(t:lastMarks [o,g] [b,c]=false:=by with_unfolding_all rfl):PE X (.Compare a [o,g] [b,c] pos) (wZ r J ta tb tc):=by
 intro q s i H Q I h;refine Compare_chain (aS (R _ s i H _ I h) λv w f=>?_) t;obtain⟨x,F,A,S,G⟩:=f;refine chain_link (aS (hb _ w i F _ A G) λu C f=>?_);obtain⟨y,U,K,m,Z⟩:=f;refine aS (E _ C i U x y v u _ K S m Z) λd s3 f=>?_;obtain⟨z,l,p,Y,k,e,n⟩:=f;subst e;cases Y;refine wpAny_truthy_bool ?_
 cases k with
 | false=>exact ite_ff ⟨.bl _,l,p,rfl,n⟩
 | true=>
   refine ite_tt (chain_last (aS (O _ s3 i l _ p n) λB N f=>?_));obtain⟨V,M,D,T,L⟩:=f;exact j _ N i M y V u B Q D m T L
def i6(K:W7)(x:V)(H:Hp)(k:Bool):Prop:=
 match x with
 | .non=>k=false
 | .bl b=>k=b
 | .int i=>k=(i != 0)
 | .str y=>y.length<=sizeLine/\k=((y.length:Int)!=0)
 | .byt y=>y.size<=sizeLine/\k=((y.size:Int)!=0)
 | .ref p=>(∃a,SqL K H p a/\k=!a.isEmpty)\/(∃a,SqT K H p a/\k=!a.isEmpty)\/∃d,H p=some (.dK d)/\k=!d.isEmpty
 | _=>False
def Nu{vs:List (κ×Value)}(r:KV d vs):(!vs.isEmpty)=!d.isEmpty:=by
 cases r<;>rfl
def Hd(r:Vals xs its):(!its.toArray.isEmpty)=!xs.isEmpty:=by
 cases r<;>simp
def lS:(sizeLine:Nat)<2^63:=by decide
theorem w_:wJ X (λx H Q=>∃k,i6 X.K x H k/\Q k H):=by
 intro A s E H x v Q I j h;obtain⟨k,e,q⟩:=h;have z:=lS;have D:sizeLine=16777216:=je
 cases x with
 | non=>
   cases j;have d:k=false:=e;subst d;exact truthy_none ⟨H,I,q⟩
 | bl b=>
   cases j;have d:k=b:=e;subst d;exact wpAny_truthy_bool ⟨H,I,q⟩
 | int i=>
   obtain⟨t,rfl⟩:=j;have d:k=(i != 0):=e;subst d;exact PySem.P.truthy_int ⟨H,I,q⟩
 | str y=>
   obtain⟨t,rfl⟩:=j;obtain⟨w,d⟩:=e;subst d;exact PySem.P.truthy_str (by lia) ⟨H,I.tok _,q⟩
 | byt y=>
   obtain⟨t,rfl⟩:=j;obtain⟨w,d⟩:=e;subst d;exact W.truthy_bytes (by lia) ⟨H,I.tok _,q⟩
 | ref p=>
   cases j;have d:=e;rcases d with⟨C,l,d⟩|⟨C,l,d⟩|⟨n,l,d⟩
   .subst d
    obtain⟨c,r,f,o⟩:=I.list l;have g:=r.length;exact wpAny_truthy_list f.isList (by ext<;>lia) ⟨H,I.tok _,by rw[Hd r];exact q⟩
   .subst d
    obtain⟨c,r,f,o⟩:=I.tuple l;have g:=r.length;exact truthy_tuple f (by ext<;>lia) ⟨H,I.tok _,by rw[Hd r];exact q⟩
   .subst d
    obtain⟨o,u,B,r,m⟩:=I.hok p _ l;have g:n.length=B.length:=Paired.length r;exact wpAny_truthy_dict u m (by lia) ⟨H,I.tok _,by rw[Nu r];exact q⟩
 | _=>exact(show False from e).elim
def Nv(n:PE X a ta)(l:∀d,isTrue a X.env d=(do let v <-d;standAt a.pos;holding [v] (truthy v))):
 PT X a (λσ H Q=>ta σ H λx H'=>∃k,i6 X.K x H' k/\Q k H'):=by
 intro b s σ H Q I h;refine isTrue_plain (aS (n _ s σ H _ I h) λv i e=>?_) (l _);obtain⟨x,m,g,f,j⟩:=e;exact w_ _ i σ m x v Q g f j
def eQ(r:Vals [x] us):∃u,us=[u]/\RelV x u:=by
 cases r with
 | cons a b=>cases b;exact⟨_,rfl,a⟩
def kE(r:Vals [x,y] us):∃u w',us=[u,w']/\RelV x u/\RelV y w':=by
 cases r with
 | cons r1 r2=>
   cases r2 with
   | cons r3 r4=>cases r4;exact⟨_,_,rfl,r1,r3⟩
def He(c:X.calm=true):dz X (.builtin "min") (λxs H Q=>∃i j,xs=[.int i,.int j]/\Q (.int (if j<i then j else i)) H):=by
 intro b s f H xs e Q I r h;obtain⟨i,j,rfl,q⟩:=h;obtain⟨u,m,rfl,⟨t,rfl⟩,⟨g,rfl⟩⟩:=kE r
 refine min_two_ints (I.ok.hd c) λl d k=>⟨_,H,I.kept k,?_,q⟩
 by_cases a:j<i
 .rw[if_pos a,if_pos a];exact⟨_,rfl⟩
 .rw[if_neg a,if_neg a];exact⟨_,rfl⟩
end
structure ObjM(h:Heap)(x dx C:Addr)(mA:AF):Prop where
 obj:h.get? x=some (W.instObj C dx)
 ns:h.Ns1 dx mA
 ne:dx≠x
theorem Nw{h:Heap}(n:h.Ns1 m l):∃d,h.get? m=some d/\∀b,W.lookIn b d=some (l b):=by
 obtain⟨o,j,q,f,i,g,_,p⟩:=n;refine⟨o,f,λb=>?_⟩;have e:=p b;unfold nsFind findBy at e;unfold W.lookIn;rw[i];dsimp only
 split
 .grind
 .have a:j.toList.any (·.refKey)=false:=by
   rw[List.any_eq_false];intro y k;obtain⟨z,t,c⟩:=g y (Array.mem_toList_iff.mp k);simp[DictEntry.refKey,c]
  grind
def ObjM.look(I:ObjM h x d C e):∃b,W.InstAt h x (W.instObj C d) C (some b)/\∀g,W.lookIn g b=some (e g):=
 let ⟨b,c,f⟩:=Nw I.ns
 ⟨b,⟨I.obj,rfl,rfl,c⟩,f⟩
def RelO.some_of(r:RelO (some v) o):∃u,o=some u/\RelV v u:=by
 cases o with
 | none=>exact(r).elim
 | some u=>exact⟨u,rfl,r⟩
section
variable {P:P7}{w:World}{H H':Hp}{h h':Heap}{a C dx:Addr}{fs fs':List (Str×V)}
def xa(g:HOk P w H h)(e:H a=some (.ins C dx fs)):∃b,ObjM h a dx C b/\(∀f,RelO (fs.lookup f) (b f))/\PySem.Within b (fs.map (·.1))/\fs.length<=1000/\H dx=some (.own a):=by
 obtain⟨d,z,i,j,b,n,r,q⟩:=g a _ e;exact⟨b,⟨j,n,i⟩,r,q,z,d⟩
end
structure Cls(K:W7)(C:Addr):Prop where
 pg:W.plainGet K C Str.empty=true
 hd:W.hasDictIn K C=true
 po:W.plainOver K C=true
 sa:W.findIn K (.ref C) "__setattr__"=some (some (.builtin "object.__setattr__"))
def Cls.get{K:W7}(c:Cls K C)(f:Str):W.plainGet K C f=true:=c.pg
structure V_(K:W7)(C:Addr)(f:Str)(v:V)(u:Value):Prop where
 at_:W.findIn K (.ref C) f=some (some u)
 rel:RelV v u
 get:W.specialIn K u "__get__"=some none
 cp:W.copiedNames.contains f=false
structure Nx(K:W7)(C:Addr)(m:Str)(f:Addr):Prop where
 at_:W.findIn K (.ref C) m=some (some (.ref f))
 fn:W.isFn K (.ref f)=true
 kp:W.keepIn K (.ref f)=true
section
variable {σ:St}{H:Hp}{s:Shared}{A:Around}{E Q:AC}{c:Value}{b:Bool}
inductive cK (K:W7) (H:Hp):V->Value->Prop where
 | non:cK K H .non (.type "NoneType")
 | bl (x:Bool):cK K H (.bl x) (.type "bool")
 | int (i:Int):cK K H (.int i) (.type "int")
 | str (x:Str):cK K H (.str x) (.type "str")
 | flt (x:UInt64):cK K H (.flt x) (.type "float")
 | lst {a:Addr}{xs:AQ} (e:H a=some (.lst xs)):cK K H (.ref a) (.type "list")
 | frz {a:Addr}{o:Obj}{xs:AQ} (e:H a=some (.frz o (.lst xs))):cK K H (.ref a) (.type "list")
 | tup {a:Addr}{xs:AQ} (e:H a=some (.tup xs)):cK K H (.ref a) (.type "tuple")
 | dK {a:Addr}{kvs:List (bT×V)} (e:H a=some (.dK kvs)):cK K H (.ref a) (.type "dict")
 | dT {a:Addr}{kvs:List (List bT×V)} (e:H a=some (.dT kvs)):cK K H (.ref a) (.type "dict")
 | ins {a C dx:Addr}{fs:List (Str×V)} (e:H a=some (.ins C dx fs)) (cl:Cls K C) (ha:W.findIn K (.ref C) "__class__"=some (some (.builtin "object.__class__")))
  (hn:W.specialIn K (.builtin "object.__class__") "__get__"=some (some (.builtin "getset_descriptor.__get__"))) (htk:W.takesIn K (.builtin "object.__class__")=some true)
  (hm:W.mroIn K C (.type "object")=some true):cK K H (.ref a) (.ref C)
def Ny(I:Inv X pins σ H s)(j:RelV x u)(F:cK X.K H x t)(e:W.kitOne X.K t c=some b)(h:∀tk,Q (.bool b) {s with toks:=tk}):
 wpAny (mZ X.prog X.w) A (call (.builtin "isinstance") [u,c]) Q E s:=by
 cases F with
 | non=>cases (j);exact W.kia_one W.kitx_none I.kIn .intro e (λz=>nomatch z) h
 | bl y=>cases (j);exact W.kia_one W.kitx_bool I.kIn .intro e (λz=>nomatch z) h
 | int i=>obtain⟨t,q⟩:=j;cases q;exact W.kia_one W.kitx_int I.kIn .intro e (λz=>nomatch z) h
 | str y=>obtain⟨t,q⟩:=j;cases q;exact W.kia_one W.kitx_str I.kIn .intro e (λz=>nomatch z) h
 | flt y=>obtain⟨t,q⟩:=j;cases q;exact W.kia_one W.kitx_float I.kIn .intro e (λz=>nomatch z) h
 | @lst a f g=>
   cases (show u=.ref a from j);obtain⟨_,_,n,_,k⟩:=I.hok a _ g;exact W.kia_one W.kitx_list I.kIn ⟨_,k,rfl⟩ e (λz=>nomatch z) h
 | @frz a P f g=>
   cases (j);obtain⟨_,_,_,n,_,k⟩:=I.hok a _ g;exact W.kia_one W.kitx_list I.kIn ⟨_,k,rfl⟩ e (λz=>nomatch z) h
 | @tup a f g=>
   cases (show u=.ref a from j);obtain⟨_,_,_,p⟩:=I.hok a _ g;obtain⟨o,k,l,_⟩:=p;exact W.kia_one W.kitx_tuple I.kIn ⟨o,k,l⟩ e (λz=>nomatch z) h
 | @dK a r g=>
   cases (show u=.ref a from j);obtain⟨_,_,S,_,p⟩:=I.hok a _ g;obtain⟨o,G,B,k,l,_⟩:=p;exact W.kia_one W.kitx_dict I.kIn ⟨o,k,l.1⟩ e (λz=>nomatch z) h
 | @dT a r g=>
   cases (show u=.ref a from j);obtain⟨_,_,f,_,o,G,B,k,l,_⟩:=I.hok a _ g;exact W.kia_one W.kitx_dict I.kIn ⟨o,k,l.1⟩ e (λz=>nomatch z) h
 | @ins a C L N g v D K m w=>
   cases (j);obtain⟨R,O,_⟩:=xa I.hok g;obtain⟨M,J,_⟩:=O.look;exact W.kia_one (W.kitx_own (v.get _) v.hd D K m w) I.kIn J e (λz=>nomatch z) h
end
structure Room(k:Nat)(A:Around):Prop where
 hd:A.handled=none
 dp:A.depth+3*k+5<recursionLimit
 un:A.units+16*k+200<cLine
theorem Room.mono(r:Room k A)(h:j<=k):Room j A:=⟨r.hd,by have:=r.dp;lia,by have:=r.un;lia⟩
theorem Room.deeper(r:Room (k+1) A)(env:Env):Room k (A.deeper env):=
 ⟨r.hd,by have:=r.dp;show _+1+3*k+5<_;ac_nf,by have:=r.un;show _+3+16*k+200<_;ac_nf⟩
theorem Room.depth(r:Room k A):A.depth<recursionLimit:=by have:=r.dp;lia
theorem Room.units(r:Room k A):A.units+64<cLine:=by have:=r.un;lia
def xb:TA:=λ_ H Q=>Q [] H
def xc(a:TE)(d:TA):TA:=λe H Q=>a e H λx b=>d e b λf c=>Q (x::f) c
section
variable {e:Expr}{te:TE}{t:TA}
def gO:PA X [] xb:=λ_ _ _ _ H Q I h=>Calls.spliced_nil ⟨[],H,I,.nil,h⟩
def fL(k:PE X e te)(d:PA X es t)(hs:starEach (e::es) X.env=(false,eval e X.env)::starEach es X.env:=by rfl):PA X (e::es) (xc te t):=by
 intro b r s v H Q I h;rw[hs];show wpAny _ _ (spliced ((_,eval e _)::backTo b _)) _ _ s;refine Calls.spliced_cons (aS (k _ s v H _ I h) λu c a=>?_);obtain⟨x,o,m,j,f⟩:=a;refine aS (d b _ c v o _ m f) λy p a=>?_;obtain⟨w,l,i,g,n⟩:=a;exact⟨x::w,l,i,.cons j g,n⟩
def xf(t:TA):TE:=λc H Q=>t c H λb a=>b.length<=sizeLine/\∀p,a p=none->Q (.ref p) (upd a p (.tup b))
def xg(t:TA):TE:=λc H Q=>t c H λb a=>b.length<=sizeLine/\∀p,a p=none->Q (.ref p) (upd a p (.lst b))
def xh{d}(h:PA X es t):PE X (.Tuple es d pos) (xf t):=by
 intro i s k H Q I g;exact wpAny_Tuple_spliced (aS (h pos _ s k H _ I g) λl c ⟨j,f,a,r,z,q⟩=>⟨by rwa [<-r.length],⟨.ref _,upd f _ (.tup j),a.laid (λb u e=>qe _ e) (qv _) (⟨z,l,r,⟨_,qp _ rfl,rfl,_,rfl⟩⟩),rfl,q _ (a.hok.fresh (qv _))⟩⟩)
def xi(h:PA X es t):PE X (.List es pos) (xg t):=by
 intro g s j H Q I d;exact wpAny_List_spliced (aS (h pos _ s j H _ I d) λk a ⟨i,f,c,r,z,q⟩=>⟨by rwa [<-r.length],⟨.ref _,upd f _ (.lst i),c.laid (λb u e=>qe _ e) (qv _) (⟨z,k,0,r,qp _ rfl⟩),rfl,q _ (c.hok.fresh (qv _))⟩⟩)
end
abbrev Sp:=AQ->Hp->VK->XK->Prop
abbrev iq:=List Env->Hp->Shared->XK->AC
structure gP(P:P7)(w:World)(K:W7)(mg:AF)(base:Heap)(A:Around)(outer:List Env)(s:Shared)(H:Hp):Prop where
 frames:A.frames=some outer
 mod:Mod K mg base
 bs:∀b o,base.get? b=some o->s.heap.get? b=some o/\H b=none
 bsz:base.objs.size<= ~~~s
 funs:s.heap.FunFrames base outer
 frf:∀b∈fv outer,H b=none
 hok:HOk P w H s.heap
 bare:AllBare s.gens
def CE(a:List Env)(P:P7)(w:World)(H:Hp)(s:Shared)(Q:VK)(u:Value)(s':Shared):Prop:=
 ∃v b,s'.os=s.os/\AllBare s'.gens/\Un (fv a) [] H b s.heap s'.heap/\HOk P w b s'.heap/\RelV v u/\Q v b
def CR(CX:iq)(a:List Env)(P:P7)(w:World)(H:Hp)(s:Shared)(Q:VK)(E:XK)(r:Result)(s':Shared):Prop:=
 match r with
 | .ok (.ret u)=>CE a P w H s Q u s'
 | .ok _=>False
 | .error e=>CX a H s E e s'
structure cA(P:P7)(w:World)(K:W7)(mg:AF)(base:Heap)(CX:iq)(k:Nat)(f:Addr)(fd:FuncData)(ps:AL)(sp:Sp):Prop where
 len:∀vs H Q E,sp vs H Q E->vs.length=ps.length
 run:∀(A:Around) (outer:List Env) (s:Shared) (H:Hp) (args:Args) (us:AE) (vs:AQ) (Q:VK) (E:XK),Room k A->gP P w K mg base A outer s H->BindsTo s fd args (ps.zip us)->Vals vs us->sp vs H Q E->
  codeAny (mZ P w) A (.call (.ref f) args) (CR CX outer P w H s Q E) s
section
variable {σ:St}{H:Hp}{s s':Shared}
def Inv.env0(I:Inv X pins σ H s):gP X.prog X.w X.K X.mg X.base X.A X.stack s H:=
 ⟨I.ok.frames,I.ok.mod,I.bs,Qg I.ok.bsz I.sz,I.stack,I.stkFree,I.hok,I.bare⟩
def Inv.after(I:Inv X pins σ H s)(h:CE X.stack X.prog X.w H s Q u s'):EP X pins σ Q u s':=by
 obtain⟨v,j,os,a,e,c,r,q⟩:=h;obtain⟨i,g,d,t,f⟩:=s';obtain rfl:=os;exact⟨v,j,I.call e c a (λb z=>absurd z nofun),r,q⟩
end
def xj(sp:Sp)(b:AQ)(E:XK)(t:TA):TE:=λc H Q=>t c H λd a=>sp (d++b) a Q E
def Binds(K:W7)(b:FuncData)(d:AL)(e:AE):Prop:=
 ∀(s:Shared) (c:List _),K.In s.heap->(c++e).length=d.length->BindsTo s b ⟨c,[]⟩ (d.zip (c++e))
def Binds.all{K:W7}(h:∀us:AE,us.length=d.length->bindArgs c ⟨us,[]⟩=pure (d.zip us)):Binds K c d []:=λs us _ b=>by
 rw[wz]at b ⊢;exact .of_eq (h us b)
def xk(CX:iq)(X:Cx)(E:XK):Prop:=∀(a:List _) (c:St) (H:Hp) (s:Shared) (e:Value) (b:Shared),Inv X a c H s->CX X.stack H s E e b->X.xe e b
section
variable {CX:iq}{k:Nat}{f C:Addr}{fd:FuncData}{ps:AL}{sp:Sp}{dvs:AQ}{ds:AE}{E:XK}{x m:Str}{p:Pos}{e o:Expr}{ta:TE}{t:TA}
def xl{σ:St}(F:cA X.prog X.w X.K X.mg X.base CX k f fd ps sp)(d:Room k X.A)(m:Binds X.K fd ps ds)(c:Vals dvs ds)(g:xk CX X E)(I:Inv X pins σ H s)(r:Vals vs us)(h:sp (vs++dvs) H Q E):Zh X (call (.ref f) us) (EP X pins σ Q) X.xe s:=by
 have b:=r.append c
 have i:(us++ds).length=ps.length:=by rw[<-b.length];exact F.len _ _ _ _ h
 refine wpAny_call (codeAny_mono (F.run X.A _ s H _ _ _ Q E d I.env0 (m s us I.kIn i) b h) λr j a=>?_)
 cases r with
 | error e=>exact g _ σ H s e j I a
 | ok l=>
   cases l with
   | ret u=>exact I.after a
   | next=>exact .elim a
   | brk=>exact .elim a
   | cont=>exact .elim a
abbrev Zc(X:Cx)(e:Expr)(s:List Expr):Prop:=starEach (e::s) X.env=(false,eval e X.env)::starEach s X.env
theorem xm(F:cA X.prog X.w X.K X.mg X.base CX k f fd ps sp)(y:Room k X.A)(l:Gl X x)(w:X.mg x=some (.ref f))(v:W.keepIn X.K (.ref f)=true)(B:Binds X.K fd ps ds)(n:Vals dvs ds)(i:xk CX X E)(u:PA X (e::es) t)(b:dq x:=by decide)(j:Zc X e es:=by rfl)(c:(backTo pos (starEach es X.env)).any (·.1)=false:=by rfl):
 PE X (.Call (.Name x p) (e::es) [] pos) (xj sp dvs E t):=by
 intro m s o H Q I h;refine wpAny_Call_Name_kw (GX I l w (W.callWith_K I.ok.mod.kin v (aS (u pos _ s o H _ I h) λD A d=>?_) j c) b);obtain⟨C,z,g,r,q⟩:=d;exact⟨g.kIn,xl F y B n i g r q⟩
structure Mk(K:W7)(C f:Addr):Prop where
 makes:W.makesIn K C=true
 init:W.findIn K (.ref C) "__init__"=some (some (.ref f))
 fn:W.isFn K (.ref f)=true
 kp:W.keepIn K (.ref C)=true
end
def PK(X:Cx)(kws:List Keyword)(t:TA):Prop:=
 ∀(pos:Pos) (pins:AD) (s:Shared) (σ:St) (H:Hp) (Q:AQ->Hp->Prop),Inv X pins σ H s->t σ H Q->Zh X (evalAll ((backToKw pos (keywordEach kws X.env)).map (·.2))) (AP X pins σ Q) X.xe s
section
variable {CX:iq}{k:Nat}{f C:Addr}{fd:FuncData}{ps ks:AL}{sp:Sp}{E:XK}{x m:Str}{p kpos:Pos}{e o:Expr}{kws:List Keyword}{te ta:TE}{t tk:TA}{nm:Option Str}
structure xn(K:W7)(fd:FuncData)(ps ks:AL)(g:AE->AE->AE)(gV:AQ->AQ->AQ):Prop where
 to:∀(s:Shared) (us ws:AE),K.In s.heap->(g us ws).length=ps.length->BindsTo s fd ⟨us,ks.zip ws⟩ (ps.zip (g us ws))
 rel:∀{vs:AQ}{us:AE}{zs:AQ}{ws:AE},Vals vs us->Vals zs ws->Vals (gV vs zs) (g us ws)
variable {g:AE->AE->AE}{gV:AQ->AQ->AQ}
end
structure ir(N P:AL)(sc:Scope):Prop where
 kind:sc.kind=.function
 co:sc.isCoroutine=false
 gen:sc.isGenerator=false
 nd:N.Nodup
 pre:N.take P.length=P
 par:∀x∈P,sc.names.lookup x=some .local\/sc.names.lookup x=some .cell
 nofree:∀y∈sc.names,y.2≠.free
theorem Hf{kindOf:Str->Option NameKind}:∀{a:List (Str×Value)}{m:AF},(∀v,(x,v)∉a)->bindL kindOf a m x=m x
 | [],_,_=>rfl
 | (n,v)::r,m,h=>by
   unfold bindL;rw[Hf λw b=>h w (qg _ b)]
   split
   .grind
   .rfl
theorem Hg{kindOf:Str->Option NameKind}:∀{a:List (Str×Value)}{m:AF},(∀v,(x,v)∉a)->bindC kindOf a m x=m x
 | [],_,_=>rfl
 | (n,v)::r,m,h=>by
   unfold bindC;rw[Hg λw b=>h w (qg _ b)]
   split
   .rfl
   symm
theorem Hh{kindOf:Str->Option NameKind}:∀{P:AL}{vs:AE}{i:Nat}{m:AF},P.Nodup->P[i]?=some x->vs[i]?=some v->kindOf x=some .local->
 bindL kindOf (P.zip vs) m x=some v
 | [],_,_,_,_,h,_,_=>by simp at h
 | _::_,[],_,_,_,_,h,_=>by simp at h
 | p::P,w::vs,0,m,c,b,a,d=>by
   simp at b a;subst b a;show bindL _ (_::P.zip vs) m p=_;unfold bindL;rw[Hf λv e=>(List.nodup_cons.mp c).1 (List.of_mem_zip e).1,if_pos d];simp
 | p::P,w::vs,i+1,m,c,b,a,d=>by
   unfold bindL;exact Hh (List.nodup_cons.mp c).2 (by simpa using b) (by simpa using a) d
theorem Hi{kindOf:Str->Option NameKind}:∀{P:AL}{vs:AE}{i:Nat}{m:AF},P.Nodup->P[i]?=some x->vs[i]?=some v->kindOf x≠some .local->
 bindC kindOf (P.zip vs) m x=some v
 | [],_,_,_,_,h,_,_=>by simp at h
 | _::_,[],_,_,_,_,h,_=>by simp at h
 | p::P,w::vs,0,m,c,b,a,d=>by
   simp at b a;subst b a;show bindC _ (_::P.zip vs) m p=_;unfold bindC;rw[Hg λv e=>(List.nodup_cons.mp c).1 (List.of_mem_zip e).1,if_neg d];simp
 | p::P,w::vs,i+1,m,c,b,a,d=>by
   unfold bindC;exact Hi (List.nodup_cons.mp c).2 (by simpa using b) (by simpa using a) d
noncomputable def start(N:AL)(vs:AQ):St:=vs.map some++List.replicate (N.length-vs.length) none
noncomputable def dQ(CX:iq)(P:P7)(w:World)(K:W7)(mg:AF)(base:Heap)(N:AL)(b:Str)(a:Scope)(f:Addr)(d:Value)(A:Around)(outer:List Env)(s:Shared)(H:Hp)(E:XK):Cx where
 prog:=P
 w:=w
 K:=K
 mg:=mg
 base:=base
 A:=A.deeper (envOfC b a (~~~s) f d)
 N:=N
 s₀:=s
 H₀:=H
 env:=envOfC b a (~~~s) f d
 outer:=outer
 stack:=envOfC b a (~~~s) f d::outer
 ex:=[]
 calm:=true
 fn:=λ_=>true
 pn:=[]
 xe:=λe i=>wpAny (mZ P w) (A.deeper (envOfC b a (~~~s) f d)) (leaving (envOfC b a (~~~s) f d) e) (λ_ c=>CX outer H s E e c) (λh c=>CX outer H s E h c) i
def Hj{b:Scope}(h:b.names.lookup x=some .cell):∃c,(cellsFrom n b.names []).lookup x=some c:=Option.isSome_iff_exists.mp (PySem.W.cellsFrom_some _ n [] (.inl h))
theorem Nz{K:W7}(S:ir N Y a)(M:A.handled=none)(l:gP P w K J m A j s H)(V:vs.length=Y.length)(r:Vals vs us)(x:InCallC s (~~~s) (bindL (envOfC g a (~~~s) f F).kindOf (Y.zip us) λ_=>none) (cellsFrom (~~~s+1) a.names []) (bindC (envOfC g a (~~~s) f F).kindOf (Y.zip us) λ_=>none) R):
 Inv (dQ CX P w K J m N g a f F A j s H E) [] (start N vs) H R:=by
 have O:Y.length<=N.length:=by have:=congrArg List.length S.pre;grind
 obtain⟨C,Z,rfl,G⟩:=x.done;have n:∀b,b∉(dQ CX P w K J m N g a f F A j s H E).ex:=λb z=>absurd (show b∈([]) from z) nofun
 refine⟨⟨l.mod,S.kind,rfl,rfl,qv _,λy z c C D=>?_,λy o=>?_,λy c _ h=>?_,λ_=>M,Around.frames_deeper l.frames,.inr ⟨rfl,rfl⟩,λb z=>absurd z (n b),l.bs,l.bsz,λb _ _=>n b,λb z=>absurd z (n b),l.funs,l.frf⟩,
  rfl,l.bare,Un.kept G,⟨_,x.toInCall.ns,λi y v C D T=>?_⟩,λy c h=>⟨_,x.cell y c h⟩,l.hok.fresh (qv _),λy c h=>?_,λp t=>absurd (show p∈([]) from t) nofun,l.hok.kept G,?_⟩
 .exact name_of_addr x.apart (PySem.mem_of_lookup C) (PySem.mem_of_lookup D)
 .rcases o with o|o
  .exact Hj o
  .exact absurd rfl (S.nofree _ (PySem.mem_of_lookup o))
 .exact Nat.le_of_lt (x.above y c (PySem.mem_of_lookup h))
 .have U:i<vs.length:=by
   unfold start at D;grind
  have Q:vs[i]?=some v:=by
   unfold start at D;grind
  obtain⟨u,I,L⟩:=r.get Q
  have t:Y[i]?=some y:=by
   rw[<-S.pre,List.getElem?_take_of_lt (by ext)];exact C
  have B:Y.Nodup:=by rw[<-S.pre];exact S.nd.sublist (List.take_sublist _ _)
  refine⟨u,L,?_⟩;rcases S.par y (List.mem_of_getElem? t)with k|k
  .exact .inl ⟨k,Hh B t I k⟩
  .obtain⟨c,e⟩:=Hj k
   refine .inr ⟨.inl k,c,e,?_⟩;have q:=x.cell y c e;rw[Hi B t I (by show a.names.lookup y≠_;grind)]at q;exact q
 .exact l.hok.fresh (Nat.le_of_lt (x.above y c (PySem.mem_of_lookup h)))
 .unfold start
  show _=N.length
  ext
theorem xo{K:W7}{T kV y R h I Y:Value}(X:K.lookup f=some ⟨Y,od,.func (W.fnOf name g i j c T kV y R Z h I),osl⟩)(G:W.codeIn K h g=true)(S:ir N ps c)(B:∀vs H Q E,sp vs H Q E->vs.length=ps.length)(m:∀(A:Around) (a:List Env) (s:Shared) (H:Hp) (vs:AQ) (Q:VK) (E:XK),Room k (A.deeper (envOfC g c (~~~s) f h))->sp vs H Q E->
   ∃t,PSs (dQ CX P w K L l N g c f h A a s H E) j t/\t {nx:=λ_ H'=>Q .non H',rt:=Q} (start N vs) H):
  cA P w K L l CX (k+1) f (W.fnOf name g i j c T kV y R Z h I) ps sp:=by
  refine⟨B,λA a s H M us vs Q E D C hb r z=>?_⟩;have O:=C.mod.kin.keeps λb o e=>(C.bs b o e).1
  refine codeAny_call_function D.depth (O _ _ X) rfl S.co S.gen rfl (W.codeRec_of O G) (hb _ _ _ _ (wpAny_newFunctionEnv_cells S.kind (λ⟨n,v⟩ U=>by
   rcases S.par n (List.of_mem_zip U).1 with q|q
   .exact .inl q
   .exact .inr ⟨q,PySem.W.cellsFrom_some _ _ _ (.inl q)⟩) λenv d s1 x=>?_))
  subst d;refine⟨(C.mod.nolimit.keeps λb o e=>(C.bs b o e).1).keeps x.toInCall.keep,codeAny_func ?_⟩;obtain⟨t,ht,hq⟩:=m A a s H vs Q E (D.deeper _) z;refine wv (ht [] s1 _ H _ (Nz S D.hd C (B _ _ _ _ z) r x) hq) (λfl s' hs=>?_) λe s' hs=>hs
  have p:∀{σ':St}{H':Hp}{v:V}{u:_},Inv (dQ CX P w K L l N g c f h A a s H E) [] σ' H' s'->_->Q v H'->CE a P w H s Q u s':=
   λ{σ' H' v u} J F q=>⟨v,H',J.os,J.bare,J.base,J.hok,F,q⟩
  cases fl with
  | ret u=>
    obtain⟨v,σ',H',J,F,q⟩:=hs;exact p J F q
  | next=>
    obtain⟨σ',H',J,q⟩:=hs;exact p (v:=.non) J rfl q
  | brk=>
    obtain⟨_,_,_,q⟩:=hs;grind
  | cont=>
    obtain⟨_,_,_,q⟩:=hs;grind
section
variable {x:Str}{p:Pos}{e:Expr}{t:TA}{id T:String}{r:AQ->Hp->VK->Prop}
def pW(r:AQ->Hp->VK->Prop)(t:TA):TE:=λb H Q=>t b H λc a=>r c a Q
abbrev Zd(X:Cx)(p:Pos)(s:List Expr):Prop:=(backTo p (starEach s X.env)).any (·.1)=false
theorem kF(i:dz X (.builtin id) r)(j:Gl X x)(v:X.mg x=none)(m:bootBuiltins x=some (.builtin id))(n:PA X (e::es) t)(l:x≠"__name__":=by decide)(b:dq x:=by decide)(g:Zc X e es:=by rfl)(d:Zd X pos es:=by rfl):PE X (.Call (.Name x p) (e::es) [] pos) (pW r t):=by
 intro y s w H Q I h;refine wpAny_Call_Name_kw (kB I j v m (PyProof.Rows.callWith_builtin1 (aS (n pos _ s w H _ I h) λA k c=>?_) g d) l b);obtain⟨z,f,q,o,u⟩:=c;exact i _ k w f z A Q q o u
theorem i7(i:dz X (.type T) r)(j:Gl X x)(v:X.mg x=none)(m:bootBuiltins x=some (.type T))(n:PA X (e::es) t)(l:x≠"__name__":=by decide)(b:dq x:=by decide)(g:Zc X e es:=by rfl)(d:Zd X pos es:=by rfl):PE X (.Call (.Name x p) (e::es) [] pos) (pW r t):=by
 intro y s w H Q I h;refine wpAny_Call_Name_kw (kB I j v m (PyProof.Rows.callWith_type1 (aS (n pos _ s w H _ I h) λA k c=>?_) g d) l b);obtain⟨z,f,q,o,u⟩:=c;exact i _ k w f z A Q q o u
end
section
variable {κ:Type}[DecidableEq κ]
noncomputable def cL(a:List (κ×V))(k:κ):Option V:=(a.find? λb=>decide (b.1=k)).map (·.2)
noncomputable def dR(a:List (κ×V))(k:κ)(v:V):List (κ×V):=
 if (a.any λb=>decide (b.1=k))=true then a.map (λb=>if b.1=k then (b.1,v)else b)else a++[(k,v)]
def xp{k:κ}(e:p.1=k):cL (p::r) k=some p.2:=by simp[cL,e]
def xq{k:κ}(e:¬p.1=k):cL (p::r) k=cL r k:=by simp[cL,e]
theorem NA(a:List (κ×V))(k:κ)(v:V):(dR a k v).length<=a.length+1:=by
 unfold dR
 split<;>ext
def RelO.isSome_eq(r:RelO o u):o.isSome=u.isSome:=by
 cases o with
 | none=>cases u with
   | none=>rfl
   | some _=>exact(r).elim
 | some _=>cases u with
   | none=>exact(r).elim
   | some _=>rfl
def RelO.getD(r:RelO o u)(a:RelV d b):RelV (o.getD d) (u.getD b):=by
 cases o with
 | none=>cases u with
   | none=>exact a
   | some _=>exact(r).elim
 | some _=>cases u with
   | none=>exact(r).elim
   | some _=>exact r
theorem KV.val(r:KV a vs)(k:κ):RelO (cL a k) (valueAt vs k):=by
 induction r with
 | nil=>exact .intro
 | @cons p q j c h t i=>
   obtain⟨f,g⟩:=h;by_cases e:p.1=k
   .have d:=f.symm.trans e
    have b:valueAt (q::c) k=some q.2:=by simp[valueAt,d]
    rwa [xp e,b]
   .have d:¬_:=λz=>e (f.trans z)
    have b:valueAt (q::c) k=valueAt c k:=by simp[valueAt,d]
    rwa [xq e,b]
theorem KV.any(r:KV b vs)(k:κ):(b.any λa=>decide (a.1=k))=vs.any λa=>decide (a.1=k):=by
 induction r with
 | nil=>rfl
 | cons h t c=>ext
theorem KV.repl(r:KV b vs)(k:κ)(d:RelV y u):
 KV (b.map λa=>if a.1=k then (a.1,y)else a) (vs.map λa=>if a.1=k then (a.1,u)else a):=by
 induction r with
 | nil=>exact .nil
 | @cons p q f e h t c=>
   refine .cons ?_ c;symm
def KV.put(r:KV a vs)(k:κ)(b:RelV y u):KV (dR a k y) (stored vs k u):=by
 unfold dR stored;rw[r.any k];by_cases e:(vs.any λc=>decide (c.1=k))=true
 .rw[if_pos e,if_pos e];exact r.repl k b
 .rw[if_neg e,if_neg e];exact .snoc r ⟨rfl,b⟩
end
def lT(r:RelV (kV k) u):(c9 P w).is k u=true:=by
 cases k with
 | inl i=>obtain⟨t,e⟩:=r;subst e;exact M9 P w i t
 | inr x=>obtain⟨t,e⟩:=r;subst e;exact M_ P w x t
theorem Hk:∀{ks:List bT}{us:AE},Vals (ks.map kV) us->ItemsAre (c9 P w) ks us
 | [],_,r=>by cases r;exact .nil
 | k::ks,_,r=>by
   cases r with
   | cons h t=>exact .cons (lT h) (Hk t)
abbrev KT(H:Hp):List (List bT×V)->List (List bT×Addr×Value)->Prop:=Paired λp q=>p.1=q.1/\H q.2.1=some (.tup (p.1.map kV))/\RelV p.2 q.2.2
theorem KT.val(r:KT H a xs)(k:List bT):RelO (cL a k) ((atKey xs k).map (·.2)):=by
 induction r with
 | nil=>exact .intro
 | @cons p q j c h t i=>
   obtain⟨f,_,g⟩:=h;by_cases e:p.1=k
   .have d:=f.symm.trans e
    have b:atKey (q::c) k=some q.2:=by simp[atKey,d]
    rwa [xp e,b]
   .have d:¬_:=λz=>e (f.trans z)
    have b:atKey (q::c) k=atKey c k:=by simp[atKey,d]
    rwa [xq e,b]
section
variable {P:P7}{w:World}{H:Hp}{h:Heap}{a:Addr}
def lU(b:HOk P w H h)(e:Rd H a u):ObjOk P w H h a u:=e.ok b
def kG(c:HOk P w H h)(e:Rd H a (.dK b)):b.length<=sizeLine/\(a==sysModules)=false/\∃vs,KV b vs/\h.DictOf (c9 P w) a vs:=
 lU c e
def xt(c:HOk P w H h)(e:H a=some (.dK b)):b.length<=sizeLine/\(a==sysModules)=false/\∃vs,KV b vs/\h.DictOf (c9 P w) a vs:=kG c (.inl e)
def pX(f:HOk P w H h)(e:H a=some (.tup (ks.map kV))):(tupleKind (c9 P w)).is h ks a:=by
 obtain⟨_,g,r,o,b,d,n,c⟩:=f a _ e;exact⟨o,g.toArray,n,b,d,c,by simpa using Hk r⟩
theorem lV(d:HOk P w H h)(e:Rd H a (.dT b)):b.length<=sizeLine/\(a==sysModules)=false/\
 ∃xs,KT H b xs/\h.DictOfH (tupleKind (c9 P w)) a xs:=by
 obtain⟨z,y,xs,r,o,s,i,k,n,u,j,f⟩:=lU d e;refine⟨z,y,xs,r,o,s,i,k,n,u,j,λx c=>?_,f⟩
 have g:∀{l:_}{m:_},KT H l m->∀x∈m,(tupleKind (c9 P w)).is h x.1 x.2.1:=by
  intro l m q
  induction q with
  | nil=>grind
  | @cons p q C B A t v=>
    intro x c;rcases qu c with e|c
    .exact pX d (by ext)
    grind
 grind
end
def DGet(H:Hp)(a:Addr)(y:V)(r:Option V):Prop:=
 (∃c k,Rd H a (.dK c)/\y=kV k/\r=cL c k)\/∃c k b,Rd H a (.dT c)/\y=.ref b/\H b=some (.tup (k.map kV))/\r=cL c k
def DGet.k{k:bT}(e:H a=some (.dK b)):DGet H a (kV k) (cL b k):=.inl ⟨b,k,.inl e,rfl,rfl⟩
section
variable {σ:St}{H:Hp}{s:Shared}{a:Addr}{y v:V}{u r:Value}{o:Option V}{A:Around}{E:AC}
def Inv.big(I:Inv X pins σ H s):sysModules< ~~~s:=Nat.lt_trans (by decide) ((I.mod.glob.keeps I.bk).lt)
def NB(w:A.units+1<cLine)(I:Inv X pins σ H s)(g:DGet H a y (some v))(t:RelV y u)(h:∀f s',Inv X pins σ H s'->RelV v f->Q f s'):
 wpAny (mZ X.prog X.w) A (getItem (.ref a) u) Q E s:=by
 rcases g with⟨n,k,e,j,l⟩|⟨n,k,b,e,j,C,l⟩
 .subst j
  obtain⟨z,x,o,d,i⟩:=kG I.hok e;obtain⟨f,m,c⟩:=RelO.some_of (by rw[l];exact d.val k);exact wpAny_getItem_of (lT t) i.mapOf m (h f _ (I.tok _) c)
 .subst j
  cases (t);obtain⟨z,x,r,d,i⟩:=lV I.hok e;obtain⟨f,m,c⟩:=RelO.some_of (by rw[l];exact d.val k);obtain⟨p,B,q⟩:=qc m;refine wpAny_getItem_heap (tupleKind_room_in1 w) (pX I.hok C) i B ?_;rw[q];exact h f _ (I.tok _) c
def xu(n:A.units+1<cLine)(I:Inv X pins σ H s)(g:DGet H a y o)(m:RelV y u)(h:∀s',Inv X pins σ H s'->Q (.bool (!o.isSome)) s'):
 wpAny (mZ X.prog X.w) A (compareOp .NotIn u (.ref a)) Q E s:=by
 rcases g with⟨d,k,e,j,l⟩|⟨d,k,b,e,j,p,l⟩
 .subst j
  obtain⟨z,i,r,c,f⟩:=kG I.hok e;refine wpAny_notIn_of (lT m) i f.mapOf ?_;rw[<-(c.val k).isSome_eq,<-l];exact h _ (I.tok _)
 .subst j
  cases (m);obtain⟨z,i,t,c,f⟩:=lV I.hok e;refine wpAny_notIn_heap (tupleKind_room_in1 n) (pX I.hok p) i f ?_;have q:=(c.val k).isSome_eq;rw[Option.isSome_map]at q;rw[<-q,<-l];exact h _ (I.tok _)
def Hm(I:Inv X pins σ H s)(e:lG (H a))(hs:Heap.SameBut a s.heap h')(g:∃q,h'.get? a=some q)(c:ObjOk X.prog X.w (upd H a d) h' a d):
 Inv X pins σ (upd H a d) {s with heap:=h',toks:=t' }:=
 I.write e (.inl rfl) (λb q f z=>(hs.2 b f).trans z) g c
def xw(z:b.length<=sizeLine)(d:(a==sysModules)=false)(c:KV b vs)(e:f.DictOf (c9 P w) a vs):
 ObjOk P w H' f a (.dK b):=⟨z,d,vs,c,e⟩
end
def lW(i:Expr):Prop:=∀a b,subscripted i false a b=operate [a,b] (getItem a b)
def xx{T id:String}(m:typeLookup (.type T) "__getitem__"=pure (some (.builtin id)))(hs:lW a)(h:wpAny (mZ prog w) A (eval c env) (λo e=>wpAny (mZ prog w) A (eval a env) (λi b=>b.TypeIs o T/\wpAny (mZ prog w) A (getItem o i) Q E b) E e) E s):
 wpAny (mZ prog w) A (eval (.Subscript c a l) env) Q E s:=by
 refine Subscript_ (wv h (λo e k=>wv k (λi b d=>?_) λ_ _ x=>x) λ_ _ x=>x);obtain⟨n,d⟩:=d;refine wa (wa (wpAny_specialOf n m ?_))
 have g:wpAny (mZ prog w) A (subscripted a false o i) (λr f=>wpAny (mZ prog w) A (letTemporaryGo c o r>>=λ_=>pure r) Q E f) E b:=by
  rw[hs o i];exact wpAny_operating (wv d (λr f j=>wa (wpAny_letTemporaryGo (wb j))) λ_ _ x=>x)
 first
  | exact wb (wa g)
  | exact wa _
  | exact wa g
def NC{σ:St}(I:Inv X pins σ H s)(g:DGet H a y o):s.TypeIs (.ref a) "dict":=by
 rcases g with⟨c,k,e,_,_⟩|⟨c,k,b,e,_,_,_⟩
 .obtain⟨_,_,f,_,d⟩:=kG I.hok e
  exact d.typeIs
 .obtain⟨_,_,h,_,d⟩:=lV I.hok e
  exact d.typeIs
def lX:List (TE×TE)->St->Hp->(List (V×V)->Hp->Prop)->Prop
 | [],_,H,Q=>Q [] H
 | (tk,a)::r,σ,H,Q=>tk σ H λx c=>a σ c λy b=>lX r σ b λps d=>Q ((x,y)::ps) d
abbrev VV:List (V×V)->List (Value×Value)->Prop:=Paired λp q=>RelV p.1 q.1/\RelV p.2 q.2
def ND(X:Cx)(c:Pos)(b:List (Option Expr))(a:AM)(d:List (TE×TE)):Prop:=
 ∀(e:List _) (s:Shared) (f:St) (H:Hp) (Q:List _->Hp->Prop),Inv X e f H s->lX d f H Q->
  Zh X (evalPairs (pairTrees b a X.env c)) (λi j=>∃h g,Inv X e f g j/\VV h i/\Q h g) X.xe s
structure M1(X:Cx)(o:Expr)(m:Str)(apos:Pos)(e:Expr)(cpos:Pos):Prop where
 base:attributeBase o m X.env (eval o X.env)=eval o X.env
 few:((backTo cpos (starEach [e] X.env)).all (λx=>!x.1)&&(backToKw cpos (keywordEach [] X.env)).all (λx=>x.1.isSome)
  &&decide (([e]:AM).length+([]:List Keyword).length+(if ([]:List Keyword).isEmpty then 0 else 1)<30))=true
 line:(apos.endLine==cpos.line)=true
 trees:backTo cpos (starEach [e] X.env)=[(false,eval e X.env)]
structure M2(X:Cx)(o:Expr)(m:Str)(apos:Pos)(e f:Expr)(cpos:Pos):Prop where
 base:attributeBase o m X.env (eval o X.env)=eval o X.env
 few:((backTo cpos (starEach [e,f] X.env)).all (λx=>!x.1)&&(backToKw cpos (keywordEach [] X.env)).all (λx=>x.1.isSome)
  &&decide (([e,f]:AM).length+([]:List Keyword).length+(if ([]:List Keyword).isEmpty then 0 else 1)<30))=true
 line:(apos.endLine==cpos.line)=true
 trees:backTo cpos (starEach [e,f] X.env)=[(false,eval e X.env),(false,eval f X.env)]
def Hn(H:Hp)(a:Addr):Prop:=(∃b,Rd H a (.dK b))\/∃b,Rd H a (.dT b)
def xy{σ:St}(I:Inv X pins σ H s)(d:Hn H a):
 s.TypeIs (.ref a) "dict"/\(∀b,Value.ref a=.ref b->∃c,s.heap.get? b=some c/\c.dict=none)/\(a==sysModules)=false:=by
 rcases d with⟨i,e⟩|⟨i,e⟩
 .obtain⟨_,g,k,_,f⟩:=kG I.hok e
  refine⟨f.typeIs,λb q=>?_,g⟩;cases q;obtain⟨c,_,_,h,j,_⟩:=f;exact⟨c,h,j.2.1⟩
 .obtain⟨_,g,l,_,f⟩:=lV I.hok e
  refine⟨f.typeIs,λb q=>?_,g⟩;cases q;obtain⟨c,_,_,h,j,_⟩:=f;exact⟨c,h,j.2.1⟩
section
variable {σ:St}{H:Hp}{s:Shared}{a:Addr}{y d:V}{u r:Value}{o:Option V}{A:Around}{E:AC}
def xA(w:A.units+1<cLine)(I:Inv X pins σ H s)(g:DGet H a y o)(q:RelV y u)(p:RelV d r)(h:∀t s',Inv X pins σ H s'->RelV (o.getD d) t->Q t s'):
 wpAny (mZ X.prog X.w) A (call (.builtin "dict.get") [.ref a,u,r]) Q E s:=by
 rcases g with⟨n,k,e,m,l⟩|⟨n,k,b,e,m,v,l⟩
 .subst m
  obtain⟨z,j,B,f,i⟩:=kG I.hok e;refine call_meetsIn PySem.F.slot_dict_get i.typeIs PySem.F.entry_dict_get (PySem.F.args_dict_get_3 _ _ _) (meets_dict_get_default _ a (lT q) j r) ⟨_,i.mapOf,h _ _ (I.tok _) ?_⟩;rw[l];exact(f.val k).getD p
 .subst m
  cases (q);obtain⟨z,j,x,f,i⟩:=lV I.hok e;refine call_meetsIn PySem.F.slot_dict_get i.typeIs PySem.F.entry_dict_get (PySem.F.args_dict_get_3 _ _ _) (meetsH_dict_get_default _ a b j r) ⟨tupleKind_room_in1 w,k,x,pX I.hok v,i,h _ _ (I.tok _) ?_⟩;rw[l];exact(f.val k).getD p
end
def xB(f e d:TE):TE:=λh H Q=>f h H λx c=>∃a,x=.ref a/\Hn c a/\e h c λy g=>d h g λz b=>∃o,DGet b a y o/\Q (o.getD z) b
section
variable {o e f:Expr}{td ty tx:TE}
def NF(w:X.A.units+1<cLine)(A:PE X o td)(r:PE X e ty)(G:PE X f tx)(m:M2 X o "get" apos e f cpos):PE X (.Call (.Attribute o "get" apos) [e,f] [] cpos) (xB td ty tx):=by
 intro Z s Y H Q I h;refine wpAny_Call_method m.base m.few m.line PySem.F.plainAttrs_dict PySem.F.slot_dict_get PySem.F.type_dict_get (aS (A _ s Y H _ I h) λu v c=>?_);obtain⟨x,B,k,L,a,q,d,C⟩:=c;subst q;obtain rfl:=L;obtain⟨K,D,_⟩:=xy k d;refine⟨K,D,?_⟩;rw[m.trees];refine Calls.callWith_builtin rfl (Calls.evalArgs_plain (Calls.spliced_cons (aS (r _ v Y B _ k C) λP t c=>?_)));obtain⟨y,J,n,l,N⟩:=c;refine Calls.spliced_cons (aS (G _ t Y J _ n N) λV S c=>?_);obtain⟨z,E,p,O,U,g,F⟩:=c;exact Calls.spliced_nil (xA w p g l O λR T M j=>⟨_,E,M,j,F⟩)
end
end L2
namespace HT
open PySem PyProof.Rows
section
variable {prog:P7}{w:World}{A:Around}{E:AC}{s:Shared}
theorem cat_tup(r:IsTup s.heap t vs.toArray)(u:IsTup s.heap b d.toArray)(y:vs≠[])(v:d=[]->Q (.ref t) s)(x:d≠[]->Q (.ref (~~~s)) {s with heap:=s.heap.push {cls:=.type "tuple",data:=.seq (vs++d).toArray} })(hsz:vs.length+d.length<=sizeLine):wpAny (mZ prog w) A (binaryOp .Add (.ref t) (.ref b)) Q E s:=by
 obtain⟨⟨cls,m,data,l⟩,i,o,n,k⟩:=id r;obtain⟨⟨p,g,data2,h⟩,c,f,q,e⟩:=id u;simp at o k f e;subst o k f e;by_cases j:d=[]
 .exact concat_meets ⟨_,i,rfl⟩ ⟨_,c,rfl⟩ noFill_tuple_add seq_tuple_add PySem.F.slot_tuple_add PySem.F.entry_tuple_add (PySem.F.args_tuple_add_2 _ _)
   (tuple_addW1 t b _ _ n q m g l h (by grind) (by simp[j])) ⟨i,c,v j⟩
 .refine concat_meets ⟨_,i,rfl⟩ ⟨_,c,rfl⟩ noFill_tuple_add seq_tuple_add PySem.F.slot_tuple_add PySem.F.entry_tuple_add (PySem.F.args_tuple_add_2 _ _)
   (tuple_addW2 t b _ _ n q m g l h (by grind) (by grind) (by omega)) ⟨i,c,?_⟩
  ext
noncomputable def sIx(n d:Nat):Option Int->Nat
 | none=>d
 | some v=>if v<0 then (v+n).toNat else min v.toNat n
def sIx_none(n d:Nat):sIx n d none=d:=rfl
theorem sIx_nat(n d k:Nat):sIx n d (some (k:Int))=min k n:=by
 show(if k<0 then (k+(n:Int)).toNat else _)=_;constructor<;>ac_nf
theorem xC(n d:Nat)(hd:d<=n)(o:Option Int):sIx n d o<=n:=by
 cases o with
 | none=>exact hd
 | some v=>
   show(if v<0 then (v+(n:Int)).toNat else min v.toNat n)<=n;by_cases hv:v<0
   .rw[if_pos hv];ac_nf
   .rw[if_neg hv];exact Nat.min_le_right _ _
theorem Ho(v:Int)(n d:Nat):(if v<0 then max (v+(n:Int)) 0 else min v (n:Int))=((sIx n d (some v):Nat):Int):=by
 show(if v<0 then _ else min v _)=(((if v<0 then (v+n).toNat else min v.toNat n)));grind
def NG(lo a:Option Int)(n:Nat):Builtin.Slice.sliceAdjust lo a 1 (n:Int)=(((sIx n 0 lo:Nat):Int),((sIx n n a:Nat):Int)):=by
 refine Prod.ext ?_ ?_
 .cases lo with
  | none=>rfl
  | some v=>exact Ho v n 0
 .cases a with
  | none=>rfl
  | some v=>exact Ho v n n
theorem NH(i j:Nat):Builtin.Slice.slicePlaces (i:Int) (j:Int) 1=j-i:=by
 unfold Builtin.Slice.slicePlaces
 ext<;>lia
def Hq(p:IsPart v o)(h:Q o s):wpAny (mZ prog w) A (Builtin.Slice.slicePartIndex v) Q E s:=by
 cases p with
 | none=>exact slicePart_none h
 | int i t=>exact slicePart_int h
def sliceApplied_gen{lo c:Option Int}{Q:Int×Int×Nat->Shared->Prop}(hs:s.heap.IsSliceOf g e d .none)(f:IsPart e lo)(j:IsPart d c)(h:Q (((sIx n 0 lo:Nat):Int),1,sIx n n c-sIx n 0 lo) s):wpAny (mZ prog w) A (Builtin.Slice.sliceApplied (.ref g) (pure (n:Int))) Q E s:=by
 obtain⟨os,a,i,b⟩:=id hs;refine wa (wa (wpAny_field a b (x:=e) rfl (wa (wpAny_field a b (x:=d) rfl (wa (wpAny_field a b (x:=.none) rfl (wb (wa (slicePart_none (wa (Hq f (wa (Hq j (wa (wb ?_)))))))))))))));show wpAny _ _ (match Builtin.Slice.sliceAdjust lo c 1 _ with|(lo,c)=>pure (lo,_,Builtin.Slice.slicePlaces lo c 1)) _ _ s;rw[NG lo c n];show wpAny _ _ (pure _) _ _ s;rw[NH];exact wb h
theorem NI(xs:Array Value)(i k:Nat):((List.range k).filterMap fun(m:Nat)=>xs[((i:Int)+(m:Int)*1).toNat]?).toArray=((xs.toList.drop i).take k).toArray:=by
 have e:(fun(m:Nat)=>xs[((i:Int)+(m:Int)*1).toNat]?)=λm=>xs[i+m]?:=by
  funext m
  have:((i:Int)+(m:Int)*1).toNat=i+m:=by lia
  rw[this]
 rw[e];have:=pick_run xs i k;rw[List.filterMap_map]at this;have e2:((λx=>xs[x]?) ∘ λx=>i+x)=λm=>xs[i+m]?:=rfl;rw[e2]at this;rw[this]
theorem getItem_tuple_cut{lo d:Option Int}(e:IsTup s.heap t a)(hs:s.heap.IsSliceOf k o n .none)(m:IsPart o lo)(l:IsPart n d)(q:¬(sIx a.size 0 lo=0/\sIx a.size a.size d=a.size))(h:Q (.ref (~~~s)) {s with heap:=s.heap.push {cls:=.type "tuple",data:=.seq ((a.toList.drop (sIx a.size 0 lo)).take (sIx a.size a.size d-sIx a.size 0 lo)).toArray} })(hsz:a.size<=sizeLine):wpAny (mZ prog w) A (getItem (.ref t) (.ref k)) Q E s:=by
 have c:=by
  show((a.toList.drop (sIx a.size 0 lo)).take (sIx a.size a.size d-sIx a.size 0 lo)).toArray.size<=sizeLine
  (simp at*;lia)
 obtain⟨os,f,i,p⟩:=id hs
 have g:s.TypeIs (.ref k) _:=⟨os,f,i⟩
 unfold getItem
 try with_reducible refine wc ?_
 refine wa (wpAny_sequenceKey e.typeIs (by decide) ?_)
 refine wa (wpAny_callSpecial?_slot e.typeIs PyProof.Rows.slot_tuple_getitem
  (wd PyProof.Rows.slot_tuple_getitem e.typeIs entry_tuple_getitem ?_ (args_tuple_getitem _ _)))
 show wpAny _ _ (Builtin.Tuple.tupleItemsOf _>>=_) _ _ s;refine wa (tupleItemsOf_ e ?_);refine wa (wpAny_typeOf g ?_);refine wa (sliceApplied_gen hs m l ?_)
 have j:¬((((sIx a.size 0 lo):Int)==0&&(1:Int)==1&&(sIx a.size a.size d-sIx a.size 0 lo)==a.size)=true):=by
  ext
 show wpAny _ _ (if _ then _ else _) _ _ s;rw[if_neg j,NI]
 first
  | exact wa (we (wb ⟨_,rfl,wb h⟩) c)
  | exact wa _
  | exact wa _
  | exact wa _
end
end HT
namespace L2
variable {X:Cx}{pins:AD}{pos apos cpos:Pos}{ys:AQ}{es:AM}
open PySem PySem.Spec PyProof.Rows
abbrev TO:=St->Hp->(Option Int->Hp->Prop)->Prop
def PO(X:Cx)(e:Option Expr)(t:TO):Prop:=
 ∀(a:List _) (s:Shared) (b:St) (H:Hp) (Q:Option Int->Hp->Prop),Inv X a b H s->t b H Q->
  Zh X (evalPart e X.env) (λu d=>∃o c,Inv X a b c d/\IsPart u o/\Q o c) X.xe s
def Hr:TO:=λ_ H Q=>Q none H
def lY(t:TE):TO:=λb H Q=>t b H λx a=>∃i,x=.int i/\Q (some i) a
theorem pY:∀{us:AE},Vals (ns.map V.int) us->IntsAre us ns:=by
 induction ns with
 | nil=>intro us r;cases r;exact .nil
 | cons n ns b=>
   intro us r
   cases r with
   | cons a c=>
     obtain⟨t,e⟩:=a;subst e;exact .cons n t (b c)
section
variable {e:Expr}{te:TE}{lo hi:Option Expr}{tl th:TO}{p2:Pos}
def xD:PO X none Hr:=by
 intro a s b H Q I h;exact wb ⟨none,H,I,.none,h⟩
def xE(h:PE X e te):PO X (some e) (lY te):=by
 intro k s l H Q I f;refine aS (h _ s l H _ I f) λu j a=>?_;obtain⟨x,g,c,b,d⟩:=a;obtain⟨i,rfl,q⟩:=d;obtain⟨t,rfl⟩:=b;exact⟨some i,g,c,.int i t,q⟩
def SlR(X:Cx)(r:V->Option Int->Option Int->Hp->VK->Prop):Prop:=
 ∀(d:List _) (s:Shared) (f:St) (H:Hp) (x:V) (v b a:Value) (lo e:Option Int) (c:Addr) (Q:VK),Inv X d f H s->RelV x v->s.heap.IsSliceOf c b a .none->IsPart b lo->IsPart a e->r x lo e H Q->
  ∃T id,typeLookup (.type T) "__getitem__"=pure (some (.builtin id))/\s.TypeIs v T/\Zh X (getItem v (.ref c)) (EP X d f Q) X.xe s
def SlR.or(h:SlR X r)(h':SlR X k):SlR X (λx lo hi H Q=>r x lo hi H Q\/k x lo hi H Q):=by
 intro f s g H x v d b lo hi c Q I i e j a q;rcases q with q|q
 .exact h _ s g H x v d b lo hi c Q I i e j a q
 .exact h' _ s g H x v d b lo hi c Q I i e j a q
def NJ(r:V->Option Int->Option Int->Hp->VK->Prop)(te:TE)(tl th:TO):TE:=λd H Q=>te d H λx c=>tl d c λl b=>th d b λu a=>r x l u a Q
def Hs(z:SlR X r)(E:PE X e te)(p:PO X lo tl)(F:PO X hi th):PE X (.Subscript e (.Slice lo hi none p2) pos) (NJ r te tl th):=by
 intro g s c H Q I h;refine Subscript_ (aS (E _ s c H _ I h) λv D a=>?_);obtain⟨x,y,m,K,A⟩:=a;refine wpAny_Slice (aS (p _ D c y _ m A) λf o a=>?_);obtain⟨l,M,B,n,L⟩:=a;refine aS (F _ o c M _ B L) λi d a=>?_;obtain⟨u,j,N,k,C⟩:=a;refine wb ?_;have t:Inv X _ c j {d with heap:=d.heap.push {cls:=.type "slice",data:=.fields #[f,i,.none]} }:=N.kept λb O q=>qe _ q;obtain⟨T,id,w,G,J⟩:=z _ _ c j x v f i l u d.heap.objs.size Q t K (.new ..) n k C;exact tail_any G w J (by with_unfolding_all rfl)
def ef(xs:AQ)(lo hi:Option Int):AQ:=(xs.drop (HT.sIx xs.length 0 lo)).take (HT.sIx xs.length xs.length hi-HT.sIx xs.length 0 lo)
theorem Ht(xs:AQ)(lo hi:Option Int):(ef xs lo hi).length<=xs.length:=by
 unfold ef
 ext<;>ac_nf
def xF(K:W7):V->Option Int->Option Int->Hp->VK->Prop:=λx lo d H Q=>∃a b,x=.ref a/\SqT K H a b/\
 ¬(HT.sIx b.length 0 lo=0/\HT.sIx b.length b.length d=b.length)/\∀p,H p=none->Q (.ref p) (upd H p (.tup (ef b lo d)))
def xG:SlR X (xF X.K):=by
 intro g s w H x v y A lo n z Q I m j k i h;obtain⟨a,l,rfl,p,t,q⟩:=h;cases m;obtain⟨e,r,f,o⟩:=I.tuple p;have c:e.toArray.size=_:=r.length.symm;refine⟨"tuple",_,PyProof.Rows.slot_tuple_getitem.lookup,f.typeIs,HT.getItem_tuple_cut f j k i (by rwa [c]) ?_ (by rwa [c])⟩;rw[c];refine⟨.ref _,_,I.laid (λb u q=>qe _ q) (qv _) ?_,rfl,q _ (I.hok.fresh (qv _))⟩;exact⟨Qg (Ht l lo n) o,_,(r.drop _).take _,.new _ _⟩
def xH(K:W7):R2:=λx y H Q=>∃a b d c,x=.ref a/\y=.ref b/\SqT K H a d/\SqT K H b c/\d≠[]/\d.length+c.length<=sizeLine/\
 (c=[]->Q (.ref a) H)/\(c≠[]->∀p,H p=none->Q (.ref p) (upd H p (.tup (d++c))))
def Vals.nil_iff(r:Vals xs us):us=[]↔xs=[]:=by
 cases r with
 | nil=>simp
 | cons _ _=>simp
def xI:bR X (binaryOp .Add) (xH X.K):=by
 intro f s A H x y v u Q I n l h;obtain⟨a,b,C,B,rfl,rfl,m,o,i,t,j,p⟩:=h;cases n;cases l;obtain⟨g,d,r,_⟩:=I.tuple m;obtain⟨e,c,k,_⟩:=I.tuple o;refine HT.cat_tup r k (λz=>i (d.nil_iff.mp z)) (λz=>⟨.ref a,H,I,rfl,j (c.nil_iff.mp z)⟩) (λz=>⟨.ref _,_,I.laid (λb E q=>qe _ q) (qv _) ?_,rfl,p (λw=>z (c.nil_iff.mpr w)) _ (I.hok.fresh (qv _))⟩) (by rwa [<-d.length,<-c.length]);exact⟨by rwa [qz],_,d.append c,.new _ _⟩
end
noncomputable def eR(n:Nat)(i:Int):AN:=if 0<=i then (if i<n then some i.toNat else none)else if -n<=i then some (i+n).toNat else none
def aX{a:Type}(xs:List a)(i:Int):Option a:=(eR xs.length i).bind λj=>xs[j]?
theorem xJ(h:eR n i=some j):seqIndex? i n=some j/\j<n/\-(n:Int)<=i/\i<n:=by
 unfold eR at h;by_cases b:0<=i
 .rw[if_pos b]at h
  by_cases a:i<n
  .rw[if_pos a]at h
   have e:=wx h;exact⟨by rw[seqIndex_of b a,e],by lia,by lia,a⟩
  ext
 .rw[if_neg b]at h
  by_cases a:-n<=i
  .rw[if_pos a]at h
   have e:=wx h;exact⟨by rw[seqIndex_neg (by lia) a,e],by lia,a,by lia⟩
  ext
theorem xK(h:aX xs i=some v):∃j,seqIndex? i xs.length=some j/\xs[j]?=some v/\j<xs.length/\-(xs.length:Int)<=i/\i<xs.length:=by
 unfold aX at h
 cases e:eR xs.length i with
 | none=>ext
 | some j=>
   obtain⟨a,d,c,b⟩:=xJ e
   ext
theorem pZ{j:Nat}(h:xs[j]?=some v):aX xs (j:Int)=some v:=by
 have a:=(qo h).1
 have e:eR xs.length j=some j:=by
  unfold eR;rw[if_pos (by lia),if_pos (by ext)];simp
 unfold aX;rwa [e]
def iu(b:Expr):Prop:=∀o i,subscripted b false o i=operate [o,i] (getItem o i)
def IxR(X:Cx)(r:R2):Prop:=
 ∀(b a:Expr) (c:List _) (s:Shared) (d:St) (H:Hp) (x y:V) (v u:Value) (Q:VK),Inv X c d H s->RelV x v->RelV y u->r x y H Q->
  subscripted a false v u=operate [v,u] (getItem v u)->Zh X (subscriptTail b a v u) (EP X c d Q) X.xe s
def NK(X:Cx)(id:String)(r:V->AQ->Hp->VK->Prop):Prop:=
 ∀(a:List _) (s:Shared) (b:St) (H:Hp) (x:V) (c:AQ) (v:Value) (d:List _) (Q:VK),Inv X a b H s->RelV x v->Vals c d->r x c H Q->
  Zh X (call (.builtin id) (v::d)) (EP X a b Q) X.xe s
section
variable {a b:Expr}{ta tb:TE}
def IxR.or(h:IxR X r)(j:IxR X g):IxR X (λx y H Q=>r x y H Q\/g x y H Q):=by
 intro c d i s a H x y v u Q I f e q b;rcases q with q|q
 .exact h c d _ s a H x y v u Q I f e q b
 .exact j c d _ s a H x y v u Q I f e q b
def xM(f:IxR X r)(c:PE X a ta)(l:PE X b tb)(hs:iu b):PE X (.Subscript a b pos) (iX r ta tb):=by
 intro k s m H Q I h;exact Subscript_ (iY c l I h λv u g x y e i d j q=>f a b _ g m e x y v u Q i d j q (hs _ _))
def lZ(K:W7):R2:=λx y H Q=>∃p b i v,x=.ref p/\y=.int i/\SqL K H p b/\aX b i=some v/\Q v H
def l0(K:W7):R2:=λx y H Q=>∃p b i v,x=.ref p/\y=.int i/\SqT K H p b/\aX b i=some v/\Q v H
def l4:R2:=λx y H Q=>∃z i c,x=.str z/\y=.int i/\z.length<=sizeLine/\aX z.cps.toList i=some c/\Q (.str ⟨#[c]⟩) H
theorem ix_list:IxR X (lZ X.K):=by
 intro f c o s E H x y v u Q I D A h n;obtain⟨p,M,i,z,rfl,rfl,G,F,q⟩:=h;cases D;obtain⟨t,rfl⟩:=A;obtain⟨k,r,g,L⟩:=I.list G;obtain⟨j,b,J,N,C,K⟩:=xK F;obtain⟨w,l,d⟩:=r.get J;have B:=r.length;have O:=lS
 have a:EP X _ E Q w s:=⟨z,H,I,d,q⟩
 by_cases m:0<=i
 .have e:=by
   rw[seqIndex_of m K]at b;exact wx b
  exact item_listR g.isList m (by lia) (by rw[e];simpa using l) a n
 .have e:(i+k.toArray.size).toNat=j:=by
   rw[seqIndex_neg (by lia) C]at b;rw[qk,<-B];exact wx b
  exact subscriptTail_builtinR g.isList.typeIs slot_list_getitem.lookup
   (wpAny_getItem_list_neg g.isList (by lia) (by rw[qk]<;>lia) (by lia) (by rw[e];simpa using l) ⟨rfl,a⟩) n
theorem ix_tup:IxR X (l0 X.K):=by
 intro d c a s L H x y v u Q I k f h J;obtain⟨p,K,i,z,rfl,rfl,l,g,q⟩:=h;cases k;obtain⟨t,rfl⟩:=f;obtain⟨G,r,b,C⟩:=I.tuple l;obtain⟨j,D,m,n,B,F⟩:=xK g;obtain⟨w,A,e⟩:=r.get m;have E:=r.length;have o:=lS
 exact subscriptTail_builtinR b.typeIs slot_tuple_getitem.lookup
  (getItem_tuple (j:=j) b ∅ ∅ ⋯ ⋯ ⟨rfl,⟨z,H,I,e,q⟩⟩) J
theorem xN:IxR X l4:=by
 intro e d a s C H x y v u Q I g f h b;obtain⟨z,i,c,rfl,rfl,n,k,q⟩:=h;obtain⟨t,rfl⟩:=g;obtain⟨B,rfl⟩:=f;obtain⟨j,r,p,l,o,A⟩:=xK k
 have w:z.cps.toList.length=z.length:=by simp[Str.length]
 have m:=lS
 exact tail_any (typeIs_str s z t) slot_str_getitem.lookup (getItem_str (by
  ext<;>lia) (by grind) ⟨.str _,H,I.tok _,⟨_,rfl⟩,q⟩) b
def Hu(K:W7):R2:=λx y H Q=>lZ K x y H Q\/l0 K x y H Q\/l4 x y H Q
def xO:IxR X (Hu X.K):=ix_list.or (ix_tup.or xN)
theorem NL(lo d:Option Int)(n:Nat):(sliceBounds lo d none n).1=((HT.sIx n 0 lo:Nat):Int)/\(sliceBounds lo d none n).2.1=((HT.sIx n n d:Nat):Int)/\(sliceBounds lo d none n).2.2=1:=by
 refine⟨?_,?_,rfl⟩
 .cases lo with
  | none=>constructor<;>ac_nf
  | some i=>
    simp only[sliceBounds,HT.sIx];symm
 .cases d with
  | none=>constructor<;>ac_nf
  | some i=>
    simp only[sliceBounds,HT.sIx];symm
def NM(its:AE)(lo c:Option Int):slicePick its.toArray lo c none=((its.drop (HT.sIx its.length 0 lo)).take (HT.sIx its.length its.length c-HT.sIx its.length 0 lo)).toArray:=by
 obtain⟨f,g,e⟩:=NL lo c _;unfold slicePick;rw[f,g,e];simp only[sliceRange_one,pick_run]<;>rfl
def xP(K:W7):V->Option Int->Option Int->Hp->VK->Prop:=λx lo d H Q=>∃a c,x=.ref a/\SqL K H a c/\∀p,H p=none->Q (.ref p) (upd H p (.lst (ef c lo d)))
theorem Hv:SlR X (xP X.K):=by
 intro f s y H x v n o lo e m Q I i w t g h;obtain⟨a,p,rfl,j,q⟩:=h;cases i;obtain⟨u,r,d,k⟩:=I.list j;have c:=r.length;refine⟨"list",_,slot_list_getitem.lookup,d.isList.typeIs,wpAny_getItem_list_slice d.isList w t g .none nofun ?_ (by ext)⟩;rw[NM,<-c];refine⟨.ref _,_,I.laid (λb l q=>qe _ q) (qv _) ?_,rfl,q _ (I.hok.fresh (qv _))⟩;exact⟨Qg (Ht p lo e) k,_,0,(r.drop _).take _,qp _ rfl⟩
theorem Hw:dz X (.builtin "len") (λxs H Q=>∃p ys,xs=[.ref p]/\(SqL X.K H p ys\/SqT X.K H p ys)/\Q (.int ys.length) H):=by
 intro k s m H xs l Q I r h;obtain⟨p,ys,rfl,c,q⟩:=h;obtain⟨u,rfl,g⟩:=eQ r;cases g;have j:=lS;rcases c with c|c
 .obtain⟨f,e,b,i⟩:=I.list c
  have d:=e.length;exact Calls.call_len_list b.isList (by ext<;>lia) ⟨.int _,H,I.tok _,⟨s.toks+1,by grind⟩,q⟩
 .obtain⟨f,e,b,i⟩:=I.tuple c
  have d:=e.length;exact len_tuple b (by ext<;>lia) ⟨.int _,H,I.tok _,⟨s.toks+1,by grind⟩,q⟩
theorem NN:dz X (.type "list") (λxs H Q=>∃p ys,xs=[.ref p]/\(SqL X.K H p ys\/SqT X.K H p ys)/\∀l,H l=none->Q (.ref l) (upd H l (.lst ys))):=by
 intro y s z H xs A Q I r h;obtain⟨p,ys,rfl,f,q⟩:=h;obtain⟨u,rfl,x⟩:=eQ r;cases x
 have j:∀_,_->_->∀(b:Heap) _,_->
  _->EP X _ z Q _ {s with heap:=b}:=λa c g b d i e=>
  ⟨.ref _,_,I.laid i (qv _) (show ObjOk _ X.w _ b _ (.lst ys) from⟨g,a,d,c,e⟩),rfl,q _ (I.hok.fresh (qv _))⟩
 rcases f with f|f
 .obtain⟨a,c,w,g⟩:=I.list f
  have k:=c.length;obtain⟨o,m,v,n,t⟩:=w.isList;exact call_list_seq p (.inl rfl) m v t (λb d i e=>j a c g b d i e) (by grind)
 .obtain⟨a,c,w,g⟩:=I.tuple f
  have k:=c.length;obtain⟨o,m,v,n,t⟩:=w;exact call_list_seq p (.inr rfl) m v t (λb d i e=>j a c g b d i e) (by grind)
theorem l5:dz X (.type "tuple") (λxs H Q=>∃p ys,xs=[.ref p]/\((SqL X.K H p ys/\∀l,H l=none->Q (.ref l) (upd H l (.tup ys)))\/(SqT X.K H p ys/\Q (.ref p) H))):=by
 intro n s w H xs v Q I r h;obtain⟨p,ys,rfl,h⟩:=h;obtain⟨u,rfl,j⟩:=eQ r;cases j;rcases h with⟨c,q⟩|⟨c,q⟩
 .obtain⟨a,d,m,f⟩:=I.list c
  have g:=d.length;refine call_tuple_list m.isList (λt k=>?_) ⋯;have i:=I.kept (t':=s.toks) k;exact⟨.ref _,_,i.laid (λb o e=>qe _ e) (qv _) (show ObjOk _ X.w _ _ _ (.tup ys) from⟨f,a,d,.new _ _⟩),rfl,q _ (i.hok.fresh (qv _))⟩
 .obtain⟨a,d,m,f⟩:=I.tuple c
  exact call_tuple_same m ⟨.ref p,H,I,rfl,q⟩
def Hx(K:W7)(T:String)(x:V)(H:Hp):Prop:=match x with
 | .str _=>T="str"
 | .int _=>T="int"
 | .ref p=>(T="list"/\∃b,SqL K H p b)\/(T="tuple"/\∃o,K.lookup p=some o/\o.cls=.type "tuple"/\o.dict=none)\/
  (T="dict"/\((∃c,H p=some (.dK c))\/∃c,H p=some (.dT c)))\/(T="set"/\∃S n,H p=some (.set S n))
 | _=>False
theorem xQ{σ:St}(I:Inv X pins σ H s)(r:RelV x v)(g:Hx X.K T x H):
 s.TypeIs v T/\∀a,v=.ref a->∃k,s.heap.get? a=some k/\k.dict=none:=by
 cases x with
 | str z=>
   obtain⟨t,rfl⟩:=r;cases (g);exact⟨typeIs_str s z t,λ_ e=>nomatch e⟩
 | int i=>
   obtain⟨t,rfl⟩:=r;cases (g);exact⟨typeIs_int s i t,λ_ e=>nomatch e⟩
 | ref p=>
   cases r;rcases g with⟨rfl,w,l⟩|⟨rfl,o,d,m,j⟩|⟨rfl,d⟩|⟨rfl,S,n,d⟩
   .obtain⟨u,_,q,_⟩:=I.list l
    refine⟨q.isList.typeIs,λa e=>?_⟩;obtain⟨o,n,e,c,j,_⟩:=q
    ext
   .refine⟨⟨o,I.kIn p o d,m⟩,λa e=>?_⟩
    cases e;exact⟨o,I.kIn _ o d,j⟩
   .have z:∃o,s.heap.get? p=some o/\o.ExactDict:=by
     rcases d with⟨h,d⟩|⟨h,d⟩
     .obtain⟨_,_,_,_,o,_,_,e,f,_⟩:=I.hok p _ d
      grind
     .obtain⟨_,_,_,_,o,_,_,e,f,_⟩:=I.hok p _ d
      grind
    obtain⟨o,e,f⟩:=z;refine⟨⟨o,e,f.1⟩,λa b=>?_⟩;cases b;exact⟨o,e,f.2.1⟩
   .obtain⟨o,_,_,_,e,f,_⟩:=I.hok p _ d
    refine⟨⟨o,e,f.1⟩,λa b=>?_⟩;cases b;exact⟨o,e,f.2.1⟩
 | _=>exact False.elim g
def NO(K:W7)(T:String)(r:V->AQ->Hp->VK->Prop)(e:TE)(t:TA):TE:=λb H Q=>e b H λx d=>Hx K T x d/\t b d λc f=>r x c f Q
variable {o e:Expr}{to:TE}{t:TA}{name:Str}{T id:String}{r:V->AQ->Hp->VK->Prop}
theorem i9(K:PlainAttrs T)(g:Slot T name id)(j:typeOf (.builtin id)=pure (.type "method_descriptor"))(w:NK X id r)(y:PE X o to)(G:PA X (e::es) t)(d:attributeBase o name X.env (eval o X.env)=eval o X.env:=by rfl)(i:((backTo cpos (starEach (e::es) X.env)).all (λx=>!x.1)&&(backToKw cpos (keywordEach [] X.env)).all (λx=>x.1.isSome)
  &&decide ((e::es).length+([]:List Keyword).length+(if ([]:List Keyword).isEmpty then 0 else 1)<30))=true:=by rfl)(b:(apos.endLine==cpos.line)=true:=by rfl)(hs:starEach (e::es) X.env=(false,eval e X.env)::starEach es X.env:=by rfl)(a:(backTo cpos (starEach es X.env)).any (·.1)=false:=by rfl):
 PE X (.Call (.Attribute o name apos) (e::es) [] cpos) (NO X.K T r to t):=by
 intro p s k H Q I h;refine wpAny_Call_method_late d i b rfl (aS (y _ s k H _ I h) λv E c=>?_);obtain⟨x,C,m,l,q,D⟩:=c;obtain⟨A,M⟩:=xQ m l q;refine⟨T,id,K,g,j,A,M,?_⟩;have n:=G cpos _ E k C _ m D;rw[hs]at n ⊢;refine Calls.callWith_builtin (by show(false||(backTo _ _).any _)=_;rw[a]<;>rfl) (Calls.evalArgs_plain (aS n λF u c=>?_));obtain⟨B,L,z,J,N⟩:=c;exact w _ u k L x B v F Q z l J N
end
def xR(X:Cx)(id:String)(r:V->AQ->Hp->VK->Prop):Prop:=
 ∀(a:List _) (s:Shared) (b:St) (H:Hp) (x:V) (c:AQ) (v:Value) (d:List _) (Q:VK),Inv X a b H s->RelV x v->Vals c d->r x c H Q->
  Zh X (call (.builtin id) (v::d)) (EP X a b Q) X.xe s
theorem Vals.one:∀{x:V}{us:AE},Vals [x] us->∃u,us=[u]/\RelV x u
 :=by
  intro x us h
  cases h with
  | cons r t=>
    cases t;symm
section
variable {σ:St}{H:Hp}{s:Shared}{l b:Addr}{xs zs:AQ}
def Inv.lset{its its':AE}(I:Inv X pins σ H s)(i:H l=some (.lst xs))(e:s.heap.get? l=some {cls:=.type "list",data:=.seq its.toArray n})(g:f its.toArray=its'.toArray)(c:Vals ys its')(d:ys.length<=sizeLine):
 Inv X pins σ (upd H l (.lst ys)) {s with heap:=s.heap.update l (Obj.mapSeq f),toks:=t' }:=by
 have q:=PySem.IsL.update e f;rw[g]at q;exact I.write (by rw[i];exact trivial) (.inl rfl) (λj u hb h=>(Heap.get?_update_other s.heap (Obj.mapSeq f) (Ne.symm hb)).trans h) ⟨_,q⟩ (⟨d,its',_,c,q⟩)
def Inv.lnew(I:Inv X pins σ H s)(a:Vals ys its)(c:ys.length<=sizeLine):
 Inv X pins σ (upd H (~~~s) (.lst ys)) {s with heap:=s.heap.push {cls:=.type "list",data:=.seq its.toArray},toks:=t' }:=
 I.laid (λ_ _ q=>qe _ q) (qv _) ⟨c,its,0,a,qp _ rfl⟩
def Inv.fresh(I:Inv X pins σ H s):H (~~~s)=none:=I.hok.fresh (qv _)
def Inv.lstM(I:Inv X pins σ H s)(a:H l=some (.lst xs)):xs.length<=sizeLine/\∃(its:AE) (n:Nat),Vals xs its/\xs.length=its.length/\s.heap.get? l=some {cls:=.type "list",data:=.seq its.toArray n}:=by
 obtain⟨z,its,n,r,e⟩:=I.hok l _ a;exact⟨z,its,n,r,r.length,e⟩
def xS:V->AQ->Hp->VK->Prop:=λx b H Q=>∃l a y,x=.ref l/\b=[y]/\H l=some (.lst a)/\a.length<sizeLine/\Q .non (upd H l (.lst (a++[y])))
theorem Hy:xR X "list.append" xS:=by
 intro b s p H x t v o Q I g f h;obtain⟨l,m,y,rfl,rfl,c,i,q⟩:=h;cases g;obtain⟨u,rfl,d⟩:=f.one;obtain⟨z,k,n,r,j,e⟩:=I.lstM c;refine call_meets F.slot_list_append ⟨_,e,rfl⟩ F.entry_list_append (F.args_list_append_2 _ _) (PySem.list_append l _ n u (by ext)) ⟨e,⟨.non,_,I.lset c e nofun (r.append (.cons d .nil)) ?_,rfl,q⟩⟩
 (simp;lia)
end
end L2
namespace Att
open PySem PySem.W PySem.Calls PyProof.Rows
theorem NP:∀(ns:AH) (vs:AE),WellAll P h vs (ns.map WData.int)->IntsAre vs ns:=by
 intro ns
 induction ns with
 | nil=>
   intro vs w;cases w;exact .nil
 | cons n ns c=>
   intro vs w
   cases w with
   | cons a b=>
     cases a;exact .cons _ _ (c _ b)
theorem NQ{l:OpenLaw}(t:l.most=some n)(b:l.row.toRowW.claim.pre args=true)(g:WellAll P h e args):
 ∃a vs ns,e=[Value.ref a]/\args=[WData.list (ns.map WData.int)]/\h.get? a=some {cls:=.type "list",data:=.seq vs.toArray}/\IntsAre vs ns/\ns.length<=n:=by
 have s:l.pre.holds [] _=true:=(pre_splitW b).2;obtain⟨d,r,rfl,p,o⟩:=hasAllW_cons ((pre_splitW b).1);obtain rfl:=hasAllW_nil o;obtain⟨v,rfl,m⟩:=hasW_list p;obtain⟨ns,rfl⟩:=items_int m
 have f:ns.length<=n:=by
  have i:(WTm.not (.lt (.lit (.int n)) (.len (.arg 0)))).holds [] {args:=[.list (ns.map .int)]}=true:=by
   have i:=(holds_andW s).1
   ext
  have u:=condW_of i (w_not (w_lt w_lit (w_len_list (w_arg rfl))))
  ext
 cases g with
 | cons q k=>
   cases k
   cases q with
   | list j c=>exact⟨_,_,ns,rfl,rfl,j,NP ns _ c,f⟩
def NR(l:OpenLaw)(a:List WData):l.row.toRowW.claim.post a (.bool true) a=true:=
 postW_of
  (by first|rfl|decide|simp[.arms])
  (w_eq_bool (w_res rfl) w_lit) rfl
def attach_call{l:OpenLaw}(M:l.most=some n)(v:d.params.defaults=[])(call:∀(w:World) (c b:Shared) (p S:AF) (h:Addr) (o:Obj) (y m e:Value) (a:Addr) (vs:AE) (ns:AH),
  Ground q loose [] XP w c p S b.heap->YP w b.heap->
  b.heap.get? h=some o->o.data=.func (docDef d.name d.params d.body d.scope y m e)->b.heap.CodeRec m d.name->p d.name=some (.ref h)->
  b.heap.get? a=some {cls:=.type "list",data:=.seq vs.toArray}->IntsAre vs ns->ns.length<=n->b.gens=#[]->
  codeAny (mZ l.prog w) callerA (.call (.ref h) ⟨[.ref a],[]⟩) (λr s'=>r=.ok (.ret (.bool true))/\OldK b.heap s'.heap/\s'.os=b.os/\AllBare s'.gens) b):
 WalkO q loose XP YP l.row.toRowW d [] (λf vs=>PySem.call f vs):=by
 intro w c b p S G Y h o y m e R Q E N u B t L C A P k z F s J;obtain rfl:=Dflts.none B v;obtain rfl:=Dflts.noKw B;obtain⟨a,vs,ns,rfl,rfl,j,g,i⟩:=NQ M k s;refine enter_call (codeAny_mono (call w c b p S h o y m e a vs ns G Y E (fd_plain N) u t j g i L) λr s' K=>?_);obtain⟨rfl,H,I,D⟩:=K;exact⟨.inl ⟨.bool _,.bool _,[],rfl,λ_=>rfl,.bool _,NR l _,λ_=>⟨.nil,λ_ O=>nomatch O⟩⟩,H,I,D⟩
end Att
namespace L2
variable {X:Cx}{pins:AD}{pos apos cpos:Pos}{ys:AQ}{es:AM}
open PySem PySem.Spec PyProof.Rows
theorem p_:∀{vs:AE}{ns:AH},IntsAre vs ns->Vals (ns.map V.int) vs
 | _,_,.nil=>.nil
 | _,_,.cons n t h=>.cons ⟨t,rfl⟩ (p_ h)
def i_(H:Hp):Prop:=∀b,H b=none\/∃o a,H b=some (.frz o (.lst a))
theorem NS{K:W7}(T:K.In c.heap)(t:c.heap.Ns mainGlobals G)(hb:c.heap.Ns builtinsNs mb)(O:∀x:Str,x≠"__name__"->mb x=bootBuiltins x)(p:c.heap.NoLimit)(hg:c.gens=#[])(M:c.heap.get? a=some {cls:=.type "list",data:=.seq vs.toArray})(ua:IntsAre vs ns)(hl:ns.length<=sizeLine)(hr:Room k callerA)(F:∀g:Heap,K.In g->g.Ns mainGlobals G->cA P w K G g CX k U fd [x] sp)(l:∀(s:Shared) (u:Value),BindsTo s fd ⟨[u],[]⟩ [(x,u)])(I:∀H:Hp,i_ H->SqL K H a (ns.map V.int)->sp [.ref a] H (λv _=>v=.bl true) λ_ _ _=>False)(L:∀H e s',CX [] H c (λ_ _ _=>False) e s'->False):
 codeAny (mZ P w) callerA (.call (.ref U) ⟨[.ref a],[]⟩) (λr s'=>r=.ok (.ret (.bool true))/\OldK c.heap s'.heap/\s'.os=c.os/\AllBare s'.gens) c:=by
 have rv:=p_ ua;have R:=ua.length
 have j:∀H,i_ H->SqL K H a (ns.map V.int)->HOk P w H c.heap->(∀b,H b≠none->b=a)->(H a≠none->K.lookup a=none)->
  codeAny (mZ P w) callerA (.call (.ref U) ⟨[.ref a],[]⟩) (λr s'=>r=.ok (.ret (.bool true))/\OldK c.heap s'.heap/\s'.os=c.os/\AllBare s'.gens) c:=by
  intro H S Y C hA hK;have f:∀{b:Addr}{o:Obj},c.heap.get? b=some o->H b=none->_:=λe n=>Nc e n
  have N:∀{b:Addr}{o:Obj}{E:Array DictEntry}{D:Nat},c.heap.get? b=some o->o.data=.dict E D->H b=none:=λ{b o E D} e d=>by
   grind
  have i:∀{b:Addr}{m:AF},c.heap.Ns b m->(d_ c.heap H).Ns b m:=λ{b m} ⟨o,E,D,e,d,r⟩=>⟨o,E,D,f e (N e d),d,r⟩
  have B:=λb o e=>f (T b o e) (by
   grind)
  have hM:Mod K G (d_ c.heap H):=⟨B,i t,⟨mb,i hb,O⟩,let ⟨mc,h1,h2⟩:=p;⟨mc,i h1,h2⟩⟩
  have Z:gP P w K G (d_ c.heap H) callerA [] c H:=⟨rfl,hM,λb o e=>vr e,Nat.le_of_eq (Nb _ _),trivial,λb hb=>absurd (show b∈([]) from hb) nofun,C,.of_eq hg⟩
  refine codeAny_mono ((F _ B (i t)).run callerA [] c H ⟨[.ref a],[]⟩ [.ref a] [.ref a] _ _ hr Z (l c (.ref a)) (.cons rfl .nil) (I H S Y)) λr s' h=>?_
  cases r with
  | error e=>exact(L H e s' h).elim
  | ok fl=>
    cases fl with
    | next=>exact False.elim h
    | brk=>exact False.elim h
    | cont=>exact False.elim h
    | ret u=>
      obtain⟨v,H',os,A,Q,y,r',q⟩:=h;have q':=q;subst q';obtain rfl:=r';refine⟨rfl,OldK.of_keep λb o e=>?_,os,A⟩
      cases q:H b with
      | none=>exact Q.keep b o e q (by intro z;exact absurd (show b∈([]) from z) nofun) nofun
      | some u=>
        rcases S b with z|⟨ob,xs,z⟩
        .grind
        .have z2:=Q.frzs b ob _ z
         obtain⟨e1,_⟩:=C b _ z;obtain⟨e2,_⟩:=y b _ z2;grind
 cases J:K.lookup a with
 | some o=>
   have e:=T a o J;rw[M]at e;cases e;refine j (λ_=>none) (λ_=>.inl rfl) (.inr ⟨_,vs.toArray,_,J,rfl,rfl,rfl,by ext,by grind⟩) (λb u z=>by grind) (λb z=>absurd rfl z) λz=>absurd rfl z
 | none=>
   refine j (λb=>if b=a then some _ else none) (λb=>?_) (.inl (.inr ⟨{cls:=.type "list",data:=.seq vs.toArray},if_pos rfl⟩)) (λb u z=>?_) (λb z=>?_) λ_=>J
   .grind
   .by_cases hb:b=a
    .have z':=(if_pos hb).symm.trans z
     cases z';subst hb;exact⟨M,by ext,vs,_,rv,M⟩
    ext
   ext
def walk_of{l:W.OpenLaw}{K:Params->W7}{CX:World->iq}{sp:World->Sp}(S:l.most=some n)(A:n<=sizeLine)(t:d.params.defaults=[])(P:Room k callerA)(O:∀(w:World) (h:Heap),YP w h->(K w.params).In h)(F:∀(w:World) (j:AF) (r:Addr) (h:Heap),(K w.params).In h->h.Ns mainGlobals j->j d.name=some (.ref r)->
  ∃z:FuncData,(∀(s:Shared) (u:Value),BindsTo s z ⟨[u],[]⟩ [(x,u)])/\
   ∀c:Heap,(K w.params).In c->c.Ns mainGlobals j->cA l.prog w (K w.params) j c (CX w) k r z [x] (sp w))(C:∀(w:World) (H:Hp) (a:Addr) (ns:AH),ns.length<=n->i_ H->SqL (K w.params) H a (ns.map V.int)->sp w [.ref a] H (λv _=>v=.bl true) λ_ _ _=>False)(B:∀(w:World) (H:Hp) (s:Shared) (e:Value) (s':Shared),CX w [] H s (λ_ _ _=>False) e s'->False):
 W.WalkO q loose XP YP l.row.toRowW d [] (λf vs=>PySem.call f vs):=by
 refine Att.attach_call S t λw D m j mb r o U T J a vs ns G Y X L R y p i g I=>?_;have E:=O w _ Y;obtain⟨z,Z,M⟩:=F w j r _ E G.T.g y;exact NS E G.T.g G.T.b G.T.builtins G.T.nolimit I p i (Qg g A) P M Z (λH Q N=>C w H a ns g Q N) λH e s'=>B w H m e s'
noncomputable def aFa(s:Stmt):Arguments:=match s with
 | .FunctionDef _ a _ _ _ _ _ _ _ _=>a
 | _=>{posonlyargs:=[],args:=[],vararg:=none,kwonlyargs:=[],kw_defaults:=[],kwarg:=none,defaults:=[]}
noncomputable def aEa(s:Stmt):List Stmt:=match s with
 | .FunctionDef _ _ b _ _ _ _ _ _ _=>b
 | _=>[]
def aCa(s:Stmt):Scope:=match s with
 | .FunctionDef _ _ _ _ _ _ a _ _ _=>a
 | _=>{kind:=.function,names:=[],isGenerator:=false,isCoroutine:=false}
abbrev eh:iq:=λ_ _ _ _ _ _=>False
abbrev E0:XK:=λ_ _ _=>False
def xT:xk eh X E0:=λ_ _ _ _ _ _ _ h=>h.elim
structure Fun(K:W7)(x qual:Str)(st:Stmt)(f:Addr)(fd:FuncData):Prop where
 ex:∃(oc:Value) (od:Option Addr) (kV doc pm:Value) (an:Option Addr) (cdv ct:Value) (osl:Array (Option Value)),
  fd=W.fnOf x qual (aFa st) (aEa st) (aCa st) .none kV doc pm an cdv ct/\K.lookup f=some ⟨oc,od,.func fd,osl⟩/\W.codeIn K cdv qual=true
 kp:W.keepIn K (.ref f)=true
section
variable {P:P7}{w:World}{K:W7}{mg:AF}{base:Heap}
def Fun.ok{st:Stmt}(F:Fun K x c st f n)(S:ir N z (aCa st))(g:∀vs H Q E,sp vs H Q E->vs.length=z.length)(d:∀(b:Value) (A:Around) (a:List Env) (s:Shared) (H:Hp) (vs:AQ) (Q:VK) (E:XK),Room k (A.deeper (envOfC c (aCa st) (~~~s) f b))->sp vs H Q E->
  ∃t,PSs (dQ eh P w K mg base N c (aCa st) f b A a s H E).nox (aEa st) t/\t {nx:=λ_ H'=>Q .non H',rt:=Q} (start N vs) H):cA P w K mg base eh (k+1) f n z sp:=by
 obtain⟨p,u,kV,j,v,r,b,y,m,rfl,l,i⟩:=F.ex;refine xo l i S g λA a s H vs Q E o e=>?_;obtain⟨t,h,q⟩:=d b A a s H vs Q E o e;exact⟨t,h.nox,q⟩
def Fun.binds{st:Stmt}(F:Fun K x c st f i)(h:∀(kV a e:Value) (g:Option Addr) (b d:Value) (us:AE),us.length=o.length->bindArgs (W.fnOf x c (aFa st) (aEa st) (aCa st) .none kV a e g b d) ⟨us,[]⟩=pure (o.zip us)):Binds K i o []:=by
 obtain⟨n,m,kV,a,e,g,b,d,k,rfl,l,j⟩:=F.ex;exact .all (h kV a e g b d)
def l6{st:Stmt}{kV d h b g:Value}(l:K.lookup f=some ⟨j,m,.func (W.fnOf x a (aFa st) (aEa st) (aCa st) .none kV d h i b g),e⟩)(c:W.codeIn K b a=true)(k:W.keepIn K (.ref f)=true):Fun K x a st f (W.fnOf x a (aFa st) (aEa st) (aCa st) .none kV d h i b g):=⟨⟨j,m,kV,d,h,i,b,g,e,rfl,l,c⟩,k⟩
end
def Same(H H':Hp):Prop:=∀b o,H b=some o->H' b=some o
def Same.refl(H:Hp):Same H H:=λ_ _ h=>h
def Same.trans(a:Same H e)(b:Same e d):Same H d:=λc o h=>b c o (a c o h)
def Same.free(e:Same H H')(h:H' l=Option.none):H l=Option.none:=by
 cases q:H l with
 | none=>rfl
 | some o=>
   rw[e l o q]at h;cases h
def Same.seq{K:W7}(e:Same H H')(h:SqL K H a xs):SqL K H' a xs:=by
 rcases h with(h|⟨o,h⟩)|h
 .exact .inl (.inl (e _ _ h))
 .exact .inl (.inr ⟨o,e _ _ h⟩)
 .exact .inr h
noncomputable def bo(env:Env):List (Str×NameKind)->List (Str×Addr)->List (Str×Addr)
 | [],cs=>cs
 | (n,k)::r,cs=>if (k==NameKind.free)=true then (match env.cells.lookup n with|some c=>bo env r ((n,c)::cs)|none=>bo env r cs)else bo env r cs
theorem Hz(h:∀x∈a.names,x.2=NameKind.free->∃c,env.cells.lookup x.1=some c):closureFor a env=pure (bo env a.names []):=by
 have f:∀(l:_) (d:_),(∀x∈l,x.2=.free->∃c,env.cells.lookup x.1=some c)->
  (forIn l d fun(x:Str×_) r=>if (x.2==.free)=true then (do let c <-cellOf env x.1;pure (.yield ((x.1,c)::r)))else pure (.yield r))=(pure (bo env l d)):=by
  intro l
  induction l with
  | nil=>intro d _;rfl
  | cons x l j=>
    intro d g;obtain⟨n,k⟩:=x;have m:=λy s=>g y (qg _ s);rw[List.forIn_cons];by_cases o:k=.free
    .subst o
     obtain⟨c,q⟩:=g _ qh rfl;have b:=q
     have p:cellOf env n=pure c:=by unfold cellOf;rw[b]
     have e:(.free==NameKind.free)=true:=rfl;rw[if_pos e,p,pure_bind,pure_bind];show forIn l _ _=_;rw[j _ m];show _=pure (if _ then _ else _);rw[if_pos e,b]
    .have i:(k==.free)=false:=by simpa using o
     rw[if_neg (by rw[i];exact qi),pure_bind];show forIn l d _=_;rw[j _ m];show _=pure (if _ then _ else _);rw[if_neg (by rw[i];exact qi)]
 have:=f _ [] h;unfold closureFor;simpa using this
theorem qq:∀(l:List (Str×NameKind)) (d:List (Str×Addr)),(∀x c,(x,c)∈d->env.cells.lookup x=some c)->∀x c,(x,c)∈bo env l d->env.cells.lookup x=some c
 | [],d,h,x,c,e=>h x c e
 | (n,k)::r,d,h,x,c,e=>by
   unfold bo at e
   split at e
   .split at e
    .refine qq r _ (λy b a=>?_) x c e
     grind
    .exact qq r d h x c e
   .exact qq r d h x c e
theorem qA:∀(l:List (Str×NameKind)) (a:List (Str×Addr)) (p:Str×Addr),p∈a->p∈bo env l a
 | [],_,_,h=>h
 | (n,k)::r,a,p,h=>by
   unfold bo
   split
   .split
    .exact qA r _ p (qg _ h)
    .exact qA r _ p h
   .exact qA r _ p h
theorem l7:∀(l:List (Str×NameKind)) (b:List (Str×Addr)) (x:Str) (c:Addr),(x,NameKind.free)∈l->env.cells.lookup x=some c->(x,c)∈bo env l b
 | (n,k)::r,b,x,c,h,a=>by
   rcases qu h with q|q
   .cases q
    unfold bo;rw[a];exact qA r _ _ qh
   .unfold bo
    split
    .split
     .exact l7 r _ x c q a
     .exact l7 r _ x c q a
    .exact l7 r _ x c q a
theorem HA{a:List (Str×Addr)}(h:(x,c)∈a):∃d,a.lookup x=some d:=by
 induction a with
 | nil=>cases h
 | cons p r f=>
   obtain⟨n,b⟩:=p;rw[List.lookup_cons]
   cases e:(x==n)with
   | true=>grind
   | false=>
     ext
structure gu(XN:AL)(xsc:Scope)(N:AL)(src:List AN)(sc:Scope):Prop where
 kind:sc.kind=.function
 xkind:xsc.kind=.function
 cellU:∀y∈sc.names,y.2=NameKind.cell->sc.names.lookup y.1=some NameKind.cell
 names:∀y∈sc.names,y.2=NameKind.local->sc.names.lookup y.1=some NameKind.local
 len:src.length=N.length
 nd:N.Nodup
 cap:∀(i j:Nat) (x:Str),N[i]?=some x->src[i]?=some (some j)->XN[j]?=some x/\sc.names.lookup x=some NameKind.free
 fr:∀y∈sc.names,y.2=NameKind.free->xsc.names.lookup y.1=some NameKind.cell\/xsc.names.lookup y.1=some NameKind.free
noncomputable def fM(b:AL)(a:Scope):AL->List AN->Bool
 | [],[]=>true
 | x::N,none::src=>fM b a N src
 | x::N,some j::src=>decide (b[j]?=some x)&&decide (a.names.lookup x=some NameKind.free)&&fM b a N src
 | _,_=>false
theorem xU:∀{N:AL}{c:List AN},fM b a N c=true->c.length=N.length
 | [],[],_=>rfl
 | _::N,none::c,h=>by
   have:=xU (N:=N) h;simp[this]
 | _::N,some j::c,h=>by
   replace h:(_&&_)=true:=h;simp [Qe]at h;have:=xU h.2;simp[this]
 | [],_::_,h=>Bool.noConfusion h
 | _::_,[],h=>Bool.noConfusion h
theorem xV:∀{N:AL}{e:List AN},fM b a N e=true->∀(i j:Nat) (x:Str),N[i]?=some x->e[i]?=some (some j)->b[j]?=some x/\a.names.lookup x=some NameKind.free
 | [],[],_,i,j,x,h,_=>by simp at h
 | _::N,none::e,h,i,j,x,d,c=>by
   cases i with
   | zero=>simp at c
   | succ i=>exact xV (N:=N) h i j x (by ext) (by ext)
 | y::N,some k::e,h,i,j,x,d,c=>by
   replace h:(_&&_)=true:=h;simp [Qe]at h
   cases i with
   | zero=>
     ext
   | succ i=>exact xV h.2 i j x (by ext) (by ext)
 | [],_::_,h,_,_,_,_,_=>Bool.noConfusion h
 | _::_,[],h,_,_,_,_,_=>Bool.noConfusion h
def jf(c:AL)(a:Scope)(N:AL)(d:List AN)(b:Scope):Bool:=
 decide (b.kind=.function)&&decide (a.kind=.function)&&b.names.all (λy=>decide (y.2=.cell->b.names.lookup y.1=some .cell))&&b.names.all (λy=>decide (y.2=.local->b.names.lookup y.1=some .local))&&
  decide N.Nodup&&fM c b N d&&b.names.all (λy=>decide (y.2=.free->a.names.lookup y.1=some .cell\/a.names.lookup y.1=some .free))
def NT(h:jf e a N l g=true):gu e a N l g:=by
 unfold jf at h;simp only[Qe,wg,List.all_eq_true]at h;obtain⟨⟨⟨⟨⟨⟨i,d⟩,k⟩,c⟩,j⟩,b⟩,f⟩:=h;exact⟨i,d,k,c,xU b,j,xV b,f⟩
noncomputable abbrev cJ(X:Cx)(a:Scope)(N:AL)(b:List (Str×Addr))(C:Addr)(c:List Addr)(s:Shared)(H:Hp):Cx where
 prog:=X.prog
 w:=X.w
 K:=X.K
 mg:=X.mg
 base:=X.base
 A:=X.A
 N:=N
 s₀:=s
 H₀:=H
 env:=compEnvC a b C X.env
 outer:=X.stack
 stack:=X.stack
 ex:=c
 fn:=λx=>a.names.lookup x==some .cell
 calm:=X.calm
 pn:=[]
 xe:=λ_ _=>False
noncomputable def c_(a:List AN)(σ:St):St:=a.map λo=>o.bind λj=>σ[j]?.join
def dS(X:Cx)(a:AM)(t:TT):Prop:=
 ∀(d:List _) (s:Shared) (e:St) (H:Hp) (Q:Bool->Hp->Prop),Inv X d e H s->t e H Q->
  Zh X (forIn a true λc r=>if r=true then do let b <-isTrue c X.env (eval c X.env);pure (.yield b)else pure (.yield r)) (TP X d e Q) X.xe s
def l8:TT:=λ_ H Q=>Q true H
def xW:dS X [] l8:=λ_ _ _ H _ I h=>wpAny_tests_nil ⟨H,I,h⟩
def xX(n:TI)(r:List AN)(g:TG)(q:TT)(l:TE):TE:=λt H Q=>n t H λJ f=>∀p,f p=none->
 ∃W:Nat->Nat->St->Hp->Prop,(∃m,W 0 m (c_ r t) (upd f p (.lst [])))/\∀i m c e,W i m c e->
  (J.stop i e/\Q (.ref p) e)\/
  (J.go i e/\∀x h,J.yld i e x h->g x c h λa o=>q a o λb j=>if b=true then l a j λv k=>∃s,k p=some (.lst s)/\s.length<sizeLine/\∃d,d<m/\W (i+1) d a (upd k p (.lst (s++[v])))else ∃d,d<m/\W (i+1) d a j)
section
variable {prog:P7}{w:World}{A:Around}{R:Result->Shared->Prop}{s:Shared}{elt tg iter:Expr}{ifs:AM}{scope:Scope}{wi:TI}{g:TG}{ti:TT}{te:TE}{N:AL}{src:List AN}
theorem NU(I:Nat->Shared->Prop)(u:∀n s,I n s->wpAny (mZ prog w) A (pyNext y) (λr a=>match r with
  | none=>R (.ok .next) a
  | some v=>wpAny (mZ prog w) A (letOwnedTupleGo b y v) (λ_ a=>wpAny (mZ prog w) A (assign b env v) (λ_ l=>
   wpAny (mZ prog w) A (forIn ifs true λc r=>if r=true then do let ok <-isTrue c env (eval c env);pure (ForInStep.yield ok)else pure (ForInStep.yield r)) (λok f=>
    if ok=true then wpAny (mZ prog w) A (eval elt env) (λx j=>
     wpAny (mZ prog w) A (call (.builtin "list.append") [t,x]) (λ_ k=>∃m,m<n/\I m k) (notedBy (mZ prog w) A env λe s'=>R (.error e) s') j) (notedBy (mZ prog w) A env λe s'=>R (.error e) s') f
    else ∃m,m<n/\I m f) (notedBy (mZ prog w) A env λe s'=>R (.error e) s') l) (notedBy (mZ prog w) A env λe s'=>R (.error e) s') a) (notedBy (mZ prog w) A env λe s'=>R (.error e) s') a) (notedBy (mZ prog w) A env λe s'=>R (.error e) s') s)(n:Nat)(h:I n s):
 codeAny (mZ prog w) A (.compLoop (.ListComp elt [⟨b,iter,ifs,0⟩] scope pos) 0 y t env) R s:=by
 refine codeAny_loop rfl I (λn s z=>?_) n h;show wpAny _ A _ _ _ s;refine wpAny_noted ?_;rw[compTurn_list];refine wa (wpAny_standAt (wa (wv (u n s z) (λr a d=>?_) λ_ _ g=>g)))
 cases r with
 | none=>exact wb d
 | some v=>
   refine wa (wv d (λ_ a d=>wa (wv d (λ_ l o=>wa (wv o (λok f i=>?_) λ_ _ g=>g)) λ_ _ g=>g)) λ_ _ g=>g)
   cases ok with
   | false=>exact wb ⟨rfl,i⟩
   | true=>
     exact wa (wa (wv i (λx j q=>wa (wv q (λ_ k p=>wb (wb ⟨rfl,p⟩)) λ_ _ g=>g)) λ_ _ g=>g))
theorem NV(h:scope.names.lookup x=some NameKind.free)(a:env.kindOf x=some NameKind.cell\/env.kindOf x=some NameKind.free):
 (relabel scope env).names.lookup x=some NameKind.cell\/(relabel scope env).names.lookup x=some NameKind.free:=by
 unfold relabel;generalize scope.names=l at h
 induction l with
 | nil=>cases h
 | cons p r b=>
   symm
theorem NW(h:(relabel scope env).names.lookup x=some NameKind.cell\/(relabel scope env).names.lookup x=some NameKind.free):
 (x,NameKind.free)∈scope.names\/(x,NameKind.cell)∈scope.names:=by
 unfold relabel at h
 revert h
 generalize scope.names=l
 induction l with
 | nil=>simp
 | cons p r a=>
   symm
theorem l9:∀(b:List (Str×NameKind)) (n:Nat) (a:List (Str×Addr)),cellsFrom n b a=cellsFrom n b []++a
 | [],_,_=>rfl
 | (x,k)::r,n,a=>by
   unfold cellsFrom
   split
   .rw[l9 r _ _,l9 r _ [(x,n)],List.append_assoc];rfl
   .exact l9 r n a
theorem xY:∀(a:List (Str×NameKind)) (n:Nat) (x:Str) (c:Addr),(x,c)∈cellsFrom n a []->(x,NameKind.cell)∈a
 | [],_,_,_,h=>nomatch h
 | (y,k)::r,n,x,c,h=>by
   unfold cellsFrom at h
   split at h
   .rw[l9]at h
    rcases qw h with h|h
    .exact qg _ (xY r _ x c h)
    ext
   .exact qg _ (xY r n x c h)
theorem HB{a b:List (Str×Addr)}:(a++b).lookup x=(a.lookup x).or (b.lookup x):=by grind
theorem jg{a b:List (Str×Addr)}(h:(a++b).lookup x=some c):a.lookup x=some c\/(a.lookup x=none/\b.lookup x=some c):=by
 rw[HB]at h
 ext
def NX(h:Q (newEnv scope (~~~s) a (cellsFrom (~~~s+1) scope.names []++i) c none .none (some b) f) {s with heap:=pushCells (s.heap.push {cls:=.type "dict",data:=.dict #[]}) scope.names}):
 wpAny M A (newFunctionEnv scope a i [] c none .none (some b) f) Q E s:=by
 refine wa (wpAny_alloc (wa (wpAny_layCells _ (λg e d=>by simp) _ _ _ _ ?_)));rw[wq ..,l9];exact wa (wb (wb h))
theorem NY{σ:St}(S:gu X.N X.env.scope N src scope)(I:Inv X pins σ H s)(M:∀b∈fp,cU X pins H b)(ho:∀b∈fp,∃o,s.heap.get? b=some o)(hn:n.Ns (~~~s) λ_=>none)(O:∀b o,s.heap.get? b=some o->n.get? b=some o)(t:CellsOk n (~~~s+1) f)(R:∀x c,(x,c)∈f->(x,NameKind.cell)∈scope.names)(E:∀x,scope.names.lookup x=some NameKind.cell->∃c,f.lookup x=some c):
 Inv (cJ X scope N (f++bo X.env scope.names []) (~~~s) fp s H) [] (c_ src σ) H {s with heap:=n,toks:=tk}:=by
 have h:∀x c,(bo X.env scope.names []).lookup x=some c->X.env.cells.lookup x=some c:=λx c e=>qq scope.names [] (λ_ _ z=>nomatch z) x c (PySem.mem_of_lookup e)
 have clt:∀x c,(bo X.env scope.names []).lookup x=some c->c< ~~~s:=λx c e=>by
  obtain⟨v,q⟩:=I.cell x c (h x c e);exact q.lt
 have V:∀x c,f.lookup x=some c->(~~~s)<c:=λx c e=>(t.empty x c (PySem.mem_of_lookup e)).2
 have L:∀x,scope.names.lookup x=some NameKind.free->f.lookup x=none:=λx J=>by
  cases e:f.lookup x with
  | none=>rfl
  | some c=>
    have:=S.cellU _ (R x c (PySem.mem_of_lookup e)) rfl;grind
 have T:∀b∈fp,b< ~~~s:=λb g=>by
  obtain⟨o,e⟩:=ho b g;exact ql e
 have U:∀b∈fp,b∉fv X.stack:=λb g z=>by
  rcases qu (I.stkSub b z)with e|e
  .exact(M b g).2.1 e
  .exact(M b g).2.2.1 e
 refine⟨⟨I.ok.mod,S.kind,I.ok.glob,I.ok.blt,qv _,λx y c C k=>?_,λx J=>?_,λx c z e=>?_,I.ok.hd,I.ok.frames,.inl rfl,λb g=>⟨qm (T b g),λx c e=>?_⟩,
  I.bs,Qg I.ok.bsz I.sz,λb o e g=>?_,U,I.stack,I.stkFree⟩,rfl,I.bare,Un.kept O,⟨_,hn,λi x v C k h3=>?_⟩,λx c e=>?_,I.fresh,λx c e=>?_,λp hp=>(nomatch hp),I.hok.kept O,?_⟩
 .rcases jg C with C|⟨_,C⟩
  .rcases jg k with k|⟨_,k⟩
   .exact name_of_addr t.apart (PySem.mem_of_lookup C) (PySem.mem_of_lookup k)
   grind
  .rcases jg k with k|⟨_,k⟩
   .grind
   .exact I.ok.inj x y c (h x c C) (h y c k)
 .show ∃c,(f++bo X.env scope.names []).lookup x=some c
  rw[HB]
  cases e:f.lookup x with
  | some c=>grind
  | none=>
    rcases NW J with P|P
    .obtain⟨c,t⟩:=I.ok.has x (S.fr _ P rfl)
     exact HA (l7 scope.names [] x c P t)
    .obtain⟨c,t⟩:=E x (S.cellU _ P rfl)
     grind
 .have z':scope.names.lookup x=some NameKind.cell:=by simpa using z
  obtain⟨d,Y⟩:=E x z';rcases jg e with e|⟨e,_⟩
  .grind
  ext
 .rcases jg e with e|⟨_,e⟩
  .grind
  .exact(M b g).2.2.2.2.1 x c (h x c e)
 .rcases(M b g).2.2.2.1 with z|z
  .exact I.ok.noex b o e z
  .exact absurd (Qi (ql e) (Qg I.ok.bsz z)) (Nat.lt_irrefl _)
 .have hi:i<src.length:=by
   have:=(qo k).1;unfold c_ at this
   ext
  have A:src[i]?=some src[i]:=qr hi;unfold c_ at k;rw[Qm,A]at k;have F:(src[i].bind λj=>(σ[j]?).join)=some v:=wx k;cases q:src[i]with
  | none=>ext
  | some j=>
    rw[q]at F A;have W:(σ[j]?).join=some v:=F;obtain⟨J,D⟩:=S.cap i j x C A;obtain⟨m,_,Z⟩:=I.loc;have G:X.env.kindOf x=some NameKind.cell\/X.env.kindOf x=some NameKind.free:=S.fr (x,NameKind.free) (PySem.mem_of_lookup D) rfl
    have Q:σ[j]?=some (some v):=by
     grind
    obtain⟨u,r,l⟩:=Z j x v J Q (.inr G);refine⟨u,r,.inr ⟨NV D G,?_⟩⟩;rcases l with⟨z,_⟩|⟨_,c,t,B⟩
    .simp_all
    .obtain⟨d,Y⟩:=HA (l7 (env:=X.env) scope.names [] x c (PySem.mem_of_lookup D) t)
     have K:=h x d Y;rw[t]at K;cases K;refine⟨c,?_,B.keeps O⟩;show(f++bo X.env scope.names []).lookup x=some c;grind
 .rcases jg e with e|⟨_,e⟩
  .exact⟨_,(t.empty x c (PySem.mem_of_lookup e)).1⟩
  .obtain⟨v,q⟩:=I.cell x c (h x c e)
   exact⟨v,q.keeps O⟩
 .rcases jg e with e|⟨_,e⟩
  .exact I.hok.fresh (Nat.le_of_lt (V x c e))
  .exact I.freeC x c (h x c e)
 .unfold c_
  rw[qf];exact S.len
def NZ{σ c:St}(I:Inv X pins σ H s)(a:∀b∈d,cU X pins H b)(J:Inv (cJ X scope N f C d s H) e c H' s'):Inv X pins σ H' s':=
 I.call' J.os J.base J.hok J.bare λb g=>⟨(a b g).2.2.2.1,(a b g).2.1,(a b g).2.2.2.2.1,(a b g).2.2.2.2.2⟩
theorem HC{σ:St}{Q:VK}{R:Value->Addr->Result->Shared->Prop}(S:gu X.N X.env.scope N src scope)(hc:X.calm=true)(hg:∀cl C k s H,PG (cJ X scope N cl C k s H) tg g)(hi:∀cl C k s H,dS (cJ X scope N cl C k s H) ifs ti)(he:∀cl C k s H,PE (cJ X scope N cl C k s H) elt te)(I:Inv X pins σ H s)(T:dP X.prog X.w X.K tg J k it tn)(st:tn 0 s.heap)(hf:∀b∈k,cU X pins H b)(h:∀p,H p=none->∃W:Nat->Nat->St->Hp->Prop,(∃m,W 0 m (c_ src σ) (upd H p (.lst [])))/\∀i m σ1 H2,W i m σ1 H2->
  (J.stop i H2/\Q (.ref p) H2)\/
  (J.go i H2/\∀x G,J.yld i H2 x G->g x σ1 G λO H4=>ti O H4 λb H5=>if b=true then te O H5 λv H6=>∃xs,H6 p=some (.lst xs)/\xs.length<sizeLine/\∃A,A<m/\W (i+1) A O (upd H6 p (.lst (xs++[v])))else ∃A,A<m/\W (i+1) A O H5))(hR:∀(D C:Addr) (s':Shared) (H':Hp) (m:AF),Inv X pins σ H' s'->s'.heap.Ns C m->H' C=none->C≠X.env.locals->X.s₀.heap.objs.size<=C->(∀x c,X.env.cells.lookup x=some c->c≠C)->(∀p∈X.pn++pins,p.1≠C)->Q (.ref D) H'->R (.ref D) C (.ok .next) s'):
 Zh X (newList []) (λacc s₃=>Zh X (newFunctionEnv scope X.env.globals (bo X.env scope.names []) [] X.env.qual none .none (some X.env)) (λZ s₄=>
  codeAny (mZ X.prog X.w) X.A (.compStart (.ListComp elt [⟨tg,iter,ifs,0⟩] scope pos) 0 (.ref it) acc {Z with scope:=relabel scope X.env}) (R acc Z.locals) s₄) E s₃) E s:=by
 refine we (NX ?_);have hfree:H (~~~s)=none:=I.fresh;obtain⟨W,⟨m0,w0⟩,turn⟩:=h (~~~s) hfree;have I3:Inv X pins σ (upd H (~~~s) (.lst [])) {s with heap:=s.heap.push {cls:=.type "list",dict:=none,data:=.seq ([]:AE).toArray},toks:=s.toks}:=I.lnew (ys:=[]) (its:=[]) .nil (Qh _);generalize hD:(~~~s)=L at *;generalize hH3:upd H L (.lst [])=G at *;have kp0:∀b o,s.heap.get? b=some o->(s.heap.push {cls:=.type "list",dict:=none,data:=.seq ([]:AE).toArray}).get? b=some o:=λb o e=>qe _ e
 have lt0:∀b o,s.heap.get? b=some o->b≠L:=λb o e=>by rw[<-hD];exact qm (ql e)
 generalize hs3:s.heap.push {cls:=.type "list",dict:=none,data:=.seq ([]:AE).toArray}=a at *
 have f3:∀b∈k,cU X pins G b:=λb l=>by
  obtain⟨o,e,_⟩:=T.obj _ _ st b l;refine⟨?_,(hf b l).2⟩;rw[<-hH3,Yj (lt0 b o e)];exact(hf b l).1
 have ob3:∀b∈k,∃o,a.get? b=some o:=λb l=>by
  obtain⟨o,e,_⟩:=T.obj _ _ st b l;exact⟨o,kp0 b o e⟩
 dsimp only;have M:(pushCells (a.push {cls:=.type "dict",data:=.dict #[]}) scope.names).Ns a.objs.size (λ_=>none):=(Heap.Ns.new a (.type "dict")).keeps (pushCells_keeps _ _);have old:∀b o,a.get? b=some o->(pushCells (a.push {cls:=.type "dict",data:=.dict #[]}) scope.names).get? b=some o:=λb o e=>pushCells_keeps _ _ b o (qe _ e);have cok:=cellsFrom_ok scope.names (a.push {cls:=.type "dict",data:=.dict #[]}) (a.objs.size+1) [] ⟨λ_ _ V=>(nomatch V),List.Pairwise.nil⟩ (by rw[wq];exact qv _);rw[wq]at cok;have chas:∀x,scope.names.lookup x=some NameKind.cell->∃c,(cellsFrom (a.objs.size+1) scope.names []).lookup x=some c:=λx hx=>Option.isSome_iff_exists.mp (PySem.W.cellsFrom_some _ _ _ (.inl hx));have cmem:∀x c,(x,c)∈cellsFrom (a.objs.size+1) scope.names []->(x,NameKind.cell)∈scope.names:=λx c h=>xY _ _ x c h;generalize cellsFrom (a.objs.size+1) scope.names []=z,pushCells (a.push {cls:=.type "dict",data:=.dict #[]}) scope.names=F at *
 have I4:Inv (cJ X scope N (z++bo X.env scope.names []) a.objs.size k {s with heap:=a,toks:=s.toks} G) [] (c_ src σ) G {s with heap:=F,toks:=s.toks}:=
  NY (s:={s with heap:=a,toks:=s.toks}) (tk:=s.toks) S I3 f3 ob3 M old cok cmem chas
 have st4:tn 0 F:=T.keep _ _ _ st λb _ o e=>old b o (kp0 b o e);have hCl:a.objs.size≠X.env.locals:=Nat.ne_of_gt I3.lt
 have hCc:∀x c,X.env.cells.lookup x=some c->c≠a.objs.size:=λx c e=>by
  obtain⟨v,q⟩:=I3.cell x c e;exact qm q.lt
 have hCp:∀p∈X.pn++pins,p.1≠a.objs.size:=λp hp=>qm (ql (I3.pin p hp).1)
 have K:∀{H':Hp},(∀b∈k,H' b=none)->∀b∈k,cU _ [] H' b:=λ{H'} hn b l=>by
  obtain⟨e1,e2⟩:=I4.ok.exf b l;exact⟨hn b l,e1,I4.ok.exfs b l,.inl l,e2,λp hp=>nomatch hp⟩
 have loop:codeAny (mZ X.prog X.w) X.A (.compLoop (.ListComp elt [⟨tg,iter,ifs,0⟩] scope pos) 0 (.ref it) (.ref L) (compEnvC scope (z++bo X.env scope.names []) a.objs.size X.env)) (R (.ref L) a.objs.size) {s with heap:=F,toks:=s.toks}:=by
  refine NU (λn s'=>∃i B H',Inv (cJ X scope N (z++bo X.env scope.names []) a.objs.size k {s with heap:=a,toks:=s.toks} G) [] B H' s'/\tn i s'.heap/\(∀b∈k,H' b=none)/\W i n B H') ?_ m0 ⟨0,_,G,I4,st4,λb l=>(f3 b l).1,w0⟩;rintro n s3 ⟨i,Y,U,I3',st3,fr3,w3⟩;rcases turn i n Y U w3 with⟨stop,qn⟩|⟨go,step⟩
  .refine aS (T.done (cJ X scope N (z++bo X.env scope.names []) a.objs.size k {s with heap:=a,toks:=s.toks} G) rfl rfl rfl hc i [] s3 Y U _ I3' (K fr3) st3 stop) λr s4 j=>?_
   obtain⟨hr,I5⟩:=j;subst hr;obtain⟨m,V,_⟩:=I5.loc;exact hR L a.objs.size s4 U m (NZ I3 f3 I5) V I5.free hCl (Qg I3.sz (qv _)) hCc hCp qn
  .refine aS (T.item (cJ X scope N (z++bo X.env scope.names []) a.objs.size k {s with heap:=a,toks:=s.toks} G) rfl rfl rfl hc i [] s3 Y U _ I3' (K fr3) st3 go) λr s4 j=>?_
   obtain⟨u,hr,h4⟩:=j;subst hr;refine aS h4 λ_ s5 j=>?_;obtain⟨x,H5,I5,r5,y5,st5,fr5⟩:=j;have I5':=I5.pinned (K fr5) (T.obj _ _ st5);have un:∀{α:Type}{t:Sem α}{Q':α->Shared->Prop}{E':AC}{s':Shared},Zh X t Q' (λ_ _=>False) s'->Zh X t Q' E' s':=λh=>wv h (λ_ _ q=>q) λ_ _ f=>f.elim;refine un (aS (hg _ _ _ _ _ _ s5 Y H5 x u _ I5' r5 (step x H5 y5)) λ_ s6 j=>?_);obtain⟨w,H6,I6,q6⟩:=j;refine un (aS (hi _ _ _ _ _ _ s6 w H6 _ I6 q6) λok s7 j=>?_);obtain⟨H7,I7,q7⟩:=j
   have again:∀{H8:Hp}{s8:Shared}{A:Nat},A<n->Inv (cJ X scope N (z++bo X.env scope.names []) a.objs.size k {s with heap:=a,toks:=s.toks} G) ([]++pS k s5.heap) w H8 s8->W (i+1) A w H8->
    ∃m,m<n/\∃i B H',Inv _ [] B H' s8/\tn i s8.heap/\(∀b∈k,H' b=none)/\W i m B H':=λ{H8 s8 A} V I8 w8=>by
    refine⟨A,V,i+1,w,H8,I8.unpinned,T.keep _ _ _ st5 λb l o e=>(I8.pin (b,o) (Qr _ (Qr _ (pT l e)))).1,λb l=>?_,w8⟩;obtain⟨o,e,d⟩:=T.obj _ _ st5 b l;exact(I8.pin (b,o) (Qr _ (Qr _ (pT l e)))).2.1
   cases ok with
   | false=>
     rw[if_neg qi]at q7 ⊢;obtain⟨A,V,w7⟩:=q7;exact again V I7 w7
   | true=>
     rw[if_pos rfl]at q7 ⊢;refine un (aS (he _ _ _ _ _ _ s7 w H7 _ I7 q7) λy s8 j=>?_);obtain⟨v,H8,I8,r8,q8⟩:=j;obtain⟨xs,e8,z8,A,V,w8⟩:=q8;refine un (aS (Hy _ s8 w H8 (.ref L) [v] (.ref L) [y] (λ_ H9=>H9=upd H8 L (.lst (xs++[v]))) I8 rfl (.cons r8 .nil) ⟨L,xs,v,rfl,rfl,e8,z8,rfl⟩) λ_ s9 j=>?_);obtain⟨_,H9,I9,_,q9⟩:=j;subst q9;exact again V I9 w8
 exact codeAny_compStart_list loop (T.self _ _ _ _ _ st4 loop)
def xZ(S:gu X.N X.env.scope N src scope)(M:X.calm=true)(l:PI X tg iter wi)(P:∀c C a s H,PG (cJ X scope N c C a s H) tg g)(t:∀c C a s H,dS (cJ X scope N c C a s H) ifs ti)(O:∀c C a s H,PE (cJ X scope N c C a s H) elt te)(hs:∀x,foldedSetIterable iter X.env x=pure x:=by intro _;rfl):PE X (.ListComp elt [⟨tg,iter,ifs,0⟩] scope pos) (xX wi src g ti te):=by
 intro w s σ H Q I h;refine wpAny_comprehension_free rfl hs (Hz λy K F=>I.ok.has y.1 (S.fr y K F)) S.kind S.names (aS (l _ s σ H _ I h) λv Y r=>aS r λU W j=>?_);obtain⟨V,a,Z,J,H2,e,u,T,i,G,q⟩:=j;subst e
 exact HC S M P t O u T i G q λD C s' R m B p E k d n f z=>⟨m,p,λh' L=>⟨.ref D,R,B.turned (λb o A e=>(L.2 b A).trans e) E k (.inr d) n f,rfl,z⟩⟩
theorem x3{M c:Pos}(S:gu X.N X.env.scope N src scope)(hc:X.calm=true)(u:PI X tg iter wi)(Z:∀f C d s H,PG (cJ X scope N f C d s H) tg g)(hi:∀f C d s H,dS (cJ X scope N f C d s H) ifs ti)(Q:∀f C d s H,PE (cJ X scope N f C d s H) elt te)(O:X.N.Nodup)(F:X.N[i]?=some y)(V:ec X.env.scope y)(p:swapsWith (.ListComp elt [⟨tg,iter,ifs,0⟩] scope pos) (some (.Name y M)) c.line X.env=pure true)(G:X.fn y=true\/X.env.scope.names.lookup y=some .local:=by trivial)(hs:∀x,foldedSetIterable iter X.env x=pure x:=by intro _;rfl):PS X (.Assign [.Name y M] (.ListComp elt [⟨tg,iter,ifs,0⟩] scope pos) c) (fJ (xX wi src g ti te) (kC i)):=by
 intro w s A H D I h;rw[exec_Assign_Name_used _ _ _ _ p];refine wa (wpAny_standAt (wa (wa (wv (wpAny_comprehension_free rfl hs (Hz λy F G=>I.ok.has y.1 (S.fr y F G)) S.kind S.names (aS (u _ s A H _ I h) λv s1 h1=>aS h1 λitv s2 B=>?_)) (λ_ s' n=>wb (wb n)) λ_ _ e=>e))));obtain⟨it,d,tn,J,H2,e,I2,T,r,U,q⟩:=B;subst e;refine HC (Q:=λx H1=>kC i x A H1 _) S hc Z hi Q I2 T r U q λDd C s' H' m Y hm P z j k E n=>wpAny_assign_Name (GV Y O F V (v:=.ref Dd) rfl (λs'' t K=>?_) G);obtain⟨a,W,ha⟩:=K
 have L:C≠a:=by
  grind
 exact⟨m,hm.sameBut W L,λh' l=>⟨_,H',t.turned (λb o R e=>(l.2 b R).trans e) P z (.inr j) k E,n⟩⟩
end
end L2
namespace M
variable {prog:P7}{K:W7}{X:Cx}{fa fk fz f2:AW}{ga gl:AX}{pos pos' pt px pos2 p3 pos3 pos4:Pos}{pins:AD}{fd:AV}{rest ifs elts:AM}{st:Stmt}{sts:List Stmt}{fs gs:AT}{tg elt iter ie ke f':Expr}{scope:Scope}{mg:AF}{base:Heap}{x1:Nat}
open PySem PySem.Spec PyProof.Rows L2
def cb(xs:Array Nat):Prop:=xs.toList.Pairwise (·<·)
theorem x4(f:cb xs)(j:Nat):∀(a lo b:Nat),lo<=b->b<=xs.size->b-lo<=a->
 (∀(i:Nat) (h:i<xs.size),i<lo->xs[i]<j)->(∀(i:Nat) (h:i<xs.size),b<=i->j<=xs[i])->
 SetTable.below.go xs j a lo b<=xs.size/\(∀(i:Nat) (h:i<xs.size),i<SetTable.below.go xs j a lo b->xs[i]<j)/\(∀(i:Nat) (h:i<xs.size),SetTable.below.go xs j a lo b<=i->j<=xs[i])
 | 0,lo,b,p,l,t,g,n=>by
   rw[SetTable.below.go];grind
 | a+1,lo,b,p,l,t,g,n=>by
   have m:∀(i k:Nat) (b:i<xs.size) (s:k<xs.size),i<k->xs[i]<xs[k]:=λi k b s h=>by
    have:=List.pairwise_iff_getElem.mp f i k (by ext) (by ext) h
    ext
   rw[SetTable.below.go];by_cases r:lo<b
   .rw[if_pos r]
    have u:(lo+b)/2<xs.size:=by lia
    have q:xs.getD ((lo+b)/2) j=xs[(lo+b)/2]:=by ext
    dsimp only;rw[q];by_cases c:xs[(lo+b)/2]<j
    .rw[if_pos c]
     refine x4 f j a _ _ (by lia) l (by ext<;>lia) (λi d o=>?_) n;by_cases e:i=(lo+b)/2
     .simp_all
     grind
    .rw[if_neg c]
     refine x4 f j a _ _ (by lia) (by lia) (by ext<;>lia) g (λi d o=>?_);by_cases e:i=(lo+b)/2
     .subst e;ext
     grind
   grind
theorem HD(l:cb xs)(j:Nat):SetTable.below xs j<=xs.size/\(∀a∈xs.toList.take (SetTable.below xs j),a<j)/\(∀a∈xs.toList.drop (SetTable.below xs j),j<=a):=by
 obtain⟨k,f,g⟩:=x4 l j xs.size 0 _ (Qh _) (qv _) ∅ (λi _ h=>absurd h (Nat.not_lt_zero _)) (λi h n=>absurd h ∅);have e:SetTable.below xs j=SetTable.below.go xs j _ 0 _:=rfl;refine⟨k,λa b=>?_,λa b=>?_⟩
 .obtain⟨i,d,rfl⟩:=List.mem_iff_getElem.mp b
  rw[List.length_take]at d
  have c:i<xs.size:=by ext<;>ac_nf
  rw[List.getElem_take];exact f i c (by ext)
 .obtain⟨i,d,rfl⟩:=List.mem_iff_getElem.mp b
  rw[List.length_drop]at d
  have m:xs.toList.length=xs.size:=by simp
  rw[List.getElem_drop];exact g _ (by ext<;>ac_nf) (by ext)
def gQ(xs:Array a)(p:Nat)(x:a):(SetTable.insertAt xs p x).toList=xs.toList.take p++x::xs.toList.drop p:=by
 unfold SetTable.insertAt;simp[Array.toList_extract];exact List.take_of_length_le nofun
theorem HE(d:cb xs)(j:Nat)(e:xs[SetTable.below xs j]?≠some j):cb (SetTable.insertAt xs (SetTable.below xs j) j):=by
 obtain⟨n,k,f⟩:=HD d j;unfold cb at d ⊢;rw[gQ];generalize q:SetTable.below xs j=p at n k f e ⊢;rw[<-Array.getElem?_toList]at e;generalize xs.toList=l at d k f e ⊢;rw[<-List.take_append_drop p l,List.pairwise_append]at d;obtain⟨o,h,s⟩:=d
 have m:∀a∈l.drop p,j<a:=by
  cases i:l.drop p with
  | nil=>grind
  | cons b r=>
    rw[i]at h f
    have t:l[p]?=some b:=by
     have:(l.drop p)[0]?=some b:=by rw[i];rfl
     grind
    have c:=Nat.lt_of_le_of_ne (f b qh) (λz=>e (by rw[t,z]));intro a g;rcases qu g with rfl|g
    .exact c
    .exact Nat.lt_trans c ((List.pairwise_cons.mp h).1 a g)
 rw[List.pairwise_append]
 ext
theorem HF{t:SetTable}(h:∀i,t.slot j≠.live i):t.place[SetTable.below t.place j]?≠some j:=λz=>by
 refine h (SetTable.below t.place j) ?_;unfold SetTable.slot
 ext
theorem x5:∀(a:Nat) (p:SetTable.Probe) {j:Nat}{d:AN},(∀x,p.dummy=some x->∀i,t.slot x≠.live i)->
 SetTable.probe.go t g h a p=some (.empty j d)->∀i,t.slot (d.getD j)≠.live i
 | 0,p,j,d,_,e=>by cases e
 | a+1,p,j,d,f,e=>by
   rw[SetTable.probe.go]at e
   split at e
   .cases k:p.dummy with
    | none=>grind
    | some x=>grind
   .refine x5 a _ (λx b i=>?_) e
    have c:x=p.j:=by
     unfold SetTable.advance at b;grind
    grind
   .split at e
    .cases e
    .refine x5 a _ (λx b i=>f x ?_ i) e
     unfold SetTable.advance at b;grind
def Tab(a:Bool)(t:SetTable):Prop:=(a=false->t.led=true)/\(t.plain=true->cb t.place)
def Tab.standIn(h:Tab a t)(n:Nat):Tab a (t.standIn n):=⟨h.1,λz=>nomatch z⟩
def Tab.off(h:Tab a t):Tab a {t with plain:=false}:=⟨h.1,λz=>nomatch z⟩
def Tab.fresh:Tab a (.fresh 0 0 (!a)):=⟨λh=>by subst h;rfl,λ_=>.nil⟩
def Tab.layNew(h:Tab g t)(i:Array (Int×Value))(e:Int)(x:Value):Tab g (PySem.layNew t i e x).2.1:=by
 unfold PySem.layNew
 split
 .rename_i b l c
  dsimp only;unfold SetTable.orStandIn
  split
  .refine⟨h.1,λz=>HE (h.2 z) b (HF ?_)⟩
   unfold SetTable.freeSlot at c
   split at c
   .rename_i j d k
    cases c;exact x5 _ _ (λx f=>by simp[SetTable.probeStart]at f) k
   .cases c
  .exact⟨h.1,λz=>nomatch z⟩
 .exact h.standIn _
theorem x6{led plain:Bool}(h:SetTable.laid mask finger moves led plain hs=some (t,o)):cb t.place/\t.led=led/\t.plain=plain:=by
 obtain⟨f,_,h⟩:=qa h;cases h;refine⟨?_,rfl,rfl⟩;rw[List.map_filterMap];refine .filterMap _ (λa b c x e y d=>?_) List.pairwise_lt_range
 ext
def Tab.relayAll(h:Tab c t)(f:Array (Int×Value))(n:Nat):Tab c (PySem.relayAll t f n).2.1:=by
 unfold PySem.relayAll
 split
 .rename_i j b e
  obtain⟨g,d,i⟩:=x6 e;dsimp only
  split
  .exact⟨λz=>by rw[d];exact h.1 z,λ_=>g⟩
  .exact h.standIn _
 .exact h.standIn _
section
variable {w:World}{A:Around}{E:AC}{s:Shared}
noncomputable def cV(e:Int×Value):Int:=match e.2 with
 | .int n _=>n
 | _=>0
noncomputable abbrev dA(w:World):Bool:=w.params.followText "set-order"
def SetI(prog:P7)(w:World)(h:Heap)(a:Addr)(ns:AH):Prop:=
 ∃o b c t,h.get? a=some o/\o.ExactSet/\o.data=.set b c t/\ElemsOf (intKind prog w) b.toList/\b.toList.map cV=ns/\ns.Nodup/\b.size<scanBound/\t.fits b.size=true/\Tab (dA w) t
def x8(h:(intKind prog w).is k e.2=true):cV e=k:=by
 obtain⟨t,a⟩:=Value.isInt_shape h;unfold cV;rw[a]
def kH(h:ElemsOf (intKind prog w) d)(b:e∈d):∃t,e=(hashInt (cV e),.int (cV e) t):=by
 obtain⟨⟨k,a,c⟩,_⟩:=h e b;obtain⟨t,f⟩:=Value.isInt_shape a;refine⟨t,?_⟩;rw[x8 a];exact Prod.ext c f
def SetI.at(x:SetI prog w h a ns)(e:∀o,h.get? a=some o->f.get? a=some o):SetI prog w f a ns:=
 let ⟨o,c,d,t,b,r⟩:=x
 ⟨o,c,d,t,e o b,r⟩
theorem SetI.len(x:SetI prog w h a ns):ns.length<scanBound:=by
 obtain⟨o,g,i,t,f,b,j,d,e,c,k,_⟩:=x;grind
def iw{h:Heap}(d:h.get? a=some o)(c:o.data=.set f e t)(b:Array (Int×Value))(t':SetTable):
 (h.update a (Obj.putSet b t')).get? a=some {o with data:=.set b (e+1) t' }:=by
 have:=wt (.putSet b t') d (by rw[putSet_of b t' c];rfl)
 rwa [putSet_of b t' c]at this
theorem HG{g:Bool->Sem Unit}(N:∀(b:Bool) (i:Shared) (F:Unit->Shared->Prop),F () i->wpAny (mZ prog w) A (g b) F E i)(G:s.heap.get? a=some o)(n:o.ExactSet)(H:o.data=.set P O t)(f:ElemsOf (intKind prog w) c.toList)(k:(c.toList.map cV).Perm J)(u:J.Nodup)(p:c.size<scanBound)(D:d.fits c.size=true)(v:Tab (dA w) d)(h:∀Q x,Heap.SameBut a s.heap Q->SetI prog w Q a x->x.Perm J->R (some true) {s with heap:=Q}):
  wpAny (mZ prog w) A (do
   storeSet a c d
   if (!m&&d.tooFull)=true then do
       g (relayAll d c (SetTable.grown c.size)).2.2
       storeSet a (relayAll d c (SetTable.grown c.size)).1 (relayAll d c (SetTable.grown c.size)).2.1
       pure (some true)
    else pure (some true)) R E s:=by
  refine wa (wpAny_storeSet_of G H ?_ (fits_of_scanBound p));have l:=iw G H c d;have j:=wo s.heap a (.putSet c d)
  split
  .have B:=relayAll_perm d c (SetTable.grown c.size)
   have q:=relayAll_fits d c (SetTable.grown c.size);have z:=v.relayAll c (SetTable.grown c.size);generalize M:relayAll d c _=L at B q z ⊢;obtain⟨e,I,C⟩:=L
   have K:e.size=c.size:=by rw[<-qj,B.length_eq,qj]
   have r:e.size<scanBound:=by ext
   have y:=(B.map cV).trans k;exact wa (N _ _ _ (wa (wpAny_storeSet_of l rfl (wb (h _ _ (j.trans (.update _ a _)) ⟨_,e,_,I,iw l rfl e I,n,rfl,f.perm B,rfl,y.nodup_iff.mpr u,r,q,z⟩ y)) (fits_of_scanBound r))))
  .exact wb (h _ _ j ⟨_,c,_,d,l,n,rfl,f,rfl,k.nodup_iff.mpr u,p,D,v⟩ k)
theorem HI(Z:SetI prog w s.heap a ns)(P:ns.length+1<scanBound)(h:∀h' f,Heap.SameBut a s.heap h'->SetI prog w h' a f->f.Perm (if k∈ns then ns else ns++[k])->Q (!decide (k∈ns)) {s with heap:=h' }):
 wpAny (mZ prog w) A (setAddHashed a (.int k u) (hashInt k)) Q E s:=by
 have R:=Z;obtain⟨o,F,ep,t,J,I,K,l,z,hnd,hb,X,ht⟩:=Z;have v:(intKind prog w).is k (.int k u)=true:=intKind_is _ _ _ _;have C:(Value.int k u).scannable=true:=rfl
 have hsz:F.size=ns.length:=by grind
 unfold setAddHashed setAddHashedIn;refine wc (wa (wf J K X ?_));dsimp only;rw[byScan_of C hb l];simp only[↓reduceIte];unfold setAddByScan;refine wa ?_;refine wa (wpAny_rule ?_);refine wa (wpAny_setScan_of (knd:=intKind prog w) (k:=k) v J K X l ?_)
 cases Y:List.findIdx? (λe=>(intKind prog w).is k e.2) F.toList with
 | some j=>
   dsimp only;obtain⟨hj,O,_⟩:=List.findIdx?_eq_some_iff_getElem.mp Y
   have M:k∈ns:=by
    rw[<-z,<-x8 O];grind
   refine wb (wb ?_);have:=h s.heap ns (Heap.SameBut.refl a s.heap) R (by grind)
   ext
 | none=>
   dsimp only
   have M:k∉ns:=λM=>by
    rw[<-z]at M;obtain⟨e,W,N⟩:=qy M;have h1:=List.findIdx?_eq_none_iff.mp Y e W;obtain⟨t',T⟩:=kH l W;rw[T,N]at h1;have h2:(intKind prog w).is k (.int k t')=true:=intKind_is _ _ _ _;grind
   have S:∀(b:Bool) {g:Shared}{G:Unit->Shared->Prop},G () g->wpAny (mZ prog w) A (match b with|true=>rule "set.scan.the-table-gave-way" | false=>pure ()) G E g:=
    λb g G r=>by cases b<;>first|exact wb r|exact wpAny_rule r
   have c:=layNew_perm t F (hashInt k) (.int k u);have d:=layNew_fits t F (hashInt k) (.int k u);have i:=ht.layNew F (hashInt k) (.int k u);generalize hL:layNew t F (hashInt k) (.int k u)=L at c d i ⊢;obtain⟨x,t1,D,V⟩:=L;dsimp only at c d i ⊢;rw[Array.toList_push]at c;have m:ElemsOf (intKind prog w) x.toList:=(l.push (knd:=intKind prog w) (k:=k) v C).perm c
   have p:x.size<scanBound:=by rw[<-qj,c.length_eq,qz,qj];simp;lia
   have H:(x.toList.map cV).Perm (ns++[k]):=by
    have:=c.map cV;rw[Qk,z]at this;exact this
   have q:(ns++[k]).Nodup:=by
    grind
   have n:∀h' f,Heap.SameBut a s.heap h'->SetI prog w h' a f->f.Perm (ns++[k])->Q true {s with heap:=h' }:=by
    grind
   refine wa (S _ ?_)
   split
   .refine wa ?_
    rw[hashByValue_scannable 8 C];refine wb ?_;refine HG ?_ J I K m H q p ?_ ?_ ?_
    .intro b g G r;cases b<;>first|exact wb r|exact wpAny_rule r
    .split
     .exact d
     .exact SetTable.fits_plain_off d
    .split
     .exact i
     .exact i.off
    .intro h' f B y U;dsimp only;exact wb (n h' f B y U)
   .refine wa (wb ?_)
    simp only[↓reduceIte];refine HG ?_ J I K m H q p d i ?_
    .intro b g G r;cases b<;>first|exact wb r|exact wpAny_rule r
    .intro h' f B y U;dsimp only;exact wb (n h' f B y U)
end
noncomputable def aO:AH->AH->AH
 | a,[]=>a
 | a,k::r=>aO (if k∈a then a else a++[k]) r
theorem HJ:∀(r a b:AH),a.Perm b->(aO a r).Perm (aO b r)
 | [],_,_,h=>h
 | k::r,a,b,h=>by
   refine HJ r _ _ ?_;symm
section
variable {w:World}{A:Around}{R:Result->Shared->Prop}{I:Addr}{fp wr:List Addr}{G:Array GenState->Array GenState->Prop}{n:Nat}{P:Nat->Value->Prop}{St:Nat->Shared->Prop}
theorem HK(W:WalksS prog w A.in1 I fp wr G n P St)(S:Addr)(y:S∉fp)(g:AH)(Y:g.length=n)(B:∀i v,P i v->∃t,v=.int (g.getD i 0) t)(Z:n+1<scanBound):
 ∀(k i:Nat) (s:Shared) (ns:AH),n-i=k->i<=n->St i s->ns.length<=i->SetI prog w s.heap S ns->
  (∀s' a,Moved (S::wr) G s s'->SetI prog w s'.heap S a->a.Perm (aO ns (g.drop i))->R (.ok (.ret .none)) s')->
  codeAny (mZ prog w) A (.builtin "set.update.loop" ⟨[.ref S,.ref I],[]⟩) R s:=by
 have u:S∉wr:=λh=>y (W.sub _ h);have c:∀b∈wr,b∈S::wr:=λb Z=>qg _ Z;intro k
 induction k with
 | zero=>
   intro i s ns X V f T D K
   have L:i=n:=by lia
   subst L;refine wu F.entry_set_update_loop ?_;refine wa (W.done s _ _ f λs' j=>?_);show wpAny _ A.in1 (ret Value.none) _ _ s';refine wb (K s' ns (j.mono c) (D.at λo e=>j.heap S _ u e) ?_);rw[List.drop_of_length_le (by lia),aO]
 | succ k U=>
   intro i s ns X V f T D K
   have z:i<n:=by lia
   refine wu F.entry_set_update_loop ?_;refine wa (W.item i s _ _ z f λv s' O p j=>?_);obtain⟨t,rfl⟩:=B i v O;have E:SetI prog w s'.heap S ns:=D.at λo e=>j.heap S _ u e;generalize Q:g.getD i 0=x
   have d:g.drop i=x::g.drop (i+1):=by
    rw[List.drop_eq_getElem_cons (by ext),<-Q,List.getD_eq_getElem?_getD,qr (by ext)];rfl
   refine wa (wc ?_);unfold setAdd;refine wc ?_;refine wa ((intKind prog w).pyHash (k:=x) (intKind_is _ _ _ _) ?_);refine HI (s:={ s' with toks:=s'.toks+1}) E (by lia) λh' a C M N=>?_
   have J:a.length<=i+1:=by
    rw[N.length_eq];grind
   refine wb ⟨w5 F.plain_set_update_loop _,U (i+1) _ a (by ext<;>lia) z (W.frame _ s' _ _ p (Nat.le_succ _) λb Z o e=>?_) J M λH m q r l=>?_⟩
   .rw[C.2 b (λh:b=S=>y (by grind))];exact e
   .refine K H m (Moved.trans W.gtrans ((j.mono c).then_heap (Nat.le_succ _) λb o Z e=>?_) q) r ?_
    .rw[C.2 b (λh:b=S=>Z (by grind))];exact e
    .rw[d,aO]
     exact l.trans (HJ _ _ _ N)
end
section
variable {w:World}{A:Around}{E:AC}{s:Shared}
def N0:isSubtype (.type "tuple") (.type "set")=pure false:=by kernel_rfl
def N1:isSubtype (.type "tuple") (.type "frozenset")=pure false:=by kernel_rfl
theorem x9(k:TypeCalled T l h)(G:checkTypeCall T ⟨g,[]⟩=pure ())(j:entryFor table h=some H)(o:codeAny (mZ prog w) A.in1 (.call (.builtin l) ⟨.type T::g,[]⟩) (wants Q₁ E) s)(m:∀d b,Q₁ d b->b.TypeIs d T/\(∀(K:Around) (L:AC) (z:Unit->Shared->Prop),z () b->wpAny (mZ prog w) K (checkBuiltinCall h ⟨d::g,[]⟩) z L b)/\
  wpAny (mZ prog w) A.in1.in1 (H ⟨d::g,[]⟩)
   (λv s'=>match v with|.done f=>wants (λr a=>r=.none/\Q d a) E (.ok f) s'|.again C=>C.quiet=true/\codeAny (mZ prog w) A.in1 C (wants (λr a=>r=.none/\Q d a) E) s')
   (λe s'=>wants (λr a=>r=.none/\Q d a) E (.error e) s') b):
 wpAny (mZ prog w) A (call (.type T) g) Q E s:=by
 obtain⟨c,P,B⟩:=k.mro;have t:=k.made;have D:=k.sub;refine wpAny_call (codeAny_of_tree ?_);refine wb ⟨Code.quiet_builtin _ (by decide +kernel),wu F.entry_type_call ?_⟩;have R:=k.notType;have O:=k.canCreate
 repeat (any_goals (first|assumption|wp_step))
 refine codeAny_mono o λr b u=>?_
 cases r with
 | error e=>exact u
 | ok q=>
   cases q with
   | ret d=>
     obtain⟨N,y,x⟩:=m _ _ u;have I:=k.init.lookup;have J:=k.init.bind d
     repeat (any_goals (first|assumption|wp_step))
     refine codeAny_mono (codeAny_call_builtin k.init.plain j (y _ _ _ x)) λp a i=>?_
     cases p with
     | error e=>exact i
     | ok n=>
       cases n with
       | ret r=>
         obtain⟨rfl,M⟩:=i
         repeat (any_goals (first|assumption|wp_step))
       | _=>ext
   | _=>exact u.elim
abbrev bY(w:World):Obj:={cls:=.type "set",dict:=none,data:=.set #[] 0 (.fresh 0 0 (!dA w))}
def x_(a:Value)(h:Q₁ (.ref (~~~s)) {s with heap:=s.heap.push (bY w)}):
 codeAny (mZ prog w) A (.call (.builtin "set.__new__") ⟨[.type "set",a],[]⟩) (wants Q₁ E) s:=by
 refine codeAny_of_tree (wa (wpAny_of_eq (F.newCall_set_1 a) (wb ⟨w5 F.plain_set_new _,wu F.entry_set_new ?_⟩)));have b:=sub_set_self
 wp_walk
 refine wpAny_askSetting (wb ?_);refine wa (wpAny_alloc (wb ?_));exact wb h
theorem N2{l:Addr}{a:Array Value}{u:AH}{Q:AC}(Y:A.handled=none)(X:s.heap.IsList l a)(O:IntsAre a.toList u)(hb:a.size+1<scanBound)(h:∀(h':Heap) (tk:Nat) ns,SetI prog w h' (~~~s) ns->ns.Perm (aO [] u)->
  (∀b o,b< ~~~s->s.heap.get? b=some o->h'.get? b=some o)->Q (.ref (~~~s)) {s with heap:=h',toks:=tk}):
 wpAny (mZ prog w) A (call (.type "set") [.ref l]) Q E s:=by
 refine x9 (Q₁:=λg d=>g=.ref (~~~s)/\d={s with heap:=s.heap.push (bY w)}) F.called_set (F.typeCall_set_1 _) F.entry_set_init (x_ _ ⟨rfl,rfl⟩) ?_;rintro g d ⟨rfl,rfl⟩;have M:(s.heap.push (bY w)).get? (~~~s)=some (bY w):=qp _ rfl
 have R:Shared.TypeIs {s with heap:=s.heap.push (bY w)} (.ref (~~~s)) "set":=⟨_,M,rfl⟩
 refine⟨R,λA' E' Q' Z=>check_set_init_1 R Z,?_⟩;obtain⟨U,m,k,T,r⟩:=X;obtain⟨P,f,C,c⟩:=U;simp only at k r;subst k;subst r;have q:(s.heap.push (bY w)).get? l=some {cls:=.type "list",dict:=f,data:=.seq a T,slots:=c}:=qe _ m;have N:=F.sub_list_set;have S:=F.sub_list_frozenset
 have hne:(Value.type "list"==Value.type "dict")=false:=by decide
 have y:(s.heap.push (bY w)).IsList l a:=⟨_,q,rfl,T,rfl⟩
 unfold Builtin.«set.__init__» noKeywords Builtin.Frozenset.updateFrom;generalize G:pyIter=PI
 wp_walk
 subst G;refine wpAny_pyIter_list y ?_;refine wa (wpAny_runValue ?_);have W:l< ~~~s:=ql m
 have D:A.in1.in1.in1.handled=none:=by simp[Y]
 have p:l≠(s.heap.push (bY w)).objs.size:=by
  rw[wq];grind
 have J:(~~~s)∉[(s.heap.push (bY w)).objs.size,l]:=by
  rw[wq];grind
 have x:u.length=a.size:=by have:=IntsAre.length O;grind
 have n:∀(i:Nat) (v:Value),a[i]?=some v->∃t,v=.int (u.getD i 0) t:=λi v hv=>
  IntsAre.int_at O i v (by grind)
 refine HK ((Walks.list D _ l p a).toS) (~~~s) J u x n hb (a.size-0) 0 _ [] (by lia) (Qh _)
  ⟨⟨_,qp _ rfl,rfl,rfl⟩,y.push _⟩ (qv _) ?hS0 ?hR
 case hS0=>
  have j:((s.heap.push (bY w)).push {cls:=.type "list_iterator",data:=.fields #[.ref l,.int 0 0]}).get? (~~~s)=some (bY w):=qe _ M;exact⟨bY w,#[],0,_,j,⟨rfl,rfl,rfl⟩,rfl,λe he=>by simp at he,rfl,.nil,by decide,rfl,.fresh⟩
 case hR=>
  intro s' L z B H;obtain⟨h',g',d',K,I⟩:=s';have eg:g'=s.gens:=z.gens;have ed:d'=s.drawn:=z.drawn;have V:I=s.os:=z.os;subst eg;subst ed;subst V;show wpAny _ _ _ _ _ _;refine wb ?_;show wpAny _ _ (ret Value.none) _ _ _;refine wb ⟨rfl,h h' K L B H λb o hb e=>?_⟩;have hb1:b≠(~~~s):=qm hb
  have hb2:b≠(s.heap.push (bY w)).objs.size:=by
   rw[wq];grind
  exact z.heap b o (by grind) (qe _ (qe _ e))
theorem N3{l:Addr}{a:Array Value}{p:AH}{Q:AC}(Y:A.handled=none)(X:s.heap.IsTuple l a)(O:IntsAre a.toList p)(hb:a.size+1<scanBound)(h:∀(h':Heap) (tk:Nat) ns,SetI prog w h' (~~~s) ns->ns.Perm (aO [] p)->
  (∀b o,b< ~~~s->s.heap.get? b=some o->h'.get? b=some o)->Q (.ref (~~~s)) {s with heap:=h',toks:=tk}):
 wpAny (mZ prog w) A (call (.type "set") [.ref l]) Q E s:=by
 refine x9 (Q₁:=λj f=>j=.ref (~~~s)/\f={s with heap:=s.heap.push (bY w)}) F.called_set (F.typeCall_set_1 _) F.entry_set_init (x_ _ ⟨rfl,rfl⟩) ?_;rintro j f ⟨rfl,rfl⟩;have N:(s.heap.push (bY w)).get? (~~~s)=some (bY w):=qp _ rfl
 have R:Shared.TypeIs {s with heap:=s.heap.push (bY w)} (.ref (~~~s)) "set":=⟨_,N,rfl⟩
 refine⟨R,λA' E' Q' Z=>check_set_init_1 R Z,?_⟩;obtain⟨U,m,k,G,x⟩:=X;obtain⟨P,g,K,c⟩:=U;simp only at k x;subst k;subst x;have d:(s.heap.push (bY w)).get? l=some {cls:=.type "tuple",dict:=g,data:=.seq a G,slots:=c}:=qe _ m;have S:=N0;have T:=N1
 have hne:(Value.type "tuple"==Value.type "dict")=false:=by decide
 have J:(s.heap.push (bY w)).IsTuple l a:=⟨_,d,rfl,G,rfl⟩
 unfold Builtin.«set.__init__» noKeywords Builtin.Frozenset.updateFrom;generalize C:pyIter=PI
 wp_walk
 subst C;refine wpAny_pyIter_tuple J ?_;refine wa (wpAny_runValue ?_);have W:l< ~~~s:=ql m
 have D:A.in1.in1.in1.handled=none:=by simp[Y]
 have r:l≠(s.heap.push (bY w)).objs.size:=by
  rw[wq];symm
 have L:(~~~s)∉[(s.heap.push (bY w)).objs.size,l]:=by
  rw[wq];symm
 have u:p.length=a.size:=by have:=IntsAre.length O;symm
 have n:∀(i:Nat) (v:Value),a[i]?=some v->∃t,v=.int (p.getD i 0) t:=λi v hv=>
  IntsAre.int_at O i v ⋯
 refine HK ((Walks.tuple D _ l r a).toS) (~~~s) L p u n hb (a.size-0) 0 _ [] ∅ (Qh _)
  ⟨⟨_,qp _ rfl,rfl,rfl⟩,(⟨_,qe _ d,rfl,G,rfl⟩)⟩ (qv _) ?hS0 ?hR
 case hS0=>
  have q:((s.heap.push (bY w)).push {cls:=.type "tuple_iterator",data:=.fields #[.ref l,.int 0 0]}).get? (~~~s)=some (bY w):=qe _ N;exact⟨bY w,#[],0,_,q,⟨rfl,rfl,rfl⟩,rfl,λe he=>by simp at he,rfl,.nil,by decide,rfl,.fresh⟩
 case hR=>
  intro s' M y z H;obtain⟨h',g',d',I,B⟩:=s';have eg:g'=s.gens:=y.gens;have ed:d'=s.drawn:=y.drawn;have V:B=s.os:=y.os;subst eg;subst ed;subst V;show wpAny _ _ _ _ _ _;refine wb ?_;show wpAny _ _ (ret Value.none) _ _ _;refine wb ⟨rfl,h h' I M z H λb o hb e=>?_⟩;have hb1:b≠(~~~s):=qm hb
  have hb2:b≠(s.heap.push (bY w)).objs.size:=by
   rw[wq];symm
  exact y.heap b o ⋯ (qe _ (qe _ e))
end
theorem ya{a:Type}{l:List a}(h:i<l.length):(l[i]::l.eraseIdx i).Perm l:=by
 rw[List.eraseIdx_eq_take_drop_succ]
 have e:l=l.take i++l[i]::l.drop (i+1):=by
  ext
 conv=>rhs;rw[e]
 exact List.perm_middle.symm
theorem HL(c:Nat->Nat):∀(b k:Nat) (a:List e) (f:Array e),a.length=b->(pickOrder.go c b k a f).toList.Perm (f.toList++a)
 | 0,k,a,f,h=>by
   rw[pickOrder.go]
   ext
 | b+1,k,a,f,h=>by
   rw[pickOrder.go];have d:c k%a.length<_:=Nat.mod_lt _ (by ext);rw[qr d];refine(HL c b _ _ _ (by grind)).trans ?_;rw[Array.toList_push,List.append_assoc];exact(ya d).append_left _
def yb(a:Nat->Nat)(xs:Array b):(pickOrder a xs).toList.Perm xs.toList:=by
 have:=HL a xs.size 0 xs.toList #[] nofun;simpa [pickOrder]using this
section
variable {w:World}{A:Around}{E:AC}
theorem N4(a:0<n)(h:∀i e,i<n->Q i {s with drawn:=e}):wpAny (mZ prog w) A (choose d n) Q E s:=by
 intro c p b;exact⟨by lia,h _ _ (Nat.mod_lt _ a)⟩
theorem qB:∀(n:Nat) (xs:List c) (s:Shared) (Q:List c->Shared->Prop),xs.length=n->(∀ys f,ys.Perm xs->Q ys {s with drawn:=f})->wpAny (mZ prog w) A (drawOrder n xs) Q E s
 | 0,xs,s,Q,h,a=>by
   rw[List.length_eq_zero_iff.mp h]at a ⊢;exact wb (a [] _ .nil)
 | n+1,[],s,Q,h,a=>by simp at h
 | n+1,x::xs,s,Q,h,a=>by
   refine wa (N4 nofun λi f b=>?_);rw[qr b];exact wa (qB n _ _ _ (by grind) λys d e=>wb (a _ d ((e.cons _).trans (ya b))))
end
def l_:Manifest.owners.lookup (String.ofList ['r','o','t','a','r','e','t','i','_','t','e','s'].reverse)=some Manifest.sig_set_iterator:=by kernel_rfl
theorem slot_si_next:Slot "set_iterator" "__next__" "set_iterator.__next__":=
 .of (owner:="set_iterator") (n:="__next__") (by kernel_rfl) (by decide +kernel) (by decide +kernel) (by decide +kernel)
  (by first|exact .inl (by decide +kernel)|exact .inr (by decide +kernel)) (by kernel_rfl)
def qC:entryFor table "set_iterator.__next__"=some Builtin.«set_iterator.__next__»:=entryFor_of_tree (by kernel_rfl)
def qD(a:Value):argsOk "set_iterator.__next__" ⟨[a],[]⟩:=by
 kernel_rfl
theorem HM:Slot "set_iterator" "__iter__" "set_iterator.__iter__":=
 .of (owner:="set_iterator") (n:="__iter__") (by kernel_rfl) (by decide +kernel) (by decide +kernel) (by decide +kernel)
  (by first|exact .inl (by decide +kernel)|exact .inr (by decide +kernel)) (by kernel_rfl)
def N5(a:Value):argsOk "set_iterator.__iter__" ⟨[a],[]⟩:=by
 kernel_rfl
theorem N6:entryFor table "set_iterator.__iter__"=some Builtin.«dict_keyiterator.__iter__»:=
 entryFor_alias (id':="dict_keyiterator.__iter__") (by kernel_rfl) (by first|rfl|decide +kernel|(unfold String.splitOn)) (by decide +kernel) (by kernel_rfl)
theorem HN:entryFor table "set.__iter__"=some Builtin.«frozenset.__iter__»:=
 entryFor_alias (id':="frozenset.__iter__") (by kernel_rfl) (by first|rfl|decide +kernel|(unfold String.splitOn)) (by decide +kernel) (by kernel_rfl)
def SIt(h:Heap)(I:Addr)(first:Value)(i:Nat)(a:Addr)(n b:Nat):Prop:=∃o,h.get? I=some o/\o.cls=.type "set_iterator"/\o.data=.fields #[first,.int i 0,.ref a,.int n 0,.int b 0]
def SAt(h:Heap)(a:Addr)(b:Array (Int×Value))(c:Nat)(t:SetTable):Prop:=∃o,h.get? a=some o/\o.ExactSet/\o.data=.set b c t/\t.fits b.size=true
def SIt.at(x:SIt h I f i a n c)(e:∀o,h.get? I=some o->d.get? I=some o):SIt d I f i a n c:=let ⟨o,b,r⟩:=x;⟨o,e o b,r⟩
def SAt.at(x:SAt h a c d t)(e:∀o,h.get? a=some o->f.get? a=some o):SAt f a c d t:=let ⟨o,b,r⟩:=x;⟨o,e o b,r⟩
def SIt.typeIs{s:Shared}(x:SIt s.heap I f i a n d):s.TypeIs (.ref I) "set_iterator":=let ⟨o,b,c,_⟩:=x;⟨o,b,c⟩
section
variable {w:World}{A:Around}{E:AC}{s:Shared}
def qE(b:SIt s.heap I f i a n c)(h:Q (.ref I) s):wpAny (mZ prog w) A (pyIter (.ref I)) Q E s:=wpAny_pyIter_slot b.typeIs HM (wd HM b.typeIs N6 (wb ⟨_,rfl,"set_iterator",_,b.typeIs,slot_si_next.lookup,h⟩) (N5 _))
theorem HP{m i f nx:Nat}(c:SIt s.heap I (.int m 0) i a n.size f)(q:SAt s.heap a n f t)(y:∀(u:Around) (l:Option (Value×Nat)->Shared->Prop) (z:AC),l (some (x,nx)) s->wpAny (mZ prog w) u (setNext a m i f) l z s)(r:∀C,SIt C I (.int nx 0) (i+1) a n.size f->Heap.SameBut I s.heap C->Q (some x) {s with heap:=C}):wpAny (mZ prog w) A (pyNext (.ref I)) Q E s:=by
 obtain⟨o,k,v,e⟩:=id c;obtain⟨B,g,p,h,j⟩:=q;refine wa (jd (wpAny_callSpecial?_slot c.typeIs slot_si_next (wd slot_si_next c.typeIs qC ?_ (qD _))));show wpAny _ _ (fieldsOf _>>=_) _ _ s;refine wa (wpAny_fieldsOf k e (wa (wpAny_setEntries_of g h j ?_)));rw[if_neg nofun];refine wa (y _ _ _ (wa (wpAny_setField k e nofun ?_)));have d:=wt (.mapFields (·.setIfInBounds 0 (rawInt nx))) k (Obj.isFreed_of_fields (jc e _));have b:=jc e (·.setIfInBounds 0 (rawInt nx))
 exact wa (wpAny_setField d b nofun (wb ⟨x,rfl,wb (r _ (⟨_,wt _ d (Obj.isFreed_of_fields (jc b _)),(Obj.cls_mapFields ..).trans ((Obj.cls_mapFields ..).trans v),by
  rw[jc b];simp[rawInt]⟩) ((wo ..).trans (.update ..)))⟩))
theorem HQ{j i d:Nat}(l:A.handled=none)(b:SIt s.heap I (.int j 0) i a r.size d)(v:SAt s.heap a r d t)(n:∀(q:Around) (g:Option (Value×Nat)->Shared->Prop) (u:AC),g none s->wpAny (mZ prog w) q (setNext a j i d) g u s)(p:∀z,Heap.ExtBut I s.heap z->Q none {s with heap:=z}):wpAny (mZ prog w) A (pyNext (.ref I)) Q E s:=by
 obtain⟨o,m,x,k⟩:=id b;obtain⟨y,c,h,e,f⟩:=v;refine wa (jd (wpAny_callSpecial?_slot b.typeIs slot_si_next (wd slot_si_next b.typeIs qC ?_ (qD _))));show wpAny _ _ (fieldsOf _>>=_) _ _ s;refine wa (wpAny_fieldsOf m k (wa (wpAny_setEntries_of c e f ?_)));rw[if_neg nofun];refine wa (n _ _ _ (wa (wpAny_setField m k nofun (wa (wa (m:=firstArgMember _ _) (wpAny_of_eq (a:=.none) (by first|rfl|(rfl)) (we (wa (wpAny_handled ?_)) (by size_fits))))))))
 first|rw[l]|rw[l]
 refine wa (wb (wpAny_throw ?_));exact wa (wpAny_isInstance ⟨_,qp _ rfl,rfl⟩ isSubtype_stop (wb (p _ (((wo ..).extBut.push _).push _))))
theorem HR{i j l:Nat}(b:SIt s.heap I (.ref T) i a k.size l)(v:SAt s.heap a k l t)(y:s.heap.IsTuple T F)(x:F[i]?=some (.int j tk))(u:k[j]?=some e)(r:∀D,SIt D I (.ref T) (i+1) a k.size l->Heap.SameBut I s.heap D->Q (some e.2) {s with heap:=D}):wpAny (mZ prog w) A (pyNext (.ref I)) Q E s:=by
 obtain⟨o,n,q,g⟩:=id b;obtain⟨B,c,p,f,d⟩:=v;obtain⟨z,h,_,C,m⟩:=y;refine wa (jd (wpAny_callSpecial?_slot b.typeIs slot_si_next (wd slot_si_next b.typeIs qC ?_ (qD _))));show wpAny _ _ (fieldsOf _>>=_) _ _ s;refine wa (wpAny_fieldsOf n g (wa (wpAny_setEntries_of c f d ?_)));rw[if_neg nofun];refine wa (wpAny_seqItems h m ?_);simp [x];refine wa (wa (wf c f d ?_));dsimp only;rw[if_neg nofun,u]
 exact wb (wa (wpAny_setField n g nofun (wb ⟨e.2,rfl,wb (r _ (⟨_,wt _ n (Obj.isFreed_of_fields (jc g _)),(Obj.cls_mapFields ..).trans q,by
  rw[jc g];simp[rawInt]⟩) (.update ..))⟩)))
theorem HS(n:A.handled=none)(b:SIt s.heap I (.ref T) i a q.size u)(v:SAt s.heap a q u t)(p:s.heap.IsTuple T F)(x:F[i]?=none)(r:∀D,Heap.ExtBut I s.heap D->Q none {s with heap:=D}):wpAny (mZ prog w) A (pyNext (.ref I)) Q E s:=by
 obtain⟨o,l,C,c⟩:=id b;obtain⟨B,g,m,k,h⟩:=v;obtain⟨y,d,_,z,j⟩:=p;refine wa (jd (wpAny_callSpecial?_slot b.typeIs slot_si_next (wd slot_si_next b.typeIs qC ?_ (qD _))));show wpAny _ _ (fieldsOf _>>=_) _ _ s;refine wa (wpAny_fieldsOf l c ?_);refine wa (wpAny_setEntries_of g k h ?_);rw[if_neg nofun];refine wa (wpAny_seqItems d j ?_);simp [x];refine wa (wpAny_setField l c nofun ?_);have f:=wt (.mapFields (·.setIfInBounds 0 (rawInt 0))) l (Obj.isFreed_of_fields (jc c _));have e:=jc c (·.setIfInBounds 0 (rawInt 0));refine wa (wpAny_setField f e nofun ?_);refine wa ?_;simp [newExc];refine wa (m:=firstArgMember _ _) (wpAny_of_eq (a:=.none) (by first|rfl|(rfl)) ?_);refine we ?_ (by size_fits);refine wa (wpAny_handled ?_)
 first|rw[n]|rw[n]
 refine wa (wb (wpAny_throw ?_));refine wa (wpAny_isInstance ⟨_,qp _ rfl,rfl⟩ isSubtype_stop ?_);exact wb (r _ ((((wo ..).trans (.update ..)).extBut.push _).push _))
end
section
variable {w:World}{A:Around}{E:AC}{s:Shared}
def ix(h:Q (dA w) s):wpAny (mZ prog w) A setsByText Q E s:=wa (wpAny_askSetting (wb h))
def qF(n:dA w=true)(j:SAt s.heap a k g t)(h:Q (((pickOrder (w.params.setOrder a g) k)[i]?).map λe=>(e.2,l)) s):wpAny (mZ prog w) A (setNext a l i g) Q E s:=by
 obtain⟨m,c,f,d,b⟩:=j;refine wa (wf c d b (wa (ix ?_)));rw[if_pos n,if_neg nofun];refine wa (wa (wf c d b (wa (ix ?_))));rw[if_pos n];exact wa (wpAny_askSetting (wb (wb h)))
theorem qG(hb:dA w=false)(n:(!t.plain&&decide (f.size > 1))=false)(p:t.led=true)(o:SAt s.heap a f m t)(k:SetTable.below t.place l=i)(h:Q (match f[i]?,t.place[i]? with|some (_,x),some j=>some (x,j+1)|_,_=>none) s):wpAny (mZ prog w) A (setNext a l g m) Q E s:=by
 obtain⟨q,b,e,c,d⟩:=o;refine wa (wf b c d (wa (ix ?_)));rw[if_neg (by rw[hb];exact qi)];show wpAny _ _ (if (_&&_)=true then _ else _) _ _ _;rw[if_neg (by rw[n];exact qi)];show wpAny _ _ ((if _ then _ else _)>>=_) _ _ _;rw[if_neg (by rw[p];simp),k];exact wb h
noncomputable def fN(a:Array Nat):Nat->Nat
 | 0=>0
 | i+1=>a.getD i 0+1
theorem qH(g:cb q)(m:i<=q.size):SetTable.below q (fN q i)=i:=by
 obtain⟨n,l,f⟩:=HD g _;generalize o:SetTable.below q (fN q i)=p at n l f
 have b:∀(i k:Nat) _ (a:k<q.size),i<k->q[i]<q[k]:=λi k m a h=>by
  have:=List.pairwise_iff_getElem.mp g i k ⋯ ⋯ h;symm
 have r:∀k _,k<p->q[k]<fN q i:=λk a d=>l _ (by
  rw[List.mem_iff_getElem]
  ext<;>ac_nf)
 have s:∀k _,p<=k->fN q i<=q[k]:=λk a d=>f _ (by
  rw[List.mem_iff_getElem]
  exact⟨k-p,by simp;symm,by
   ext⟩)
 rcases Nat.lt_trichotomy p i with h|h|h
 .have a:p<q.size:=by ac_nf
  have:=s p a (qv _)
  cases i with
  | zero=>ac_nf
  | succ j=>
    have c:j<q.size:=by ac_nf
    simp only[fN,Array.getD,c,dite_true]at this;by_cases e:p=j
    .subst e;exact absurd this nofun
    .have:=b p j a c ∅
     simp at *;ac_nf
 .exact h
 .have a:i<q.size:=by symm
  have:=r i a h
  cases i with
  | zero=>simp[fN]at this
  | succ j=>
    have c:j<q.size:=by ac_nf
    have t:=b j (j+1) c a ∅;simp only[fN,Array.getD,dite_true]at this;simp at *;ac_nf
def jh(a:AH)(i:Nat)(v:Value):Prop:=∃k t,a[i]?=some k/\v=.int k t
theorem yc{b:Array (Int×Value)}(a:ElemsOf (intKind prog w) b.toList)(c:e∈b.toList):∃t,e.2=.int (cV e) t:=by
 obtain⟨t,d⟩:=kH a c;grind
theorem N7(hS:SetI prog w s.heap a ns)(hQ:∀(h':Heap) (d':Drawn) (I:Addr) (fp:List Addr) (f:AH) (St:Nat->Heap->Prop),(∀b o,s.heap.get? b=some o->h'.get? b=some o)->(~~~s)<=I->I∈fp->
  (∀b∈fp,b<h'.objs.size/\(b=a\/(~~~s)<=b))->f.Perm ns->(∀y:Around,y.handled=none->Walks prog w y I fp [I] ns.length (jh f) St)->St 0 h'->
  (∀(i:Nat) (s':Shared),St i s'.heap->s'.TypeIs (.ref I) "set_iterator")->Q (.ref I) {s with heap:=h',drawn:=d' }):
 wpAny (mZ prog w) A (pyIter (.ref a)) Q E s:=by
 obtain⟨o,d,q,t,N,T,X,V,hns,hnd,hb,J,ht⟩:=hS
 have hT:s.TypeIs (.ref a) "set":=⟨o,N,T.1⟩
 have L:ns.length=d.size:=by grind
 have hlt:a< ~~~s:=ql N
 have hsa:SAt s.heap a d q t:=⟨o,N,T,X,J⟩
 have hps:t.place.size=d.size:=by
  simp only[SetTable.fits,Qe,beq_iff_eq]at J;exact J.1
 refine wpAny_pyIter_slot hT F.slot_set_iter (wd F.slot_set_iter hT HN ?_ (F.args_set_iter_1 _));unfold Builtin.«frozenset.__iter__»;show wpAny _ _ (Builtin.Frozenset.sizeOf a>>=_) _ _ s;unfold Builtin.Frozenset.sizeOf;refine wa (wa (wpAny_setEntries_of N X J (wb ?_)));refine wa ?_;unfold setDrawn;refine wa (wf N X J ?_);dsimp only;refine wa (ix (wb ?_))
 have plain:∀(f:AH) (st:Nat->Nat) (xv:Nat->Value),f.Perm ns->st 0=0->(∀i,i<d.size->jh f i (xv i))->
  (∀(s':Shared) (y:Around) (i:Nat) (n:AC),SAt s'.heap a d q t->i<d.size->∀l:Option (Value×Nat)->Shared->Prop,l (some (xv i,st (i+1))) s'->wpAny (mZ prog w) y (setNext a (st i) i q) l n s')->
  (∀(s':Shared) (y:Around) (n:AC),SAt s'.heap a d q t->∀l:Option (Value×Nat)->Shared->Prop,l none s'->wpAny (mZ prog w) y (setNext a (st d.size) d.size q) l n s')->
  wpAny (mZ prog w) A.in1 (do
   let x <-newFields "set_iterator" [rawInt 0,rawInt 0,.ref a,rawInt d.size,rawInt (<-setEpoch a)]
   ret x) (λO s'=>∃v,O=.done (.ret v)/\∃T' r,s'.TypeIs v T'/\typeLookup (.type T') "__next__"=pure (some r)/\Q v s') E s:=by
  intro f st xv hp h0 hx p hn;refine wa (wpAny_setEpoch_of N X J ?_);refine wa (we ?_);refine wb ⟨_,rfl,"set_iterator",_,⟨_,qp _ rfl,rfl⟩,slot_si_next.lookup,?_⟩
  have key:=hQ (s.heap.push {cls:=.type "set_iterator",data:=.fields #[rawInt 0,rawInt 0,.ref a,rawInt d.size,rawInt q]}) s.drawn (~~~s) [~~~s,a] f
   (λi h=>SIt h (~~~s) (.int (st i) 0) i a d.size q/\SAt h a d q t) (λb o e=>qe _ e) (qv _) nofun (λb hb=>by
    rw[wq]
    grind) hp (λy U=>{
    sub:=λb hb=>by grind
    frame:=λi h h' c Y=>⟨c.1.at λo e=>Y _ nofun o e,c.2.at λo e=>Y a nofun o e⟩
    item:=λi s' l n hlt' c g=>by
     refine HP c.1 c.2 (x:=xv i) (nx:=st (i+1)) (λA2 Q2 E2 G=>p s' A2 i E2 c.2 (by ext) Q2 G) λh' D m=>?_;exact g _ h' s'.toks (hx i (by ext)) ⟨D,c.2.at λo e=>m.extBut a o (λz=>by grind) e⟩ λb o hb e=>m.extBut b o (λz=>hb (by simp[z])) e
    done:=λs' l n c g=>by
     rw[L]at c;exact HQ U c.1 c.2 (λA2 Q2 E2 G=>hn s' A2 E2 c.2 Q2 G) λh' R=>g h' s'.toks λb o hb e=>R b o (λz=>hb (by simp[z])) e
    self:=λi s' l n c g=>qE c.1 g}) ⟨⟨_,qp _ rfl,rfl,by rw[h0];rfl⟩,hsa.at λo e=>qe _ e⟩ (λi s' c=>c.1.typeIs)
  exact key
 have hdr:∀b:Bool,(!t.plain&&decide (d.size > 1))=b->wpAny (mZ prog w) A.in1 (if (!dA w&&b)=true then do
  let first <-newTuple ((<-drawOrder d.size (List.range d.size)).map fun(i:Nat)=>rawInt i)
  let x <-newFields "set_iterator" [first,rawInt 0,.ref a,rawInt d.size,rawInt (<-setEpoch a)]
  ret x
  else do
   let x <-newFields "set_iterator" [rawInt 0,rawInt 0,.ref a,rawInt d.size,rawInt (<-setEpoch a)]
   ret x) (λO s'=>∃v,O=.done (.ret v)/\∃T' r,s'.TypeIs v T'/\typeLookup (.type T') "__next__"=pure (some r)/\Q v s') E s:=by
  intro b P
  cases C:dA w with
  | true=>
    rw[if_neg nofun];generalize hor:pickOrder (w.params.setOrder a q) d=k
    have hpm:k.toList.Perm d.toList:=by rw[<-hor];exact yb _ _
    have hos:k.size=d.size:=by
     have:=hpm.length_eq;grind
    refine plain (k.toList.map cV) (λ_=>0) (λi=>(k.getD i (0,.none)).2) (by grind) rfl (λi p=>?_) (λs' y i n M p l G=>?_) (λs' y n M l G=>?_)
    .have Z:i<k.size:=by ext
     obtain⟨u,hu⟩:=yc V (hpm.mem_iff.mp (show k[i]∈k.toList by simp));refine⟨cV k[i],u,by simp[Z],?_⟩
     ext
    .have Z:i<k.size:=by ext
     refine qF C M ?_
     ext
    .refine qF C M ?_
     ext
  | false=>
    have K:=ht.1 C
    cases b with
    | false=>
      rw[if_neg nofun]
      have B:cb t.place:=by
       cases hpl:t.plain with
       | true=>exact ht.2 hpl
       | false=>
         rw[hpl]at P
         have h1:t.place.toList.length<=1:=by
          ext
         unfold cb
         match t.place.toList,h1 with
         | [],_=>exact .nil
         | [x],_=>simp
      refine plain ns (fN t.place) (λi=>(d.getD i (0,.none)).2) .rfl rfl (λi p=>?_) (λs' y i n M p l G=>?_) (λs' y n M l G=>?_)
      .obtain⟨u,hu⟩:=yc V (show d[i]∈d.toList by simp)
       refine⟨cV d[i],u,by grind,?_⟩
       ext
      .refine qG C P K M (qH B (by lia)) ?_
       have hi2:i<t.place.size:=by ext
       rw[Array.getElem?_eq_getElem p,Array.getElem?_eq_getElem hi2];simp only[Array.getD,p,hi2,dite_true,fN]at G;exact G
      .refine qG C P K M (qH B (by ext)) ?_
       ext
    | true=>
      rw[if_pos nofun];refine wa (qB d.size (List.range d.size) s _ nofun λys d' hp=>?_);simp only[newTuple]
      have hyl:ys.length=d.size:=by rw[hp.length_eq];simp
      refine wa (we ?_ (by show(ys.map fun(i:Nat)=>rawInt i).toArray.size<=sizeLine;rw[qk,qf,hyl];exact fits_of_scanBound hb));have S:((s.heap.push {cls:=.type "tuple",data:=.seq (ys.map fun(i:Nat)=>rawInt i).toArray})).get? a=some o:=qe _ N;refine wa (wpAny_setEpoch_of (s:={s with heap:=s.heap.push {cls:=.type "tuple",data:=.seq (ys.map fun(i:Nat)=>rawInt i).toArray},drawn:=d' }) S X J ?_);refine wa (we ?_);refine wb ⟨_,rfl,"set_iterator",_,⟨_,qp _ rfl,rfl⟩,slot_si_next.lookup,?_⟩
      have hmem:∀j∈ys,j<d.size:=λj hj=>by grind
      have hvp:(ys.map λj=>cV (d.getD j (0,.none))).Perm ns:=by
       rw[<-hns];refine(hp.map _).trans ?_
       have:(List.range d.size).map (λj=>cV (d.getD j (0,.none)))=d.toList.map cV:=by
        refine List.ext_getElem nofun λi h1 h2=>?_
        have p:i<d.size:=by(simp at*;lia)
        simp[Array.getD,p]
       rw[this]
      generalize hH:s.heap.push {cls:=.type "tuple",data:=.seq (ys.map fun(i:Nat)=>rawInt i).toArray}=H at S ⊢
      have hHs:H.objs.size= ~~~s+1:=by rw[<-hH,wq]
      have hT0:H.IsTuple (~~~s) (ys.map fun(i:Nat)=>rawInt i).toArray:=⟨_,by rw[<-hH];exact qp _ rfl,rfl,_,rfl⟩
      have W:∀b o,s.heap.get? b=some o->H.get? b=some o:=λb o e=>by rw[<-hH];exact qe _ e
      have haI:a≠H.objs.size:=λz=>by grind
      have hTI:(~~~s)≠H.objs.size:=by grind
      exact hQ (H.push {cls:=.type "set_iterator",data:=.fields #[.ref (~~~s),rawInt 0,.ref a,rawInt d.size,rawInt q]}) d' H.objs.size [H.objs.size,a,~~~s] (ys.map λj=>cV (d.getD j (0,.none)))
       (λi h=>SIt h H.objs.size (.ref (~~~s)) i a d.size q/\SAt h a d q t/\h.IsTuple (~~~s) (ys.map fun(i:Nat)=>rawInt i).toArray) (λb o e=>qe _ (W b o e)) (by lia) nofun (λb hb=>by
        rw[wq]
        (simp at*;lia)) hvp (λy U=>{
        sub:=λb hb=>by grind
        frame:=λi h h' c Y=>⟨c.1.at λo e=>Y _ nofun o e,c.2.1.at λo e=>Y a nofun o e,c.2.2.at λo e=>Y _ nofun o e⟩
        item:=λi s' l n hlt' c g=>by
         have p:i<ys.length:=by lia
         have hj:=hmem ys[i] (List.getElem_mem p);refine HR c.1 c.2.1 c.2.2 (j:=ys[i]) (tk:=0) (e:=d[ys[i]]) (by simp[p,rawInt]) (Array.getElem?_eq_getElem hj) λh' D m=>?_;refine g _ h' s'.toks ?_ ⟨D,c.2.1.at λo e=>m.extBut a o haI e,c.2.2.at λo e=>m.extBut _ o hTI e⟩ λb o hb e=>m.extBut b o (λz=>hb (by simp[z])) e;obtain⟨u,hu⟩:=yc V (show d[ys[i]]∈d.toList by simp);exact⟨cV d[ys[i]],u,by simp[p,Array.getD,hj],hu⟩
        done:=λs' l n c g=>by
         rw[L]at c;exact HS U c.1 c.2.1 c.2.2 (by simp[hyl]) λh' R=>g h' s'.toks λb o hb e=>R b o (λz=>hb (by simp[z])) e
        self:=λi s' l n c g=>qE c.1 g}) ⟨⟨_,qp _ rfl,rfl,rfl⟩,⟨o,qe _ S,T,X,J⟩,hT0.push _⟩ (λi s' c=>c.1.typeIs)
 exact hdr _ rfl
end
inductive D where
 | non|bl (b:Bool)|int (i:Int)|str (x:Str)|tup (l:List D)|lst (l:List D)
 | scr (ns:AH)
 | dct (t:Bool) (ks vs:List D)
 | obj (c:Str) (ks:AL) (vs:List D)
 | adr (a:Addr)
abbrev AR:=List D
mutual
def aH:D->PyData
 | .non=>.none
 | .bl b=>.bool b
 | .int i=>.int i
 | .str x=>.str x
 | .tup l=>.tuple (c8 l)
 | .lst l=>.list (c8 l)
 | .scr ns=>.list (ns.map PyData.int)
 | .dct _ _ _=>.none
 | .obj _ _ _=>.none
 | .adr _=>.none
def c8:AR->List PyData
 | []=>[]
 | d::l=>aH d::c8 l
end
noncomputable def bg(d e:D):Bool:=PyData.eqv (aH d) (aH e)
noncomputable def da(l m:AR):Bool:=PyData.eqvAll (c8 l) (c8 m)
noncomputable def gR:V->Option Int
 | .int i=>some i
 | .bl b=>some (if b then 1 else 0)
 | _=>none
noncomputable def eF:AQ->Option AH
 | []=>some []
 | x::r=>(gR x).bind λi=>(eF r).map (i::·)
noncomputable def gS(ks:AH):Int:=reduceHash (Builtin.Tuple.tupleHashOf (ks.map hashInt))
def yd(a:Addr)(b:List (List Int×Addr))(vxs:AQ)(d:Nat)(h:Heap):Prop:=
 (a==sysModules)=false/\∃e o c,Vals vxs e/\h.get? a=some o/\o.ExactDict/\o.data=.dict c d/\c.toList=(b.zip e).map λp=>⟨gS p.1.1,.ref p.1.2,p.2⟩
noncomputable def iy(a:Addr)(b:List (List Int×Addr))(vxs:AQ)(c:Nat):HO:=.ext (yd a b vxs c)
def qI(ks:List AH):Int:=reduceHash (Builtin.Tuple.tupleHashOf (ks.map gS))
def ye(a:Addr)(nks:List (List AH×Addr))(vxs:AQ)(ep:Nat)(h:Heap):Prop:=
 (a==sysModules)=false/\∃us o es,Vals vxs us/\h.get? a=some o/\o.ExactDict/\o.data=.dict es ep/\es.toList=(nks.zip us).map λp=>(⟨qI p.1.1,.ref p.1.2,p.2⟩:DictEntry)
def fx(a:Addr)(nks:List (List AH×Addr))(vxs:AQ)(ep:Nat):HO:=.ext (ye a nks vxs ep)
inductive NVs (G:Hp):AQ->List AH->Prop
 | nil:NVs G [] []
 | cons {b:Addr}{zs:AQ}{k:AH}{ys:AQ}{ks:List AH}:G b=some (.tup zs)->eF zs=some k->NVs G ys ks->NVs G (.ref b::ys) (k::ks)
def NKey(G:Hp)(b:Addr)(k:List AH):Prop:=∃ys,ys≠[]/\G b=some (.tup ys)/\NVs G ys k
def Dc(t:Bool)(G H:Hp)(a:Addr)(kxs vxs:AQ):Prop:=
 (t=false/\∃kvs:List (bT×V),H a=some (.dK kvs)/\(kvs.map (·.1)).Nodup/\kxs=kvs.map (λp=>kV p.1)/\vxs=kvs.map (·.2))\/
 (t=true/\∃(nks:List (List Int×Addr)) (ep:Nat),H a=some (iy a nks vxs ep)/\nks.length=vxs.length/\(nks.map (·.1)).Nodup/\kxs=nks.map (λp=>V.ref p.2)/\∀p∈nks,∃ys,G p.2=some (.tup ys)/\eF ys=some p.1)\/
 (t=true/\∃(nks:List (List AH×Addr)) (ep:Nat),nks≠[]/\H a=some (fx a nks vxs ep)/\nks.length=vxs.length/\(nks.map (·.1)).Nodup/\kxs=nks.map (λp=>V.ref p.2)/\∀p∈nks,NKey G p.2 p.1)
mutual
def Rp(K:W7)(G:Hp):D->V->Prop
 | .non,v=>v=V.non
 | .bl b,v=>v=V.bl b
 | .int i,v=>v=V.int i
 | .str x,v=>v=V.str x/\PyData.strOk x=true
 | .tup l,v=>∃a xs,v=V.ref a/\G a=some (HO.tup xs)/\RpL K G l xs
 | .lst l,v=>∃a xs,v=V.ref a/\Rd G a (HO.lst xs)/\RpL K G l xs
 | .scr ns,v=>∃a,v=V.ref a/\SqL K G a (ns.map V.int)
 | .dct t ks vs,v=>∃a f vxs,v=V.ref a/\Dc t G G a f vxs/\RpL K G ks f/\RpL K G vs vxs
 | .obj c ks vs,v=>∃a C g xs,v=V.ref a/\W.nsIn K mainGlobals c=some (some (.ref C))/\G a=some (HO.ins C g (ks.zip xs))/\xs.length=ks.length/\RpL K G vs xs
 | .adr a,v=>v=V.ref a
def RpL(K:W7)(G:Hp):AR->AQ->Prop
 | [],xs=>xs=[]
 | d::l,xs=>∃x r,xs=x::r/\Rp K G d x/\RpL K G l r
end
def dU(h:Same G b)(r:Rd G a u):Rd b a u:=by
 rcases r with r|⟨o,r⟩
 .exact .inl (h _ _ r)
 .exact .inr ⟨o,h _ _ r⟩
theorem NVs.mono{G G':Hp}(g:Same G G'){ys:AQ}{ks:List AH}(h:NVs G ys ks):NVs G' ys ks:=by
 induction h with
 | nil=>exact .nil
 | cons h1 h2 _ ih=>exact .cons (g _ _ h1) h2 ih
def NKey.mono{G G':Hp}(g:Same G G'){b:Addr}{k:List AH}(h:NKey G b k):NKey G' b k:=let ⟨ys,h0,h1,h2⟩:=h;⟨ys,h0,g _ _ h1,h2.mono g⟩
def Dc.mono(g:Same G G')(h:∀o,H a=some o->H' a=some o)(d:Dc t G H a kxs vxs):Dc t G' H' a kxs vxs:=by
 rcases d with⟨e,kvs,h1,h2⟩|⟨e,nks,ep,h1,h2,h3,h4,h5⟩|⟨e,nks,ep,h0,h1,h2,h3,h4,h5⟩
 .exact .inl ⟨e,kvs,h _ h1,h2⟩
 .refine .inr (.inl ⟨e,nks,ep,h _ h1,h2,h3,h4,λp hp=>?_⟩)
  obtain⟨ys,q1,q2⟩:=h5 p hp;exact⟨ys,g _ _ q1,q2⟩
 .exact .inr (.inr ⟨e,nks,ep,h0,h _ h1,h2,h3,h4,λp hp=>(h5 p hp).mono g⟩)
theorem Dc.someT(d:Dc t G H a kxs vxs):∃o,H a=some o/\∀xs,o≠.tup xs:=by
 rcases d with⟨_,kvs,h1,_⟩|⟨_,nks,ep,h1,_⟩|⟨_,nks,ep,_,h1,_⟩
 .exact⟨_,h1,λxs z=>by cases z⟩
 .exact⟨_,h1,λxs z=>by cases z⟩
 .exact⟨_,h1,λxs z=>by cases z⟩
theorem Dc.some(d:Dc t G H a kxs vxs):∃o,H a=some o/\∀xs,o≠.lst xs:=by
 rcases d with⟨_,kvs,h1,_⟩|⟨_,nks,ep,h1,_⟩|⟨_,nks,ep,_,h1,_⟩
 .exact⟨_,h1,λxs z=>by cases z⟩
 .exact⟨_,h1,λxs z=>by cases z⟩
 .exact⟨_,h1,λxs z=>by cases z⟩
mutual
theorem Rp.mono{G G':Hp}(h:Same G G'):∀{d:D}{v:V},Rp K G d v->Rp K G' d v
 | .non,_,r=>r
 | .bl _,_,r=>r
 | .int _,_,r=>r
 | .str _,_,r=>r
 | .tup l,_,r=>by
   obtain⟨a,xs,e,g,q⟩:=r;exact⟨a,xs,e,h _ _ g,RpL.mono h q⟩
 | .lst l,_,r=>by
   obtain⟨a,xs,e,g,q⟩:=r;exact⟨a,xs,e,dU h g,RpL.mono h q⟩
 | .scr ns,_,r=>by
   obtain⟨a,e,g⟩:=r;exact⟨a,e,h.seq g⟩
 | .dct t ks vs,_,r=>by
   obtain⟨a,b,vxs,e,g,j,f⟩:=r;exact⟨a,b,vxs,e,g.mono h λo=>h _ o,RpL.mono h j,RpL.mono h f⟩
 | .obj c ks vs,_,r=>by
   obtain⟨a,C,i,xs,e,n,g,l,q⟩:=r;exact⟨a,C,i,xs,e,n,h _ _ g,l,RpL.mono h q⟩
 | .adr _,_,r=>r
theorem RpL.mono{G G':Hp}(h:Same G G'):∀{l:AR}{xs:AQ},RpL K G l xs->RpL K G' l xs
 | [],_,r=>r
 | d::l,_,r=>by
   obtain⟨x,xs,e,g,q⟩:=r;exact⟨x,xs,e,Rp.mono h g,RpL.mono h q⟩
end
section
variable {G:Hp}
theorem RpL.length:∀{l:AR}{xs:AQ},RpL K G l xs->xs.length=l.length
 | [],_,r=>by subst r;rfl
 | d::l,_,r=>by
   obtain⟨x,xs,rfl,_,q⟩:=r;simp[RpL.length q]
theorem RpL.get:∀{l:AR}{xs:AQ}{i:Nat}{d:D},RpL K G l xs->l[i]?=some d->∃x,xs[i]?=some x/\Rp K G d x
 | [],_,_,_,_,e=>by simp at e
 | d::l,_,0,_,r,e=>by
   rw[RpL]at r;grind
 | d::l,_,i+1,_,r,e=>by
   obtain⟨x,xs,rfl,g,q⟩:=r;obtain⟨y,a,b⟩:=RpL.get q (by simpa using e)
   ext
def RpL.nil:RpL K G [] []:=by rw[RpL]
def RpL.cons(h:Rp K G d x)(q:RpL K G l xs):RpL K G (d::l) (x::xs):=⟨x,xs,rfl,h,q⟩
theorem RpL.append:∀{l m:AR}{xs ys:AQ},RpL K G l xs->RpL K G m ys->RpL K G (l++m) (xs++ys)
 | [],_,_,_,r,q=>by rw[RpL]at r;ext
 | d::l,m,_,ys,r,q=>by
   obtain⟨x,xs,rfl,g,r⟩:=r;exact .cons g (.append r q)
def RpL.one(h:Rp K G d x):RpL K G [d] [x]:=.cons h .nil
theorem RpL.take:∀{l:AR}{xs:AQ} (n:Nat),RpL K G l xs->RpL K G (l.take n) (xs.take n)
 | _,_,0,_=>.nil
 | [],_,_+1,r=>by subst r;exact .nil
 | d::l,_,n+1,r=>by
   obtain⟨x,xs,rfl,g,r⟩:=r;exact .cons g (.take n r)
theorem RpL.drop:∀{l:AR}{xs:AQ} (n:Nat),RpL K G l xs->RpL K G (l.drop n) (xs.drop n)
 | _,_,0,r=>r
 | [],_,_+1,r=>by subst r;exact .nil
 | d::l,_,n+1,r=>by
   obtain⟨x,xs,rfl,g,r⟩:=r;exact .drop n r
theorem RpL.ints:∀(ns:AH),RpL K G (ns.map D.int) (ns.map V.int)
 | []=>.nil
 | n::ns=>.cons (by rw[Rp]) (.ints ns)
end
structure Gr(H G H' G':Hp):Prop where
 h:Same H H'
 g:Same G G'
 s:Same G' H'
 n:∀a,G a=none->G' a≠none->H a=none
def Gr.refl(s:Same G H):Gr H G H G:=⟨.refl _,.refl _,s,λ_ h a=>absurd h a⟩
def Gr.trans(a:Gr H G f c)(b:Gr f c d G2):Gr H G d G2:=
 ⟨a.h.trans b.h,a.g.trans b.g,b.s,λx h i=>by
  by_cases e:c x=none
  .exact a.h.free (b.n x e i)
  .exact a.n x h e⟩
theorem Gr.new(s:Same G H)(a:H p=none)(o:HO):Gr H G (upd H p o) (upd G p o):=by
 refine⟨λb u e=>?_,λb u e=>?_,λb u e=>?_,λb h c=>?_⟩
 .rwa [Yj (Yi e a)]
 .rwa [Yj (Yi e (s.free a))]
 .by_cases q:b=p
  .subst q;rwa [Yh]at e ⊢
  .rw[Yj q]at e ⊢;exact s _ _ e
 .by_cases q:b=p
  .grind
  .rw[Yj q]at c;grind
def Gr.hid(s:Same G H)(a:H p=none)(o:HO):Gr H G (upd H p o) G:=by
 refine⟨λb u e=>?_,.refl _,λb u e=>?_,λb h c=>absurd h c⟩
 .rwa [Yj (Yi e a)]
 .rw[Yj (Yi e (s.free a))];exact s _ _ e
theorem Gr.show(g:Gr H G H' d)(c:H p=none)(a:d p=none)(e:H' p=some o):Gr H G H' (upd d p o):=by
 refine⟨g.h,λb u q=>?_,λb u q=>?_,λb h f=>?_⟩
 .have:=g.g b u q
  rwa [Yj (Yi this a)]
 .by_cases z:b=p
  .subst z;rw[Yh]at q;symm
  .rw[Yj z]at q;exact g.s b u q
 .by_cases z:b=p
  .grind
  .rw[Yj z]at f;exact g.n b h f
def Ct(K:W7)(G H:Hp):D->V->Prop
 | .non,v=>v=.non
 | .bl b,v=>v=.bl b
 | .int i,v=>v=.int i
 | .str x,v=>v=.str x/\PyData.strOk x=true
 | .tup l,v=>∃a f,v=.ref a/\(H a=some (.tup f)/\G a=some (.tup f))/\RpL K G l f
 | .lst l,v=>∃a f,v=.ref a/\Rd H a (.lst f)/\RpL K G l f
 | .scr k,v=>∃a,v=.ref a/\SqL K H a (k.map .int)
 | .dct t h j,v=>∃a d g,v=.ref a/\Dc t G H a d g/\RpL K G h d/\RpL K G j g
 | .obj c h j,v=>∃a C e f,v=.ref a/\W.nsIn K mainGlobals c=some (some (.ref C))/\G a=some (.ins C e (h.zip f))/\f.length=h.length/\RpL K G j f
 | .adr a,v=>v=.ref a
def Ct.of(s:Same G H)(r:Rp K G d v):Ct K G H d v:=by
 cases d<;>rw[Rp]at r<;>rw[Ct]
 .exact r
 .exact r
 .exact r
 .exact r
 .obtain⟨a,i,e,g,q⟩:=r
  exact⟨a,i,e,⟨s _ _ g,g⟩,q⟩
 .obtain⟨a,i,e,g,q⟩:=r
  exact⟨a,i,e,dU s g,q⟩
 .obtain⟨a,e,g⟩:=r
  exact⟨a,e,s.seq g⟩
 .obtain⟨a,b,h,e,g,f,c⟩:=r
  exact⟨a,b,h,e,g.mono (.refl _) λo=>s _ o,f,c⟩
 .exact r
 .exact r
def Ct.rp(s:Same G H)(r:Ct K G H d v):Rp K H d v:=by
 cases d<;>rw[Ct]at r<;>rw[Rp]
 .exact r
 .exact r
 .exact r
 .exact r
 .obtain⟨a,i,e,g,q⟩:=r
  exact⟨a,i,e,g.1,q.mono s⟩
 .obtain⟨a,i,e,g,q⟩:=r
  exact⟨a,i,e,g,q.mono s⟩
 .exact r
 .obtain⟨a,b,j,e,g,h,c⟩:=r
  exact⟨a,b,j,e,g.mono s λ_ z=>z,h.mono s,c.mono s⟩
 .obtain⟨a,C,f,i,e,n,g,l,q⟩:=r
  exact⟨a,C,f,i,e,n,s _ _ g,l,q.mono s⟩
 .exact r
def Ct.grow(g:Gr H G H' m)(r:Ct K G H d v):Ct K m H' d v:=by
 cases d<;>rw[Ct]at r<;>rw[Ct]
 .exact r
 .exact r
 .exact r
 .exact r
 .obtain⟨a,j,e,h,q⟩:=r
  exact⟨a,j,e,⟨g.h _ _ h.1,g.g _ _ h.2⟩,q.mono g.g⟩
 .obtain⟨a,j,e,h,q⟩:=r
  exact⟨a,j,e,dU g.h h,q.mono g.g⟩
 .obtain⟨a,e,h⟩:=r
  exact⟨a,e,g.h.seq h⟩
 .obtain⟨a,b,k,e,h,i,c⟩:=r
  exact⟨a,b,k,e,h.mono g.g λo=>g.h _ o,i.mono g.g,c.mono g.g⟩
 .obtain⟨a,C,f,j,e,n,h,l,q⟩:=r
  exact⟨a,C,f,j,e,n,g.g _ _ h,l,q.mono g.g⟩
 .exact r
def ji(K:W7)(G H:Hp):AR->AQ->Prop
 | [],xs=>xs=[]
 | d::l,xs=>∃x r,xs=x::r/\Ct K G H d x/\ji K G H l r
inductive B where
 | sh (d:D)|ow (l:AR)|od (t:Bool) (ks vs:AR)
abbrev AS:=Option B
abbrev Ro:=List AS
abbrev AX:=Ro->Option AR
abbrev AW:=Ro->Option D
abbrev AV:=Ro->Option Bool
abbrev AU:=D->Ro->Option Ro
structure SR(K:W7)(H0 G0:Hp)(σ:L2.St)(H G:Hp)(ρ:Ro):Prop where
 gr:Gr H0 G0 H G
 len:σ.length=ρ.length
 sh:∀(i:Nat) d,ρ[i]?=some (some (B.sh d))->∃v,σ[i]?=some (some v)/\Rp K G d v
 ow:∀(i:Nat) l,ρ[i]?=some (some (B.ow l))->∃a xs,σ[i]?=some (some (V.ref a))/\G a=none/\H0 a=none/\H a=some (.lst xs)/\RpL K G l xs
 ap:∀(i j:Nat) l l' a b,ρ[i]?=some (some (B.ow l))->ρ[j]?=some (some (B.ow l'))->i≠j->σ[i]?=some (some (V.ref a))->σ[j]?=some (some (V.ref b))->a≠b
 od:∀(i:Nat) t ks vs,ρ[i]?=some (some (B.od t ks vs))->∃a kxs vxs,σ[i]?=some (some (V.ref a))/\G a=none/\H0 a=none/\Dc t G H a kxs vxs/\RpL K G ks kxs/\RpL K G vs vxs
 apd:∀(i j:Nat) t ks vs t' ks' vs' a b,ρ[i]?=some (some (B.od t ks vs))->ρ[j]?=some (some (B.od t' ks' vs'))->i≠j->σ[i]?=some (some (V.ref a))->σ[j]?=some (some (V.ref b))->a≠b
section
variable {H0 G0 H G H' G':Hp}{σ:L2.St}{ρ:Ro}
def SR.mkSh(g:Gr H0 G0 H G)(e:σ.length=ρ.length)(n:∀(i:Nat) d,ρ[i]?=some (some (B.sh d))->∃v,σ[i]?=some (some v)/\Rp K G d v)(f:∀(i:Nat) l,ρ[i]?≠some (some (B.ow l)))(c:∀(i:Nat) t ks vs,ρ[i]?≠some (some (B.od t ks vs))):SR K H0 G0 σ H G ρ:=
 ⟨g,e,n,λi l h=>absurd h (f i l),λi j l o a b h=>absurd h (f i l),λi t ks vs h=>absurd h (c i t ks vs),λi j t ks vs p k m a b h=>absurd h (c i t ks vs)⟩
theorem HU(g:Gr H G H' G')(h:H a=some o)(n:G a=none):G' a=none:=by
 cases q:G' a with
 | none=>rfl
 | some o=>
   have:=g.n a n (by grind);grind
def SR.grow(s:SR K H0 G0 σ H G ρ)(g:Gr H G H' G'):SR K H0 G0 σ H' G' ρ:=by
 refine⟨s.gr.trans g,s.len,λi d e=>?_,λi l e=>?_,s.ap,λi t r q e=>?_,s.apd⟩
 .obtain⟨v,f,b⟩:=s.sh i d e
  exact⟨v,f,b.mono g.g⟩
 .obtain⟨a,u,f,b,k,c,j⟩:=s.ow i l e
  exact⟨a,u,f,HU g c b,k,g.h _ _ c,j.mono g.g⟩
 .obtain⟨a,h,p,f,b,k,c,j,m⟩:=s.od i t r q e
  obtain⟨o,n,_⟩:=c.some;exact⟨a,h,p,f,HU g n b,k,c.mono g.g λo=>g.h _ o,j.mono g.g,m.mono g.g⟩
def SR.seen(s:SR K H0 G0 σ H G ρ):Same G H:=s.gr.s
def Ye{a:Type}{l:List a}{x y:a}(h:(l.set i x)[j]?=some y):(j=i/\y=x/\i<l.length)\/(j≠i/\l[j]?=some y):=by
 by_cases e:j=i
 .subst e
  have b:=by
   have:=(qo h).1;simpa using this
  rw[List.getElem?_set_self b]at h;exact .inl ⟨rfl,wx h.symm,b⟩
 .rw[Qp (.symm e)]at h
  exact .inr ⟨e,h⟩
theorem SR.set_sh(s:SR K H0 G0 σ H G ρ)(i:Nat)(r:Rp K G d v):SR K H0 G0 (σ.set i (some v)) H G (ρ.set i (↑d)):=by
 refine⟨s.gr,by simp[s.len],λj e h=>?_,λj l h=>?_,λj k l F a b g m z n o=>?_,λj t x y h=>?_,λj k t x y J B u a b g m z n o=>?_⟩
 .rcases Ye h with⟨rfl,c,E⟩|⟨f,h⟩
  .cases c
   exact⟨v,by rw[List.getElem?_set_self (by rwa [s.len])],r⟩
  .obtain⟨w,D,p⟩:=s.sh j e h
   exact⟨w,by rwa [Qp (.symm f)],p⟩
 .rcases Ye h with⟨rfl,c,E⟩|⟨f,h⟩
  .cases c
  .obtain⟨a,I,D,p⟩:=s.ow j l h
   exact⟨a,I,by rwa [Qp (.symm f)],p⟩
 .rcases Ye g with⟨rfl,c,_⟩|⟨f,g⟩
  .cases c
  .rcases Ye m with⟨rfl,c,_⟩|⟨q,m⟩
   .cases c
   .rw[Qp (.symm f)]at n
    rw[Qp (.symm q)]at o;exact s.ap j k l F a b g m z n o
 .rcases Ye h with⟨rfl,c,E⟩|⟨f,h⟩
  .cases c
  .obtain⟨a,A,C,D,p⟩:=s.od j t x y h
   exact⟨a,A,C,by rwa [Qp (.symm f)],p⟩
 .rcases Ye g with⟨rfl,c,_⟩|⟨f,g⟩
  .cases c
  .rcases Ye m with⟨rfl,c,_⟩|⟨q,m⟩
   .cases c
   .rw[Qp (.symm f)]at n
    rw[Qp (.symm q)]at o;exact s.apd j k t x y J B u a b g m z n o
theorem SR.set_ow(s:SR K H0 G0 σ H G ρ)(i:Nat)(g:Gr H G H' G')(L:H p=none)(Q:G' p=none)(e:H' p=some (.lst xs))(r:RpL K G' l xs):SR K H0 G0 (σ.set i (some (.ref p))) H' G' (ρ.set i (some (.ow l))):=by
 have B:=s.grow g
 have N:∀(j:Nat) l a,_->σ[j]?=some (some (.ref a))->a≠p:=λj l a o c z=>by
  obtain⟨b,T,q,_,_,M,_⟩:=s.ow j l o;rw[c]at q;cases q;rw[z,L]at M;cases M
 refine⟨B.gr,by simp[s.len],λj e h=>?_,λj l h=>?_,λj k l O a b o c A m n=>?_,λj t J C h=>?_,λj k t J C R E F a b o c A m n=>?_⟩
 .rcases Ye h with⟨rfl,d,y⟩|⟨f,h⟩
  .cases d
  .obtain⟨w,q,v⟩:=B.sh j e h
   exact⟨w,by rwa [Qp (.symm f)],v⟩
 .rcases Ye h with⟨rfl,d,y⟩|⟨f,h⟩
  .cases d
   exact⟨p,xs,by rw[List.getElem?_set_self (by rwa [s.len])],Q,s.gr.h.free L,e,r⟩
  .obtain⟨a,xs,q,v⟩:=B.ow j l h
   exact⟨a,xs,by rwa [Qp (.symm f)],v⟩
 .rcases Ye o with⟨rfl,d,y⟩|⟨f,x⟩
  .rcases Ye c with⟨rfl,S,_⟩|⟨u,c⟩
   .exact absurd rfl A
   .rw[List.getElem?_set_self (by rwa [s.len])]at m
    cases m;rw[Qp (.symm u)]at n;exact .symm (N k O b c n)
  .rcases Ye c with⟨rfl,S,y⟩|⟨u,c⟩
   .rw[List.getElem?_set_self (by rwa [s.len])]at n
    cases n;rw[Qp (.symm f)]at m;exact N j l a x m
   .rw[Qp (.symm f)]at m
    rw[Qp (.symm u)]at n;exact s.ap j k l O a b x c A m n
 .rcases Ye h with⟨rfl,d,y⟩|⟨f,h⟩
  .cases d
  .obtain⟨a,D,I,q,v⟩:=B.od j t J C h
   exact⟨a,D,I,by rwa [Qp (.symm f)],v⟩
 .rcases Ye o with⟨rfl,d,_⟩|⟨f,o⟩
  .cases d
  .rcases Ye c with⟨rfl,d,_⟩|⟨u,c⟩
   .cases d
   .rw[Qp (.symm f)]at m
    rw[Qp (.symm u)]at n;exact s.apd j k t J C R E F a b o c A m n
theorem SR.set_od(s:SR K H0 G0 σ H G ρ)(i:Nat)(g:Gr H G H' G')(hp:H p=none)(gp:G' p=none)(e:Dc t G' H' p kxs vxs)(r1:RpL K G' ks kxs)(r2:RpL K G' vs vxs):SR K H0 G0 (σ.set i (some (.ref p))) H' G' (ρ.set i (some (.od t ks vs))):=by
 have s':=s.grow g
 have np:∀(j:Nat) t ks vs a,ρ[j]?=some (some (B.od t ks vs))->σ[j]?=some (some (V.ref a))->a≠p:=λj t ks vs a h1 h2 z=>by
  obtain⟨b,kxs,vxs,q1,_,_,q4,_⟩:=s.od j t ks vs h1;rw[h2]at q1;cases q1;obtain⟨o,q5,_⟩:=q4.some;rw[z,hp]at q5;cases q5
 refine⟨s'.gr,by simp[s.len],λj e h=>?_,λj l h=>?_,λj k l l' a b h1 h2 h3 h4 h5=>?_,λj t ks vs h=>?_,λj k t ks vs t' ks' vs' a b h1 h2 h3 h4 h5=>?_⟩
 .rcases Ye h with⟨rfl,e1,hl⟩|⟨hj,h⟩
  .cases e1
  .obtain⟨w,q1,q2⟩:=s'.sh j e h
   exact⟨w,by rw[Qp (Ne.symm hj)];exact q1,q2⟩
 .rcases Ye h with⟨rfl,e1,hl⟩|⟨hj,h⟩
  .cases e1
  .obtain⟨a,xs,q1,q2⟩:=s'.ow j l h
   exact⟨a,xs,by rw[Qp (Ne.symm hj)];exact q1,q2⟩
 .rcases Ye h1 with⟨rfl,e1,_⟩|⟨hj,h1⟩
  .cases e1
  .rcases Ye h2 with⟨rfl,e1,_⟩|⟨hk,h2⟩
   .cases e1
   .rw[Qp (Ne.symm hj)]at h4
    rw[Qp (Ne.symm hk)]at h5;exact s.ap j k l l' a b h1 h2 h3 h4 h5
 .rcases Ye h with⟨rfl,e1,hl⟩|⟨hj,h⟩
  .cases e1
   exact⟨p,kxs,vxs,by rw[List.getElem?_set_self (by rw[s.len];exact hl)],gp,s.gr.h.free hp,e,r1,r2⟩
  .obtain⟨a,kxs,vxs,q1,q2⟩:=s'.od j t ks vs h
   exact⟨a,kxs,vxs,by rw[Qp (Ne.symm hj)];exact q1,q2⟩
 .rcases Ye h1 with⟨rfl,e1,hl⟩|⟨hj,h1n⟩
  .rcases Ye h2 with⟨rfl,e2,_⟩|⟨hk,h2⟩
   .exact absurd rfl h3
   .rw[List.getElem?_set_self (by rw[s.len];exact hl)]at h4
    cases h4;rw[Qp (Ne.symm hk)]at h5;exact Ne.symm (np k t' ks' vs' b h2 h5)
  .rcases Ye h2 with⟨rfl,e2,hl⟩|⟨hk,h2⟩
   .rw[List.getElem?_set_self (by rw[s.len];exact hl)]at h5
    cases h5;rw[Qp (Ne.symm hj)]at h4;exact np j t ks vs a h1n h4
   .rw[Qp (Ne.symm hj)]at h4
    rw[Qp (Ne.symm hk)]at h5;exact s.apd j k t ks vs t' ks' vs' a b h1n h2 h3 h4 h5
theorem SR.mut(s:SR K H0 G0 σ H G ρ)(O:ρ[i]?=some (some (B.ow l)))(E:σ[i]?=some (some (V.ref a)))(r:RpL K G P ys):SR K H0 G0 σ (upd H a (.lst ys)) G (ρ.set i (some (.ow P))):=by
 obtain⟨T,xs,N,M,L,Y,Z⟩:=s.ow i l O;rw[E]at N;cases N;refine⟨⟨λb o e=>?_,s.gr.g,λb o e=>?_,s.gr.n⟩,by simp[s.len],λj e h=>?_,λj m h=>?_,λj k m F b c d f v y J=>?_,λj t ks vs h=>?_,λj k t ks vs t' C D b c d f v y J=>?_⟩
 .rw[Yj (Yi e L)];exact s.gr.h b o e
 .rw[Yj (Yi e M)];exact s.gr.s b o e
 .rcases Ye h with⟨rfl,e1,_⟩|⟨n,h⟩
  .cases e1
  .exact s.sh j e h
 .rcases Ye h with⟨rfl,e1,_⟩|⟨n,h⟩
  .cases e1
   exact⟨a,ys,E,M,L,Yh,r⟩
  .obtain⟨b,R,p,I,x,u,w⟩:=s.ow j m h
   exact⟨b,R,p,I,x,by rw[Yj (s.ap j i m l b a h O n p E)];exact u,w⟩
 .have g:∀(j:Nat) m,(ρ.set i (some (.ow P)))[j]?=some (some (.ow m))->∃F,ρ[j]?=some (some (.ow F)):=λj m h=>by
   grind
  obtain⟨S,e1⟩:=g j m d;obtain⟨Q,e2⟩:=g k F f;exact s.ap j k S Q b c e1 e2 v y J
 .rcases Ye h with⟨rfl,e1,_⟩|⟨n,h⟩
  .cases e1
  .obtain⟨b,A,vxs,p,I,x,u,w⟩:=s.od j t ks vs h
   refine⟨b,A,vxs,p,I,x,u.mono (.refl _) λo q=>?_,w⟩;obtain⟨W,q',X⟩:=u.some;rw[Yj (λz=>by grind)];exact q
 .rcases Ye d with⟨rfl,e1,_⟩|⟨n,d⟩
  .cases e1
  .rcases Ye f with⟨rfl,e1,_⟩|⟨U,f⟩
   .cases e1
   .exact s.apd j k t ks vs t' C D b c d f v y J
theorem SR.mutd(s:SR K H0 G0 σ H G ρ)(hi:ρ[i]?=some (some (B.od t ks vs)))(ha:σ[i]?=some (some (V.ref a)))(d:Dc t' G (upd H a o) a kxs vxs)(r1:RpL K G ks' kxs)(r2:RpL K G vs' vxs):SR K H0 G0 σ (upd H a o) G (ρ.set i (some (.od t' ks' vs'))):=by
 obtain⟨a',kxs0,vxs0,q1,q2,q3,q4,q5,q6⟩:=s.od i t ks vs hi;rw[ha]at q1;cases q1;obtain⟨o0,q7,nl⟩:=q4.some;have hl:i<ρ.length:=(qo hi).1;refine⟨⟨λb o e=>?_,s.gr.g,λb o e=>?_,s.gr.n⟩,by simp[s.len],λj e h=>?_,λj m h=>?_,λj k m m' b c h1 h2 h3 h4 h5=>?_,λj ta ka va h=>?_,λj k ta ka va tb kb vb b c h1 h2 h3 h4 h5=>?_⟩
 .rw[Yj (Yi e q3)];exact s.gr.h b o e
 .rw[Yj (Yi e q2)];exact s.gr.s b o e
 .rcases Ye h with⟨rfl,e1,_⟩|⟨hj,h⟩
  .cases e1
  .exact s.sh j e h
 .rcases Ye h with⟨rfl,e1,_⟩|⟨hj,h⟩
  .cases e1
  .obtain⟨b,zs,p1,p2,p3,p4,p5⟩:=s.ow j m h
   exact⟨b,zs,p1,p2,p3,by rw[Yj (λz=>by rw[z,q7]at p4;cases p4;exact nl _ rfl)];exact p4,p5⟩
 .rcases Ye h1 with⟨rfl,e1,_⟩|⟨hj,h1⟩
  .cases e1
  .rcases Ye h2 with⟨rfl,e1,_⟩|⟨hk,h2⟩
   .cases e1
   .exact s.ap j k m m' b c h1 h2 h3 h4 h5
 .rcases Ye h with⟨rfl,e1,_⟩|⟨hj,h⟩
  .cases e1
   exact⟨a,kxs,vxs,ha,q2,q3,d,r1,r2⟩
  .obtain⟨b,kx,vx,p1,p2,p3,p4,p5⟩:=s.od j ta ka va h
   exact⟨b,kx,vx,p1,p2,p3,p4.mono (Same.refl _) λo q=>by rw[Yj (s.apd j i _ _ _ _ _ _ b a h hi hj p1 ha)];exact q,p5⟩
 .have old:∀(j:Nat) t2 k2 v2,(ρ.set i (some (.od t' ks' vs')))[j]?=some (some (B.od t2 k2 v2))->∃t3 k3 v3,ρ[j]?=some (some (B.od t3 k3 v3)):=λj t2 k2 v2 h=>by
   rcases Ye h with⟨rfl,_,_⟩|⟨_,h⟩
   .exact⟨_,_,_,hi⟩
   .exact⟨_,_,_,h⟩
  obtain⟨t1,k1,v1,e1⟩:=old j _ _ _ h1;obtain⟨t2,k2,v2,e2⟩:=old k _ _ _ h2;exact s.apd j k t1 k1 v1 t2 k2 v2 b c e1 e2 h3 h4 h5
theorem SR.freezeT(s:SR K H0 G0 σ H G ρ)(I:ρ[i]?=some (some (B.ow l))):∃G',SR K H0 G0 σ H G' (ρ.set i (↑(.lst l)))/\∀b ys,G' b=some (.tup ys)->G b=some (.tup ys):=by
 obtain⟨a,xs,F,O,R,U,V⟩:=s.ow i l I
 have g:Same G (upd G a (.lst xs)):=λb o e=>by rwa [Yj (Yi e O)]
 refine⟨upd G a _,⟨⟨s.gr.h,s.gr.g.trans g,λb o e=>?_,λb h h'=>?_⟩,by simp[s.len],λj e h=>?_,λj m h=>?_,λj k m L b c d f y D E=>?_,λj t Z vs h=>?_,λj k t Z vs t' A x b c d f y D E=>?_⟩,λb ys e=>by
  by_cases z:b=a
  .subst z;rw[Yh]at e;cases e
  .rwa [Yj z]at e⟩
 .by_cases z:b=a
  .subst z;rw[Yh]at e;symm
  .rw[Yj z]at e;exact s.gr.s b o e
 .by_cases z:b=a
  .grind
  .rw[Yj z]at h';exact s.gr.n b h h'
 .rcases Ye h with⟨rfl,Y,_⟩|⟨p,h⟩
  .cases Y
   exact⟨_,F,⟨a,xs,rfl,.inl Yh,V.mono g⟩⟩
  .obtain⟨v,n,q⟩:=s.sh j e h
   exact⟨v,n,q.mono g⟩
 .rcases Ye h with⟨rfl,Y,_⟩|⟨p,h⟩
  .cases Y
  .obtain⟨b,J,n,q,C,r,w⟩:=s.ow j m h
   exact⟨b,J,n,by rwa [Yj (s.ap j i m l b a h I p n F)],C,r,w.mono g⟩
 .rcases Ye d with⟨rfl,Y,_⟩|⟨p,d⟩
  .cases Y
  .rcases Ye f with⟨rfl,Y,_⟩|⟨N,f⟩
   .cases Y
   .exact s.ap j k m L b c d f y D E
 .rcases Ye h with⟨rfl,Y,_⟩|⟨p,h⟩
  .cases Y
  .obtain⟨b,u,vxs,n,q,C,r,w,M⟩:=s.od j t Z vs h
   obtain⟨S,Q,T⟩:=r.some;exact⟨b,u,vxs,n,by rwa [Yj (λz=>by symm)],C,r.mono g λ_ z=>z,w.mono g,M.mono g⟩
 .rcases Ye d with⟨rfl,Y,_⟩|⟨p,d⟩
  .cases Y
  .rcases Ye f with⟨rfl,Y,_⟩|⟨N,f⟩
   .cases Y
   .exact s.apd j k t Z vs t' A x b c d f y D E
def SR.freeze(s:SR K H0 G0 σ H G ρ)(hi:ρ[i]?=some (some (B.ow l))):∃G',SR K H0 G0 σ H G' (ρ.set i (↑(.lst l))):=by
 obtain⟨G',h,_⟩:=s.freezeT hi;exact⟨G',h⟩
theorem SR.freezedT(s:SR K H0 G0 σ H G ρ)(F:ρ[i]?=some (some (B.od t ks vs))):∃G',SR K H0 G0 σ H G' (ρ.set i (↑(.dct t ks vs)))/\∀b ys,G' b=some (.tup ys)->G b=some (.tup ys):=by
 obtain⟨a,A,vxs,J,M,X,C,O,S⟩:=s.od i t ks vs F;obtain⟨o,T,Y⟩:=C.some
 have d:Same G (upd G a o):=λb o e=>by rwa [Yj (Yi e M)]
 obtain⟨Z,V,W⟩:=C.someT
 refine⟨upd G a o,⟨⟨s.gr.h,s.gr.g.trans d,λb I e=>?_,λb h h'=>?_⟩,by simp[s.len],λj e h=>?_,λj m h=>?_,λj k m P b c f g q u E=>?_,λj t ks vs h=>?_,λj k t ks vs t' D w b c f g q u E=>?_⟩,λb ys e=>by
  by_cases z:b=a
  .subst z;rw[Yh]at e;grind
  .rwa [Yj z]at e⟩
 .by_cases z:b=a
  .subst z;rw[Yh]at e;grind
  .rw[Yj z]at e;exact s.gr.s b I e
 .by_cases z:b=a
  .grind
  .rw[Yj z]at h';exact s.gr.n b h h'
 .rcases Ye h with⟨rfl,e1,_⟩|⟨n,h⟩
  .cases e1
   refine⟨_,J,⟨a,A,vxs,rfl,C.mono d λI z=>?_,O.mono d,S.mono d⟩⟩;rw[T]at z
   rwa [Yh]
  .obtain⟨v,l,p⟩:=s.sh j e h
   exact⟨v,l,p.mono d⟩
 .rcases Ye h with⟨rfl,e1,_⟩|⟨n,h⟩
  .cases e1
  .obtain⟨b,U,l,p,x,y,r⟩:=s.ow j m h
   exact⟨b,U,l,by rwa [Yj (λz=>by grind)],x,y,r.mono d⟩
 .rcases Ye f with⟨rfl,e1,_⟩|⟨n,f⟩
  .cases e1
  .rcases Ye g with⟨rfl,e1,_⟩|⟨N,g⟩
   .cases e1
   .exact s.ap j k m P b c f g q u E
 .rcases Ye h with⟨rfl,e1,_⟩|⟨n,h⟩
  .cases e1
  .obtain⟨b,L,Q,l,p,x,y,r,R⟩:=s.od j t ks vs h
   exact⟨b,L,Q,l,by rwa [Yj (s.apd j i _ _ _ _ _ _ b a h F n l J)],x,y.mono d λ_ z=>z,r.mono d,R.mono d⟩
 .rcases Ye f with⟨rfl,e1,_⟩|⟨n,f⟩
  .cases e1
  .rcases Ye g with⟨rfl,e1,_⟩|⟨N,g⟩
   .cases e1
   .exact s.apd j k t ks vs t' D w b c f g q u E
theorem SR.freezed(s:SR K H0 G0 σ H G ρ)(a:ρ[i]?=some (some (B.od t ks vs))):∃G',SR K H0 G0 σ H G' (ρ.set i (↑(.dct t ks vs))):=by
 obtain⟨G',h,_⟩:=s.freezedT a;grind
def Le(ρ ρ':Ro):Prop:=ρ.length=ρ'.length/\∀(i:Nat) b,ρ[i]?=some (some b)->ρ'[i]?=some (some b)
def SR.le(s:SR K H0 G0 σ H G ρ')(h:Le ρ ρ'):SR K H0 G0 σ H G ρ:=
 ⟨s.gr,s.len.trans h.1.symm,λi d e=>s.sh i d (h.2 i _ e),λi l e=>s.ow i l (h.2 i _ e),λi j l g a b m n=>s.ap i j l g a b (h.2 i _ m) (h.2 j _ n),
  λi t o k e=>s.od i t o k (h.2 i _ e),λi j t o k p f c a b m n=>s.apd i j t o k p f c a b (h.2 i _ m) (h.2 j _ n)⟩
theorem SR.rebase(s:SR K H0 G0 σ H G ρ):∃p,SR K p G σ H G ρ/\∀σ' H' G' ρ',SR K p G σ' H' G' ρ'->SR K H0 G0 σ' H' G' ρ':=by
 classical
 let c:=λa=>∃(i:Nat),((∃l:AR,ρ[i]?=some (some (.ow l)))\/(∃t v u,ρ[i]?=some (some (.od t v u))))/\σ[i]?=some (some (.ref a))
 have B:∀a,c a->H0 a=none:=λa n=>by
  obtain⟨i,x,C⟩:=n;rcases x with⟨l,x⟩|⟨t,v,u,x⟩
  .obtain⟨b,A,d,_,j,_⟩:=s.ow i l x
   grind
  .obtain⟨b,f,w,d,_,j,_⟩:=s.od i t v u x
   grind
 have k:∀a,(if c a then none else H a)=none->_:=λa h=>by
  by_cases o:c a
  .exact B a o
  .rw[if_neg o]at h;exact s.gr.h.free h
 refine⟨λa=>if c a then none else H a,⟨⟨λb o e=>?_,.refl _,s.gr.s,λ_ h y=>absurd h y⟩,s.len,s.sh,λi l e=>?_,s.ap,λi t v u e=>?_,s.apd⟩,λσ' H' G' ρ' t=>⟨⟨λb o e=>?_,s.gr.g.trans t.gr.g,t.gr.s,λb h y=>?_⟩,t.len,t.sh,λi l e=>?_,t.ap,λi r v u e=>?_,t.apd⟩⟩
 .simp_all
 .obtain⟨a,A,d,g,j,m,q⟩:=s.ow i l e
  exact⟨a,A,d,g,if_pos ⟨i,.inl ⟨l,e⟩,d⟩,m,q⟩
 .obtain⟨a,f,w,d,g,j,m⟩:=s.od i t v u e
  exact⟨a,f,w,d,g,if_pos ⟨i,.inr ⟨t,v,u,e⟩,d⟩,m⟩
 .refine t.gr.h b o ?_
  have z:¬c b:=λz=>by ext
  rw[if_neg z];exact s.gr.h b o e
 .by_cases z:G b=none
  .exact k b (t.gr.n b z y)
  .exact s.gr.n b h z
 .obtain⟨a,A,d,g,j,m,q⟩:=t.ow i l e
  ext
 .obtain⟨a,f,w,d,g,j,m⟩:=t.od i r v u e
  grind
end
def tOf(K:W7)(f:AW):TE:=λh H Q=>∃c d b a G,f c=some d/\SR K b a h H G c/\∀v e g,Gr H G e g->Rp K g d v->Q v e
def tCof(K:W7)(f:AW):TE:=λh H Q=>∃e d b a G,f e=some d/\SR K b a h H G e/\∀v c g,Gr H G c g->Ct K g c d v->Q v c
def tCAof(K:W7)(f:AX):TA:=λh H Q=>∃e l b a G,f e=some l/\SR K b a h H G e/\∀g c d,Gr H G c d->ji K d c l g->Q g c
def gT(K:W7)(f:AX):TE:=λh H Q=>∃e l b a G,f e=some l/\SR K b a h H G e/\∀p g d c,Gr H G d c->H p=none->c p=none->d p=some (.lst g)->RpL K c l g->Q (.ref p) d
def tTof(K:W7)(f:AV):TT:=λg H Q=>∃d b c a G,f d=some b/\SR K c a g H G d/\∀e h,Gr H G e h->Q b e
def tAof(K:W7)(f:AX):TA:=λh H Q=>∃e l b a G,f e=some l/\SR K b a h H G e/\∀g d c,Gr H G d c->RpL K c l g->Q g d
def Wk(K:W7)(J:It)(g:Hp)(f:AR):Prop:=f.length<=sizeLine/\∀(i:Nat) a b,Same g b->Same b a->
 (∀d,f[i]?=some d->J.go i a/\∀y e,J.yld i a y e->∃c,Gr a b e c/\Rp K c d y)/\(f.length<=i->J.stop i a)
def ma(K:W7)(f:AX):TI:=λh H R=>∃c e b a G,f c=some e/\SR K b a h H G c/\∀J d g,Gr H G d g->Wk K J g e->R J d
inductive iA where
 | nx (ρ:Ro)|rt (d:D)|bk (ρ:Ro)|ct (ρ:Ro)
abbrev AT:=Ro->Option iA
def yf(K:W7)(b a:Hp)(F:eP):iA->Prop
 | .nx f=>∀c e g,SR K b a c e g f->F.nx c e
 | .rt d=>∀v e g,Gr b a e g->Rp K g d v->F.rt v e
 | .bk f=>∀c e g,SR K b a c e g f->F.bk c e
 | .ct f=>∀c e g,SR K b a c e g f->F.ct c e
def qJ(K:W7)(f:AT):TS:=λF e H=>∃d c b a G,f d=some c/\SR K b a e H G d/\yf K b a F c
def HV(K:W7)(gt:AU):TG:=λv g H Q=>∃d f e b a G,gt d f=some e/\SR K b a g H G f/\Rp K G d v/\∀c,SR K b a c H G e->Q c H
abbrev ME(X:Cx)(e:Expr)(f:AW):Prop:=PE X e (tOf X.K f)
abbrev MC(X:Cx)(e:Expr)(f:AW):Prop:=PE X e (tCof X.K f)
abbrev qK(X:Cx)(a:AM)(f:AX):Prop:=PA X a (tCAof X.K f)
abbrev MF(X:Cx)(e:Expr)(f:AX):Prop:=PE X e (gT X.K f)
abbrev MT(X:Cx)(e:Expr)(f:AV):Prop:=PT X e (tTof X.K f)
abbrev MA(X:Cx)(a:AM)(f:AX):Prop:=PA X a (tAof X.K f)
abbrev MI(X:Cx)(b a:Expr)(f:AX):Prop:=PI X b a (ma X.K f)
abbrev MS(X:Cx)(st:Stmt)(f:AT):Prop:=PS X st (qJ X.K f)
abbrev MB(X:Cx)(a:List Stmt)(f:AT):Prop:=PSs X a (qJ X.K f)
abbrev MG(X:Cx)(a:Expr)(gt:AU):Prop:=PG X a (HV X.K gt)
section
def PE.imp(h:PE X e t)(i:∀σ H Q,t' σ H Q->t σ H Q):PE X e t':=λb s σ H Q I a=>h _ s σ H Q I (i σ H Q a)
def PT.imp(h:PT X e t)(i:∀σ H Q,t' σ H Q->t σ H Q):PT X e t':=λb s σ H Q I a=>h _ s σ H Q I (i σ H Q a)
def PA.imp(h:PA X c t)(i:∀σ H Q,t' σ H Q->t σ H Q):PA X c t':=λa d s σ H Q I b=>h a _ s σ H Q I (i σ H Q b)
def PS.imp{st:Stmt}(h:PS X st t)(i:∀F σ H,t' F σ H->t F σ H):PS X st t':=λb s σ H F I a=>h _ s σ H F I (i F σ H a)
def PSs.imp{st:List Stmt}(h:PSs X st t)(i:∀F σ H,t' F σ H->t F σ H):PSs X st t':=λb s σ H F I a=>h _ s σ H F I (i F σ H a)
def PI.imp(h:PI X a e t)(i:∀σ H R,t' σ H R->t σ H R):PI X a e t':=λc s σ H R I b=>h _ s σ H R I (i σ H R b)
def PG.imp(h:PG X e t)(i:∀v σ H Q,t' v σ H Q->t v σ H Q):PG X e t':=λb s σ H v u Q I r a=>h _ s σ H v u Q I r (i v σ H Q a)
variable {H0 G0 H G:Hp}{σ:L2.St}{ρ:Ro}
def tOf.at(e:f ρ=some d)(s:SR K H0 G0 σ H G ρ)(h:∀v H' a,Gr H G H' a->Rp K a d v->SR K H0 G0 σ H' a ρ->Q v H'):tOf K f σ H Q:=
 ⟨ρ,d,H0,G0,G,e,s,λv H' a g r=>h v H' a g r (s.grow g)⟩
def tCof.at(e:f ρ=some d)(s:SR K H0 G0 σ H G ρ)(h:∀v H' a,Gr H G H' a->Ct K a H' d v->SR K H0 G0 σ H' a ρ->Q v H'):tCof K f σ H Q:=
 ⟨ρ,d,H0,G0,G,e,s,λv H' a g r=>h v H' a g r (s.grow g)⟩
def tCAof.at(e:f ρ=some l)(s:SR K H0 G0 σ H G ρ)(h:∀vs H' a,Gr H G H' a->ji K a H' l vs->SR K H0 G0 σ H' a ρ->Q vs H'):tCAof K f σ H Q:=
 ⟨ρ,l,H0,G0,G,e,s,λv H' a g r=>h v H' a g r (s.grow g)⟩
def ME.mc(h:ME X e f):MC X e f:=PE.imp h λk H Q ⟨c,d,b,a,G,e,s,h⟩=>⟨c,d,b,a,G,e,s,λv i j g r=>h v i j g (.of g.s r)⟩
def tTof.at(e:f ρ=some b)(s:SR K H0 G0 σ H G ρ)(h:∀H' a,Gr H G H' a->SR K H0 G0 σ H' a ρ->Q b H'):tTof K f σ H Q:=
 ⟨ρ,b,H0,G0,G,e,s,λH' a g=>h H' a g (s.grow g)⟩
def tAof.at(e:f ρ=some l)(s:SR K H0 G0 σ H G ρ)(h:∀vs H' a,Gr H G H' a->RpL K a l vs->SR K H0 G0 σ H' a ρ->Q vs H'):tAof K f σ H Q:=
 ⟨ρ,l,H0,G0,G,e,s,λv H' a g r=>h v H' a g r (s.grow g)⟩
end
noncomputable def b2{a:Type}(b fb:AW)(g:D->D->Option a):Ro->Option a:=λc=>(b c).bind λx=>(fb c).bind λy=>g x y
noncomputable def b1{a:Type}(b:AW)(g:D->Option a):Ro->Option a:=λc=>(b c).bind g
theorem md(h:b2 a fb g ρ=some r):∃x y,a ρ=some x/\fb ρ=some y/\g x y=some r:=by
 obtain⟨x,c,h⟩:=qa h;obtain⟨y,b,h⟩:=qa h
 ext
def d7(h:b1 a g ρ=some r):∃x,a ρ=some x/\g x=some r:=by
 obtain⟨x,b,h⟩:=qa h;exact⟨x,b,h⟩
def dB(K:W7)(r:R2)(g:D->D->Option D):Prop:=∀(x y:V) (b a d:D) (H G:Hp) (Q:VK),g b a=some d->Same G H->Ct K G H b x->Ct K G H a y->(∀v e c,Gr H G e c->Rp K c d v->Q v e)->r x y H Q
def eG(K:W7)(r:R2)(g:D->D->Option Bool):Prop:=∀(x y:V) (c a:D) (b:Bool) (H G:Hp) (Q:VK),g c a=some b->Same G H->Ct K G H c x->Ct K G H a y->Q (.bl b) H->r x y H Q
def dC(K:W7)(r:AQ->Hp->VK->Prop)(g:AR->Option D):Prop:=∀(a:AQ) (c:AR) (d:D) (H G:Hp) (Q:VK),g c=some d->Same G H->ji K G H c a->(∀v b e,Gr H G b e->Rp K e d v->Q v b)->r a H Q
def fO(K:W7)(r:AQ->Hp->VK->Prop)(g:AR->Option AR):Prop:=∀(c:AQ) (d l:AR) (H G:Hp) (Q:VK),g d=some l->Same G H->ji K G H d c->
 (∀p e b a,Gr H G b a->H p=none->a p=none->b p=some (.lst e)->RpL K a l e->Q (.ref p) b)->r c H Q
section
variable {a b c e:Expr}{es:AM}{fb fc f:AW}
noncomputable def ab(i:Nat):AW:=λa=>match a[i]? with
 | some (some (.sh d))=>some d
 | _=>none
noncomputable def cM(i:Nat):AX:=λa=>match a[i]? with
 | some (some (.ow l))=>some l
 | _=>none
theorem N8(h:ab i ρ=some d):ρ[i]?=some (some (B.sh d)):=by
 unfold ab at h;symm
theorem yg(h:cM i ρ=some l):ρ[i]?=some (some (B.ow l)):=by
 unfold cM at h;grind
noncomputable def aa(i:Nat):AW:=λc=>match c[i]? with
 | some (some (.sh d))=>some d
 | some (some (.ow l))=>some (.lst l)
 | some (some (.od t b a))=>some (.dct t b a)
 | _=>none
noncomputable def kD(d:D):AW:=λ_=>some d
abbrev Zb(i:Int):=kD (.int i)
def qL(h:PE X e t)(j:∀σ H Q,Q v H->t σ H Q)(i:∀G,Rp X.K G d v):ME X e (kD d):=
 PE.imp h λσ H Q g=>by
  obtain⟨a,b,l,k,G,e,s,h⟩:=g;cases e;exact j σ H Q (h v H G (.refl s.seen) (i G))
def mf{j}:ME X (.Constant (.int i) j pos) (Zb i):=qL vw (λ_ _ _ q=>q) λ_=>by rw[Rp]
def yh{j}:ME X (.Constant (.bool k) j pos) (kD (.bl k)):=qL vy (λ_ _ _ q=>q) λ_=>by rw[Rp]
def yi{j}:ME X (.Constant .none j pos) (kD .non):=qL vz (λ_ _ _ q=>q) λ_=>by rw[Rp]
def mh(m:dB K r g)(h:tOf K (b2 fa fb g) σ H Q):iX r (tCof K fa) (tCof K fb) σ H Q:=by
 obtain⟨c,d,I,J,G,e,s,h⟩:=h;obtain⟨n,C,y,k,z⟩:=md e;exact tCof.at y s λv E F p t l=>tCof.at k l λu j B i q x=>m v u n C d j B Q z x.seen (t.grow i) q λw a b o A=>h w a b ((p.trans i).trans o) A
def yj(m:eG K r g)(h:tTof K (b2 fa fb g) σ H Q):lR (iX r (tCof K fa) (tCof K fb)) σ H Q:=by
 obtain⟨a,d,B,E,G,e,s,h⟩:=h;obtain⟨n,y,t,w,l⟩:=md e;exact tCof.at t s λv C A o q z=>tCof.at w z λu j k i p x=>m v u n y d j k _ l x.seen (q.grow i) p ⟨d,rfl,h j k (o.trans i)⟩
noncomputable def mB(f:AV):AW:=λa=>(f a).map .bl
def yk{f:AV}(h:mB f ρ=some d):∃b,f ρ=some b/\d=.bl b:=by
 obtain⟨b,a,c⟩:=qc h;exact⟨b,a,c.symm⟩
def N9(m:eG K r g)(h:tOf K (mB (b2 fa fb g)) σ H Q):iX r (tCof K fa) (tCof K fb) σ H Q:=by
 obtain⟨a,d,C,F,G,e,s,h⟩:=h;obtain⟨b,o,rfl⟩:=yk e;obtain⟨n,z,w,x,l⟩:=md o;exact tCof.at w s λv E B p t A=>tCof.at x A λu j k i q y=>m v u n z b j k _ l y.seen (t.grow i) q (h _ j k (p.trans i) (by rw[Rp]))
def kI(j:bR X (binaryOp op) r)(i:dB X.K r g)(d:MC X a fa)(c:MC X b fb):ME X (.BinOp a op b pos) (b2 fa fb g):=PE.imp (pU j d c) λ_ _ _ h=>mh i h
def jk(k:bR X (compareOp op) r)(i:eG X.K r g)(d:MC X a fa)(e:MC X b fb)(j:behindInMarks op b=false):ME X (.Compare a [op] [b] pos) (mB (b2 fa fb g)):=PE.imp (wX k d e j) λ_ _ _ h=>N9 i h
def gv(k:bR X (compareOp op) r)(i:eG X.K r g)(d:MC X a fa)(e:MC X b fb)(j:behindInMarks op b=false):MT X (.Compare a [op] [b] pos) (b2 fa fb g):=PT.imp (wY k d e j) λ_ _ _ h=>yj i h
def qM(j:IxR X r)(i:dB X.K r g)(d:MC X a fa)(c:MC X b fb)(hs:iu b):ME X (.Subscript a b pos) (b2 fa fb g):=PE.imp (xM j d c hs) λ_ _ _ h=>mh i h
noncomputable def i2(C:Int->Int->Bool)(g:Int->Int->Int):D->D->Option D
 | .int i,.int j=>if C i j=true then some (.int (g i j))else none
 | _,_=>none
noncomputable def mi(g:Int->Int->Bool):D->D->Option Bool
 | .int i,.int j=>some (g i j)
 | _,_=>none
def qN(k:∀i j,n i j=true->C i j):dB K (rI C λi j=>.int (g i j)) (i2 n g):=by
 intro x y p r d H G Q h s m o q;unfold i2 at h
 split at h
 .split at h
  .rename_i i j l
   cases h;subst m o;exact⟨i,j,rfl,rfl,k i j l,q _ H G (.refl s) (by rw[Rp])⟩
  .cases h
 .cases h
def HW:dB K (gq λi j=>.int (g i j)) (i2 (λ_ _=>true) g):=by
 intro x y m n d H G Q h s l k q;unfold i2 at h
 split at h
 .split at h
  .rename_i i j o
   cases h;subst l k;exact⟨i,j,rfl,rfl,q _ H G (.refl s) (by rw[Rp])⟩
  .cases h
 .cases h
def kJ:eG K (gq λi j=>.bl (g i j)) (mi g):=by
 intro x y m n d H G Q h s l k q;unfold mi at h
 split at h
 .rename_i i j
  cases h;subst l k;exact⟨i,j,rfl,rfl,q⟩
 .cases h
def cN:D->D->Option D:=i2 (λ_ _=>true) λi j=>i+j
def dD:D->D->Option D:=i2 (λ_ _=>true) λi j=>i-j
def fP:D->D->Option D:=i2 (λi j=>decide (-(2^64)<i)&&decide (i<2^64)||(decide (-(2^64)<j)&&decide (j<2^64))) λi j=>i*j
def cv:D->D->Option D:=i2 (λ_ j=>decide (0<j)&&decide (j<1073741824)) λi j=>i/j
def aD:D->D->Option D:=i2 (λ_ j=>decide (0<j)) λi j=>i%j
def cZ:=mi λi j=>decide (i<j)
def HX:=mi λi j=>decide (i<=j)
def eS:=mi λi j=>decide (j<i)
mutual
def bu:D->Nat
 | .tup l=>bw l+1
 | .lst l=>bw l+1
 | .scr _=>1
 | .dct _ _ _=>1000
 | .obj _ _ _=>1000
 | .adr _=>1000
 | _=>0
def bw:AR->Nat
 | []=>0
 | d::l=>max (bu d) (bw l)
end
mutual
theorem mj:∀d:D,(aH d).depth<=bu d
 | .non=>by simp[aH,PyData.depth]
 | .bl b=>by simp[aH,PyData.depth]
 | .int b=>by simp[aH,PyData.depth]
 | .str b=>by simp[aH,PyData.depth]
 | .tup l=>by have:=ym l;simp[aH,PyData.depth,bu];lia
 | .lst l=>by have:=ym l;simp[aH,PyData.depth,bu];lia
 | .scr ns=>by rw[aH,PyData.depth,bu,W.ke_depthAll];grind
 | .dct _ _ _=>by simp[aH,PyData.depth]
 | .obj _ _ _=>by simp[aH,PyData.depth]
 | .adr _=>by simp[aH,PyData.depth]
theorem ym:∀l,PyData.depthAll (c8 l)<=bw l
 | []=>by simp[c8,PyData.depthAll]
 | d::l=>by have g:=mj d;have h:=ym l;simp[c8,PyData.depthAll,bw];lia
end
section
variable {σ:L2.St}{H:Hp}{s:Shared}
mutual
theorem gU(I:Inv X pins σ H s):∀{d:D}{v:V}{u:Value},bu d<=100->Rp X.K H d v->RelV v u->∃j,Reads s.heap u (aH d) j/\(aH d).canLay0=true
 | .non,v,u,_,r,q=>by
   subst r;cases q;exact⟨_,by exact .none,by simp[aH,PyData.canLay0]⟩
 | .bl b,v,u,_,r,q=>by
   subst r;cases q;exact⟨_,by exact .bool b,by simp[aH,PyData.canLay0]⟩
 | .int i,v,u,_,r,q=>by
   subst r;obtain⟨t,rfl⟩:=q;exact⟨_,by exact .int i t,by simp[aH,PyData.canLay0]⟩
 | .str x,v,u,_,r,q=>by
   obtain⟨rfl,G⟩:=r;obtain⟨t,rfl⟩:=q;exact⟨_,by exact .str x t,by simp[aH,PyData.canLay0,G]⟩
 | .tup l,v,u,h,r,q=>by
   obtain⟨a,xs,rfl,g,y⟩:=r;cases q
   obtain⟨_,its,p,C⟩:=(I.hok a _ g)
   obtain⟨o,w,k,n,m⟩:=C;obtain⟨j,q,z⟩:=yn I (by simp [bu]at h;ac_nf) y p;exact⟨_,.tuple w k m (by simpa using q),by simpa [aH,PyData.canLay0]using z⟩
 | .lst l,v,u,h,r,q=>by
   obtain⟨a,xs,rfl,g,y⟩:=r;cases q;obtain⟨its,p,pl,_⟩:=I.list (.inl g);obtain⟨o,w,k,n,m⟩:=pl.isList;obtain⟨j,q,z⟩:=yn I (by simp [bu]at h;ac_nf) y p;exact⟨_,.list w k m (by simpa using q),by simpa [aH,PyData.canLay0]using z⟩
 | .dct _ _ _,v,u,h,r,q=>by simp[bu]at h
 | .obj _ _ _,v,u,h,r,q=>by simp[bu]at h
 | .adr _,v,u,h,r,q=>by simp[bu]at h
 | .scr ns,v,u,_,r,q=>by
   obtain⟨a,rfl,g⟩:=r;cases q;obtain⟨its,p,pl,_⟩:=I.list g;exact⟨_,W.reads_of_ints pl.isList (pY p),by rw[aH];simp[PyData.canLay0,W.ke_canLayAll0]⟩
theorem yn(I:Inv X pins σ H s):∀{l:AR}{xs:AQ}{us:AE},bw l<=100->RpL X.K H l xs->Vals xs us->∃j,ReadsAll s.heap us (c8 l) j/\PyData.canLayAll0 (c8 l)=true
 | [],xs,us,_,r,q=>by
   subst r;cases q;exact⟨_,by exact .nil,by simp[c8,PyData.canLayAll0]⟩
 | d::l,xs,us,h,r,q=>by
   obtain⟨x,xs,rfl,J,E⟩:=r;rw[bw]at h
   cases q with
   | cons B A=>
     obtain⟨j,w,k⟩:=gU I ∅ J B;obtain⟨L,m,F⟩:=yn I ∅ E A;exact⟨_,by exact .cons w m,by simp[c8,PyData.canLayAll0,k,F]⟩
end
end
theorem kK(l:AR)(d:D):((c8 l).any λy=>PyData.eqv y (aH d))=l.any λy=>bg y d:=by
 induction l with
 | nil=>simp[c8]
 | cons e l g=>
   rw[c8,List.any_cons,g];rfl
def ay(g:Bool):D->D->Option Bool:=λd e=>if bu d<=60/\bu e<=60 then some (if g then !bg d e else bg d e)else none
def jl(K:W7)(g:Bool):R2:=λx y H Q=>∃d e,Rp K H d x/\Rp K H e y/\(bu d<=60/\bu e<=60)/\Q (.bl (if g then !bg d e else bg d e)) H
theorem ml(r:X.A.units+64<cLine):bR X (compareOp .Eq) (jl X.K false):=by
 intro b s p H x y v u Q I m c h;obtain⟨d,e,n,j,t,q⟩:=h;obtain⟨g,i,o⟩:=gU I ∅ n m;obtain⟨l,k,f⟩:=gU I ∅ j c;exact SeqAt.eqOverData _ X.w X.A _ s v u _ _ g l _ i k o f (by have:=mj e;ac_nf) ⟨.bl _,H,I,rfl,q⟩
theorem mm(z:X.A.units+64<cLine):bR X (compareOp .NotEq) (jl X.K true):=by
 intro b s c H x y v u Q I o i h;obtain⟨d,e,m,j,w,q⟩:=h;obtain⟨r,p,k⟩:=gU I ∅ m o;obtain⟨n,t,l⟩:=gU I ∅ j i;exact SeqAt.neOverData _ X.w X.A _ s v u _ _ r n _ p t k l (by have:=mj d;symm) ⟨.bl _,H,I,rfl,q⟩
theorem qO:eG K (jl K d) (ay d):=by
 intro x y i j b H G Q h s k g q;unfold ay at h
 split at h
 .cases h
  exact⟨i,j,k.rp s,g.rp s,by assumption,q⟩
 .cases h
noncomputable def Yc:D->Option AR
 | .tup l=>some l
 | .lst l=>some l
 | .scr a=>some (a.map .int)
 | _=>none
def gw(d:D)(l:AR):Bool:=l.any λy=>bg y d
def bc(g:Bool):D->D->Option Bool:=λd c=>(Yc c).bind λl=>if bw l<=60/\bu d<=60 then some (if g then !gw d l else gw d l)else none
def jm(K:W7)(g:Bool):R2:=λx y H Q=>∃d c l,Rp K H d x/\Rp K H c y/\Yc c=some l/\(bw l<=60/\bu d<=60)/\Q (.bl (if g then !gw d l else gw d l)) H
def gW{c:D}(h:Yc c=some l):c=.tup l\/c=.lst l\/∃ns,c=.scr ns/\l=ns.map D.int:=by
 cases c with
 | tup m=>cases h;exact .inl rfl
 | lst m=>cases h;exact .inr (.inl rfl)
 | scr ns=>cases h;exact .inr (.inr ⟨ns,rfl,rfl⟩)
 | non=>cases h
 | bl _=>cases h
 | int _=>cases h
 | str _=>cases h
 | dct _ _ _=>cases h
 | obj _ _ _=>cases h
 | adr _=>cases h
theorem yo:∀ns:AH,c8 (ns.map D.int)=ns.map PyData.int
 | []=>by simp[c8]
 | n::ns=>by simp[c8,aH,yo ns]
theorem mn(B:X.A.units+64<cLine):bR X (compareOp .In) (jm X.K false):=by
 intro b s f H x y v u Q I t o h;obtain⟨d,c,l,p,w,n,C,q⟩:=h;obtain⟨E,m,k⟩:=gU I ∅ p t
 have r:bu c<=61:=by
  rcases gW n with rfl|rfl|⟨e,rfl,rfl⟩
  .rw[bu];ext
  .rw[bu];ext
  .rw[bu];ac_nf
 obtain⟨A,j,i⟩:=gU I ∅ w o;have z:=mj d;rcases gW n with rfl|rfl|⟨e,rfl,rfl⟩
 .rw[aH]at j i
  exact SeqAt.in_tuple_reads j m (by simpa [PyData.canLay0]using i) k ∅ ⟨.bl _,H,I,rfl,by rwa [kK]⟩
 .rw[aH]at j i
  exact SeqAt.in_list_reads j m (by simpa [PyData.canLay0]using i) k ∅ ⟨.bl _,H,I,rfl,by rwa [kK]⟩
 .rw[aH,<-yo]at j i
  exact SeqAt.in_list_reads j m (by simpa [PyData.canLay0]using i) k ∅ ⟨.bl _,H,I,rfl,by rwa [kK]⟩
theorem N_(B:X.A.units+64<cLine):bR X (compareOp .NotIn) (jm X.K true):=by
 intro b s f H x y v u Q I t o h;obtain⟨d,c,l,p,w,n,C,q⟩:=h;obtain⟨E,m,k⟩:=gU I ∅ p t
 have r:bu c<=61:=by
  rcases gW n with rfl|rfl|⟨e,rfl,rfl⟩
  .rw[bu];ac_nf
  .rw[bu];ac_nf
  .rw[bu];ac_nf
 obtain⟨A,j,i⟩:=gU I ∅ w o;have z:=mj d;rcases gW n with rfl|rfl|⟨e,rfl,rfl⟩
 .rw[aH]at j i
  exact SeqAt.notIn_tuple_reads j m (by simpa [PyData.canLay0]using i) k ∅ ⟨.bl _,H,I,rfl,by rwa [kK]⟩
 .rw[aH]at j i
  exact SeqAt.notIn_list_reads j m (by simpa [PyData.canLay0]using i) k ∅ ⟨.bl _,H,I,rfl,by rwa [kK]⟩
 .rw[aH,<-yo]at j i
  exact SeqAt.notIn_list_reads j m (by simpa [PyData.canLay0]using i) k ∅ ⟨.bl _,H,I,rfl,by rwa [kK]⟩
theorem yp:eG K (jm K d) (bc d):=by
 intro x y i k b H G Q h s m g q;obtain⟨l,j,h⟩:=qa h
 split at h
 .cases h
  exact⟨i,k,l,m.rp s,g.rp s,j,by assumption,q⟩
 .cases h
end
section
variable {a b c e:Expr}{es:AM}{fb f:AW}{fc:AV}
noncomputable def aN:D->Option Bool
 | .non=>some false
 | .bl b=>some b
 | .int i=>some (i != 0)
 | .tup l=>some (!l.isEmpty)
 | .lst l=>some (!l.isEmpty)
 | .scr a=>some (!a.isEmpty)
 | .str _=>none
 | .dct _ _ _=>none
 | .obj _ _ _=>none
 | .adr _=>none
theorem yq(h:aN d=some k)(r:Ct X.K G H d v):i6 X.K v H k:=by
 cases d with
 | non=>subst r;cases h;rfl
 | bl b=>subst r;cases h;rfl
 | int i=>subst r;cases h;rfl
 | str x=>cases h
 | dct _ _ _=>cases h
 | obj _ _ _=>cases h
 | adr _=>cases h
 | tup l=>
   obtain⟨a,c,rfl,g,j⟩:=r;cases h;refine .inr (.inl ⟨c,.inl (.inl g.1),?_⟩);have:=j.length;grind
 | lst l=>
   obtain⟨a,c,rfl,g,j⟩:=r;cases h;refine .inl ⟨c,.inl g,?_⟩;have:=j.length;grind
 | scr e=>
   obtain⟨a,rfl,g⟩:=r;cases h;refine .inl ⟨_,g,?_⟩;cases e<;>simp
noncomputable def aU(fc fd:AV):AV:=λa=>(fc a).bind λk=>if k=true then fd a else some false
noncomputable def dO(fc fd:AV):AV:=λa=>(fc a).bind λk=>if k=true then some true else fd a
noncomputable def bG(fc:AV):AV:=λa=>(fc a).map (!·)
abbrev MW(X:Cx)(e:Expr)(f:AV):Prop:=PW X e (tTof X.K f)
def PW.imp(h:PW X e t)(i:∀σ H Q,t' σ H Q->t σ H Q):PW X e t':=λd a s σ H Q I g=>h d _ s σ H Q I (i σ H Q g)
theorem yr(h:tTof K (aU fc fd) σ H Q):lH (tTof K fc) (tTof K fd) σ H Q:=by
 obtain⟨a,k,p,r,G,e,s,h⟩:=h;unfold aU at e;obtain⟨g,j,e⟩:=qa e;refine tTof.at j s λq o d l=>?_
 cases g with
 | true=>
   rw[if_pos rfl]at e ⊢;exact tTof.at e l λi m n _=>h i m (d.trans n)
 | false=>
   grind
theorem yt(h:tTof K (dO fc fd) σ H Q):GY (tTof K fc) (tTof K fd) σ H Q:=by
 obtain⟨a,k,p,r,G,e,s,h⟩:=h;unfold dO at e;obtain⟨g,j,e⟩:=qa e;refine tTof.at j s λq o d l=>?_
 cases g with
 | false=>
   rw[if_neg qi]at e ⊢;exact tTof.at e l λi m n _=>h i m (d.trans n)
 | true=>
   symm
noncomputable def gX:D->Option Bool
 | .bl b=>some b
 | _=>none
def yu(h:gX d=some k):d=.bl k:=by cases d<;>simp[gX]at h;subst h;rfl
def bJ(fa fb:AW):AW:=λa=>(b1 fa gX a).bind λk=>if k=true then fb a else some (.bl false)
def kL(fa fb:AW):AW:=λρ=>(b1 fa gX ρ).bind λk=>if k=true then some (.bl true)else fb ρ
def fQ(fa:AW):AW:=λa=>(b1 fa gX a).map λk=>.bl (!k)
noncomputable def yv(fc:AV)(fa fb:AW):AW:=λa=>(fc a).bind λk=>if k=true then fa a else fb a
noncomputable def kM:D->Bool
 | .non=>true
 | _=>false
def HY(r:Ct K G H d v):decide (v=V.non)=kM d:=by
 cases d with
 | non=>subst r;rfl
 | bl _=>subst r;rfl
 | int _=>subst r;rfl
 | str _=>obtain⟨rfl,_⟩:=r;rfl
 | tup _=>obtain⟨_,_,rfl,_⟩:=r;rfl
 | lst _=>obtain⟨_,_,rfl,_⟩:=r;rfl
 | scr _=>obtain⟨_,rfl,_⟩:=r;rfl
 | dct _ _ _=>obtain⟨_,_,_,rfl,_⟩:=r;rfl
 | obj _ _ _=>obtain⟨_,_,_,_,rfl,_⟩:=r;rfl
 | adr _=>subst r;rfl
def cT(g:Bool):D->D->Option Bool:=λd e=>if kM e then some (if g then !kM d else kM d)else none
def HZ:eG K (λx y H Q=>y=.non/\Q (.bl (decide (x=.non))) H) (cT false):=by
 intro x y k i b H G Q h s g j q;unfold cT at h
 split at h
 .rename_i d
  cases h;cases i<;>simp[kM]at d;exact⟨j,by rwa [HY g]⟩
 .cases h
def H_:eG K (λx y H Q=>y=.non/\Q (.bl (!decide (x=.non))) H) (cT true):=by
 intro x y k i b H G Q h s g j q;unfold cT at h
 split at h
 .rename_i d
  cases h;cases i<;>simp[kM]at d;exact⟨j,by rwa [HY g]⟩
 .cases h
def aj:D->D->Option D
 | c,.int i=>(Yc c).bind λl=>aX l i
 | _,_=>none
theorem yw(r:RpL K G l xs)(h:aX l i=some d):∃x,aX xs i=some x/\Rp K G d x:=by
 unfold aX at h ⊢;rw[r.length];obtain⟨j,k,g⟩:=qa h;obtain⟨x,m,n⟩:=r.get g
 ext
def yx:dB X.K (Hu X.K) aj:=by
 intro x y u w d H G Q h s n r q;unfold aj at h
 split at h
 .rename_i c i
  obtain⟨l,t,m⟩:=qa h;subst r;rcases gW t with rfl|rfl|⟨b,rfl,rfl⟩
  .obtain⟨p,a,rfl,g,o⟩:=n
   obtain⟨v,k,j⟩:=yw o m;exact .inr (.inl ⟨p,a,i,v,rfl,rfl,.inl (.inl g.1),k,q v H G (.refl s) j⟩)
  .obtain⟨p,a,rfl,g,o⟩:=n
   obtain⟨v,k,j⟩:=yw o m;exact .inl ⟨p,a,i,v,rfl,rfl,.inl g,k,q v H G (.refl s) j⟩
  .obtain⟨p,rfl,g⟩:=n
   obtain⟨v,k,j⟩:=yw (.ints b) m;exact .inl ⟨p,_,i,v,rfl,rfl,g,k,q v H G (.refl s) j⟩
 .cases h
def Ia(c:MC X a fa)(d:MC X b fb)(hs:iu b:=by intro _ _;rfl):ME X (.Subscript a b pos) (b2 fa fb aj):=qM xO yx c d hs
noncomputable def eT:D->Option Int
 | .int i=>some i
 | _=>none
def c4(f:Option AW):Ro->Option (Option Int):=λa=>match f with
 | none=>some none
 | some f=>(b1 f eT a).map some
def cf(l:AR)(lo g:Option Int):AR:=(l.drop (HT.sIx l.length 0 lo)).take (HT.sIx l.length l.length g-HT.sIx l.length 0 lo)
noncomputable def fR:D->Option AR
 | .lst l=>some l
 | .scr a=>some (a.map .int)
 | _=>none
def Oa(h:fR d=some l)(r:Ct K G H d v):∃p xs,v=.ref p/\SqL K H p xs/\RpL K G l xs:=by
 cases d with
 | lst m=>
   cases h;obtain⟨p,xs,e,g,q⟩:=r;exact⟨p,xs,e,.inl g,q⟩
 | scr a=>
   cases h;obtain⟨p,e,g⟩:=r;exact⟨p,_,e,g,.ints a⟩
 | non=>cases h
 | bl _=>cases h
 | int _=>cases h
 | str _=>cases h
 | tup _=>cases h
 | dct _ _ _=>cases h
 | obj _ _ _=>cases h
 | adr _=>cases h
def jn(fa:AW)(lo d:Option AW):AX:=λa=>(b1 fa fR a).bind λl=>(c4 lo a).bind λi=>(c4 d a).bind λj=>some (cf l i j)
abbrev tO(K:W7)(f:Option AW):TO:=match f with
 | none=>Hr
 | some f=>lY (tCof K f)
def qP{f:Option AW}(e:c4 f ρ=some i)(s:SR K q r σ H G ρ)(h:∀H' a,Gr H G H' a->SR K q r σ H' a ρ->Q i H'):tO K f σ H Q:=by
 cases f with
 | none=>
   cases e;exact h H G (.refl s.seen) s
 | some f=>
   obtain⟨k,p,rfl⟩:=qc e;obtain⟨d,n,g⟩:=d7 p
   refine tCof.at n s λv l t o j m=>⟨k,?_,h l t o m⟩
   cases d<;>simp[eT]at g;subst g;exact j
def yy:PO X none (tO X.K none):=xD
noncomputable def lF(f:AX):AW:=λa=>(f a).map .lst
def MF.me(h:MF X e g):ME X e (lF g):=PE.imp h λw H Q i=>by
 obtain⟨a,d,m,u,G,e,s,h⟩:=i;obtain⟨l,t,rfl⟩:=qc e
 exact⟨a,l,m,u,G,t,s,λp f c v g k j n r=>h _ c _ (g.show k j n) (by
  refine⟨p,f,rfl,.inl Yh,r.mono λb o q=>?_⟩
  rwa [Yj (Yi q j)])⟩
def ae:AX:=λ_=>some []
noncomputable def Yb(f:AW)(g:AX):AX:=λa=>(f a).bind λd=>(g a).map (d::·)
def yz:MA X [] ae:=PA.imp gO λb H Q d=>by
 obtain⟨a,l,i,g,G,e,s,h⟩:=d;cases e;exact h [] H G (.refl s.seen) .nil
def yA(p:ME X e f)(k:MA X es ga)(hs:Zc X e es:=by rfl):MA X (e::es) (Yb f ga):=PA.imp (fL p k hs) λc H Q g=>by
 obtain⟨a,l,w,A,G,e,s,h⟩:=g;obtain⟨d,t,e⟩:=qa e;obtain⟨y,m,rfl⟩:=qc e;exact tOf.at t s λv z x r q o=>tAof.at m o λb j u i n _=>h _ j u (r.trans i) (.cons (q.mono i.g) n)
def kN:qK X [] ae:=PA.imp gO λb H Q d=>by
 obtain⟨a,l,i,g,G,e,s,h⟩:=d;cases e;exact h [] H G (.refl s.seen) rfl
def kO(p:MC X e f)(k:qK X es ga)(hs:Zc X e es:=by rfl):qK X (e::es) (Yb f ga):=PA.imp (fL p k hs) λc H Q g=>by
 obtain⟨b,l,w,A,G,e,s,h⟩:=g;obtain⟨d,t,e⟩:=qa e;obtain⟨y,m,rfl⟩:=qc e;exact tCof.at t s λv z x r q o=>tCAof.at m o λa j u i n _=>h _ j u (r.trans i) ⟨v,a,rfl,q.grow i,n⟩
noncomputable def aK:Nat:=1000000
def gy(h:n<=aK):n<=sizeLine:=Qg h (by decide)
def aw(ga:AX):AW:=λa=>(ga a).bind λl=>if l.length<=aK then some (.tup l)else none
def aV(ga:AX):AX:=λa=>(ga a).bind λl=>if l.length<=aK then some l else none
theorem mq(h:MA X es ga):MF X (.List es pos) (aV ga):=PE.imp (xi h) λn H Q b=>by
 obtain⟨r,d,m,o,G,e,s,h⟩:=b;obtain⟨l,k,e⟩:=qa e
 split at e
 .cases e
  exact tAof.at k s λi q j c f g=>⟨by rw[f.length];exact gy (by assumption),λp a=>h p i _ j (c.trans (.hid g.seen a _)) (c.h.free a) (g.seen.free a) Yh f⟩
 .cases e
noncomputable def cC(ga:AX)(g:AR->Option D):AW:=λa=>(ga a).bind g
noncomputable def cF(ga:AX)(g:AR->Option AR):AX:=λa=>(ga a).bind g
def mu(m:dC K r g)(h:tOf K (cC ga g) σ H Q):pW r (tCAof K ga) σ H Q:=by
 obtain⟨f,d,w,x,G,e,s,h⟩:=h;obtain⟨l,t,n⟩:=qa e;exact tCAof.at t s λa k i u p j=>m a l d k i Q n j.seen p λv b c q o=>h v b c (u.trans q) o
def Ib(m:fO K r g)(h:gT K (cF ga g) σ H Q):pW r (tCAof K ga) σ H Q:=by
 obtain⟨B,d,z,A,G,e,s,h⟩:=h;obtain⟨l,v,n⟩:=qa e;exact tCAof.at v s λa k j i t w=>m a l d k j Q n w.seen t λp b f c u x q y o=>h p b f c (i.trans u) (i.h.free x) q y o
section
variable {x:Str}{p:Pos}{id T:String}{r:AQ->Hp->VK->Prop}{g:AR->Option D}{gf:AR->Option AR}
end
def de(K:W7)(n:Nat)(g:AR->Option D):Sp:=λa H Q _=>a.length=n/\∃c d G,Same G H/\RpL K G c a/\g c=some d/\∀v b e,Gr H G b e->Rp K e d v->Q v b
theorem yB{p:Pos}(F:cA X.prog X.w X.K X.mg X.base eh k g m ps (de X.K n A))(E:Room k X.A)(z:Gl X x)(a:X.mg x=some (.ref g))(u:W.keepIn X.K (.ref g)=true)(D:Binds X.K m ps [])(L:MA X (e::es) ga)(o:dq x:=by decide)(w:starEach (e::es) X.env=(false,eval e X.env)::starEach es X.env:=by rfl)(j:(backTo pos (starEach es X.env)).any (·.1)=false:=by rfl)(R:∀ρ l,ga ρ=some l->l.length=n):ME X (.Call (.Name x p) (e::es) [] pos) (cC ga A):=
 PE.imp (xm F E z a u D .nil xT L o w j) λM H Q i=>by
  obtain⟨ρ,d,N,O,G,e,s,h⟩:=i;obtain⟨l,t,C⟩:=qa e;refine tAof.at t s λK P B J q r=>?_;rw[wz];exact⟨by rw[q.length];grind,l,d,B,r.seen,q,C,λv b c I y=>h v b c (J.trans I) y⟩
def Ob(h:ae ρ=some l):l.length=0:=by cases h;rfl
theorem kP(i:∀ρ l,g ρ=some l->l.length=n):∀ρ l,Yb f g ρ=some l->l.length=n+1:=λρ l h=>by
 obtain⟨d,k,e⟩:=qa h;obtain⟨m,j,rfl⟩:=qc e;grind
def aA:AR->Option D
 | [c]=>(Yc c).map λl=>.int l.length
 | _=>none
def mv{c:D}(h:Yc c=some l)(r:Ct K G H c v):∃p xs,v=.ref p/\(SqL K H p xs\/SqT K H p xs)/\RpL K G l xs:=by
 rcases gW h with rfl|rfl|⟨a,rfl,rfl⟩
 .obtain⟨p,xs,rfl,g,d⟩:=r
  exact⟨p,xs,rfl,.inr (.inl (.inl g.1)),d⟩
 .obtain⟨p,xs,rfl,g,d⟩:=r
  exact⟨p,xs,rfl,.inl (.inl g),d⟩
 .obtain⟨p,rfl,g⟩:=r
  exact⟨p,_,rfl,.inl g,.ints a⟩
def kQ(h:RpL K G [d] vs):∃v,vs=[v]/\Rp K G d v:=by
 rw[RpL]at h;obtain⟨x,r,rfl,h1,h2⟩:=h;rw[RpL]at h2;subst h2;exact⟨x,rfl,h1⟩
theorem gz(h:ji K G H [d] vs):∃v,vs=[v]/\Ct K G H d v:=by
 obtain⟨x,r,rfl,i,g⟩:=h;cases (g);grind
def Ic:dC X.K (λxs H Q=>∃p ys,xs=[.ref p]/\(SqL X.K H p ys\/SqT X.K H p ys)/\Q (.int ys.length) H) aA:=by
 intro b a d H G Q h s r q
 match a,h,r with
 | [c],h,r=>
   obtain⟨l,k,rfl⟩:=qc h;obtain⟨v,rfl,g⟩:=gz r;obtain⟨p,xs,rfl,j,i⟩:=mv k g;exact⟨p,xs,rfl,j,q _ H G (.refl s) (by rw[Rp,i.length])⟩
def df:AR->Option AR
 | [c]=>Yc c
 | _=>none
def Oc:fO X.K (λxs H Q=>∃p ys,xs=[.ref p]/\(SqL X.K H p ys\/SqT X.K H p ys)/\∀l,H l=none->Q (.ref l) (upd H l (.lst ys))) df:=by
 intro b a l H G Q h s r q
 match a,h,r with
 | [c],h,r=>
   obtain⟨v,rfl,j⟩:=gz r;obtain⟨p,xs,rfl,i,g⟩:=mv h j;exact⟨p,xs,rfl,i,λm d=>q m xs _ G (.hid s d _) d (s.free d) Yh g⟩
def ba:AR->Option D
 | [c]=>(Yc c).map .tup
 | _=>none
theorem mw:dC X.K (λxs H Q=>∃p ys,xs=[.ref p]/\((SqL X.K H p ys/\∀l,H l=none->Q (.ref l) (upd H l (.tup ys)))\/(SqT X.K H p ys/\Q (.ref p) H))) ba:=by
 intro e b d H G Q h s r q
 match b,h,r with
 | [c],h,r=>
   obtain⟨l,n,rfl⟩:=qc h;obtain⟨v,rfl,j⟩:=gz r;rcases gW n with rfl|rfl|⟨a,rfl,rfl⟩
   .obtain⟨p,xs,rfl,g,k⟩:=j
    exact⟨p,xs,rfl,.inr ⟨.inl (.inl g.1),q _ H G (.refl s) (by rw[Rp];ext)⟩⟩
   .obtain⟨p,xs,rfl,g,k⟩:=j
    exact⟨p,xs,rfl,.inl ⟨.inl g,λm i=>q _ _ _ (.new s i _) (⟨m,xs,rfl,Yh,k.mono (Gr.new s i _).g⟩)⟩⟩
   .obtain⟨p,rfl,g⟩:=j
    exact⟨p,_,rfl,.inl ⟨g,λm i=>q _ _ _ (.new s i _) (⟨m,_,rfl,Yh,.ints a⟩)⟩⟩
end
section
variable {e:Expr}{f:AW}
def ar:AT:=λa=>some (.nx a)
noncomputable def ag(f g:AT):AT:=λb=>(f b).bind fun
 | .nx a=>g a
 | o=>some o
def yC:MB X [] ar:=PSs.imp vR λF d H a=>by
 obtain⟨g,f,c,b,G,e,s,h⟩:=a;cases e;exact h d H G s
noncomputable def frz1(i:Nat)(ρ:Ro):Ro:=match ρ[i]? with
 | some (some (.ow l))=>ρ.set i (↑(.lst l))
 | some (some (.od t b a))=>ρ.set i (↑(.dct t b a))
 | _=>ρ
def SR.frz1(s:SR K H0 G0 σ H G ρ)(i:Nat):∃G',SR K H0 G0 σ H G' (M.frz1 i ρ):=by
 unfold M.frz1
 split
 .rename_i l hl
  exact s.freeze hl
 .rename_i t ks vs hl
  exact s.freezed hl
 .exact⟨G,s⟩
def frz(a:AG)(ρ:Ro):Ro:=a.foldl (λr i=>frz1 i r) ρ
theorem SR.frz:∀(a:AG) {G:Hp}{ρ:Ro},SR K c b σ H G ρ->∃d,SR K c b σ H d (M.frz a ρ)
 | [],G,_,s=>⟨G,s⟩
 | i::a,_,ρ,s=>by
   obtain⟨d,e⟩:=s.frz1 i;exact SR.frz a e
def wF(a:AG)(f:AT):AT:=λb=>f (frz a b)
noncomputable def ao(i:Nat)(f:AW):AT:=λa=>(f a).map λd=>.nx (a.set i (↑d))
noncomputable def aF(i:Nat)(f:AX):AT:=λa=>(f a).map λl=>.nx (a.set i (some (.ow l)))
def yD(h:qJ K (ao i f) F σ H):fJ (tOf K f) (kC i) F σ H:=by
 obtain⟨o,n,m,l,G,e,s,h⟩:=h;obtain⟨d,c,rfl⟩:=qc e;exact tOf.at c s λv b j k a g=>h _ b j (g.set_sh i a)
def yE(h:qJ K (aF i gl) F σ H):fJ (gT K gl) (kC i) F σ H:=by
 obtain⟨o,m,d,k,G,e,s,h⟩:=h;obtain⟨l,c,rfl⟩:=qc e;exact⟨o,l,d,k,G,c,s,λp q n f g a j b r=>h _ n f (s.set_ow i g a j b r)⟩
theorem mx(i:Nat)(a:X.N.Nodup)(g:ME X e f)(c:X.N[i]?=some x:=by rfl)(b:ec X.env.scope x:=by trivial)(hs:swapsWith e (some (.Name x pos')) pos.line X.env=pure false:=by rfl)(d:Zf X x:=by trivial):MS X (.Assign [.Name x pos'] e pos) (ao i f):=PS.imp (wA a c b g hs d) λ_ _ _ h=>yD h
noncomputable def ah(f:AW):AT:=λa=>(f a).map .rt
noncomputable def aG(c:AV)(f g:AT):AT:=λa=>(c a).bind λk=>if k=true then f a else g a
def bp(i:Nat)(f:AW)(g:AR->D->Option AR):AT:=λb=>(cM i b).bind λl=>(f b).bind λd=>(g l d).map λa=>.nx (b.set i (some (.ow a)))
theorem my(s:SR K k b σ H G ρ)(h:cM i ρ=some l):∃a xs,σ[i]?=some (some (V.ref a))/\H a=some (.lst xs)/\RpL K G l xs/\G a=none:=by
 obtain⟨a,xs,j,g,c,d,m⟩:=s.ow i l (yg h)
 ext
def aT(l:AR)(d:D):Option AR:=if l.length<aK then some (l++[d])else none
def mz(l:ds.length<=sizeLine)(h:∀(i:Nat) a b,Same G' b->Same b a->(∀d,ds[i]?=some d->J.go i a/\∀y g,J.yld i a y g->g=a/\Rp K b d y)/\(ds.length<=i->J.stop i a)):Wk K J G' ds:=
 ⟨l,λi a b j c=>⟨λd k=>⟨((h i a b j c).1 d k).1,λy g q=>by
  obtain⟨rfl,r⟩:=((h i a b j c).1 d k).2 y g q
  exact⟨b,.refl c,r⟩⟩,(h i a b j c).2⟩⟩
def yF(K:W7)(c:TE):TI:=λe H R=>c e H λx b=>∃a d,x=.ref a/\((SqL K b a d/\(d.length<=sizeLine->R (G8 K a) b))\/(SqT K b a d/\(d.length<=sizeLine->R (G9 K a) b)))
theorem yG(t:PE X l u):PI X tg l (yF X.K u):=by
 intro w s z H R I h;refine aS (t _ s z H _ I h) λv d k=>?_;obtain⟨x,m,c,n,j⟩:=k;obtain⟨a,A,e,j⟩:=j;subst e;cases n;rcases j with⟨i,q⟩|⟨i,q⟩
 .obtain⟨f,r,p,g⟩:=c.list i
  refine wpAny_pyIter_list p.isList (⟨d.heap.objs.size,[d.heap.objs.size],_,_,m,rfl,c.kept λb o e=>qe _ e,Ni a _,⟨_,qp _ rfl,rfl,rfl⟩,λb y=>?_,q g⟩)
  have e:b=d.heap.objs.size:=by symm
  subst e;exact c.fpOk (qv _) (c.hok.fresh (qv _))
 .obtain⟨f,r,p,g⟩:=c.tuple i
  refine wpAny_pyIter_tuple (p) (⟨d.heap.objs.size,[d.heap.objs.size],_,_,m,rfl,c.kept λb o e=>qe _ e,Nj a _,⟨_,qp _ rfl,rfl,rfl⟩,λb y=>?_,q g⟩)
  have e:b=d.heap.objs.size:=by symm
  subst e;exact c.fpOk (qv _) (c.hok.fresh (qv _))
noncomputable def c5(a n:Int):AR:=(List.range (n-a).toNat).map λi=>.int (a+(i:Nat))
def Ie(a n:Int):(c5 a n).length=(n-a).toNat:=by simp[c5]
theorem mC(k:(n-a).toNat<=sizeLine):Wk K (lN a (n-a).toNat) G' (c5 a n):=
 mz (by rwa [Ie]) λi h g _ _=>⟨λd c=>by
  unfold c5 at c;rw[Qm]at c;obtain⟨j,b,rfl⟩:=qc c
  have e:i<(n-a).toNat:=by
   have:=(qo b).1;simpa using this
  rw[List.getElem?_range e]at b;cases b
  exact⟨e,λy l q=>⟨q.1,q.2⟩⟩,λf=>by rwa [Ie]at f⟩
def bx:AR->Option AR
 | [.int n]=>if decide (-aK<=n)&&decide (n<=aK)then some (c5 0 n)else none
 | _=>none
def dg:AR->Option AR
 | [.int a,.int n]=>if decide (-aK<=a)&&decide (a<=aK)&&decide (-aK<=n)&&decide (n<=aK)then some (c5 a n)else none
 | _=>none
theorem Od(h:bx l=some b):∃n:Int,l=[.int n]/\-1000000<=n/\n<=1000000/\b=c5 0 n:=by
 unfold bx at h
 split at h
 .split at h
  .have a:aK=1000000:=by decide
   ext
  .cases h
 .cases h
theorem Oe(h:dg l=some ds):∃a n:Int,l=[.int a,.int n]/\-1000000<=a/\a<=1000000/\-1000000<=n/\n<=1000000/\ds=c5 a n:=by
 unfold dg at h
 split at h
 .rename_i a n
  split at h
  .rename_i c
   cases h;simp [wg]at c
   have b:(aK:Int)=1000000:=by decide
   exact⟨a,n,rfl,by ext,by ext,by ext,by ext,rfl⟩
  .cases h
 .cases h
noncomputable def ai(i:Nat):AU:=λd a=>some (a.set i (↑d))
noncomputable def mD(i j:Nat):AU:=λd c=>match d with
 | .tup [a,b]=>some ((c.set i (↑a)).set j (↑b))
 | _=>none
noncomputable def forM(gt:AU)(fb:AT):AR->AT
 | [],ρ=>some (.nx ρ)
 | d::ds,ρ=>(gt d ρ).bind λb=>(fb b).bind fun
   | .nx a=>forM gt fb ds a
   | .ct a=>forM gt fb ds a
   | .bk a=>some (.nx a)
   | .rt d=>some (.rt d)
def aY(gl:AX)(gt:AU)(fb:AT):AT:=λa=>(gl a).bind λb=>forM gt fb b a
theorem Ig:∀(f:AR) (ρ:Ro) (e:iA),forM gt fb f ρ=some e->(∃ρ',e=.nx ρ')\/∃d,e=.rt d
 | [],ρ,e,h=>by cases h;grind
 | d::f,ρ,e,h=>by
   obtain⟨b,g,h⟩:=qa h;obtain⟨o,c,h⟩:=qa h
   cases o with
   | nx a=>exact Ig f a e h
   | ct a=>exact Ig f a e h
   | bk a=>grind
   | rt d=>grind
noncomputable def gA(fc:AV)(fb:AT):Nat->AT
 | 0,_=>none
 | n+1,ρ=>(fc ρ).bind λk=>if k=true then (fb ρ).bind fun
  | .nx ρ2=>gA fc fb n ρ2
  | .ct ρ2=>gA fc fb n ρ2
  | .bk ρ2=>some (.nx ρ2)
  | .rt d=>some (.rt d)
  else some (.nx ρ)
noncomputable def aq(a:List AN)(ρ:Ro):Ro:=a.map λo=>o.bind λj=>match ρ[j]? with
 | some (some (.sh d))=>some (.sh d)
 | _=>none
theorem SR.cap(s:SR K p n σ H G ρ)(e:List AN):SR K H G (c_ e σ) H G (aq e ρ):=by
 refine .mkSh (.refl s.seen) (by simp[c_,aq]) (λi d h=>?_) (λi l h=>by
  unfold aq at h;rw[Qm]at h;obtain⟨o,c,b⟩:=qc h;obtain⟨j,rfl,a⟩:=qa b
  split at a<;>cases a) (λi t r f h=>by
  unfold aq at h;rw[Qm]at h;obtain⟨o,c,b⟩:=qc h;obtain⟨j,rfl,a⟩:=qa b
  split at a<;>cases a)
 unfold aq at h;rw[Qm]at h;obtain⟨o,c,b⟩:=qc h;obtain⟨j,rfl,a⟩:=qa b
 split at a
 .rename_i q k
  cases a;obtain⟨v,m,g⟩:=s.sh j _ k;refine⟨v,?_,g⟩;unfold c_;rw[Qm,c];show some ((σ[j]?).join)=_;rw[m];rfl
 .cases a
noncomputable def ej(gt:AU)(fc:AV)(fe:AW)(ρ:Ro):AR->Option AR
 | []=>some []
 | d::ds=>(gt d ρ).bind λa=>(fc a).bind λk=>if k=true then (fe a).bind λv=>(ej gt fc fe ρ ds).map (v::·)else ej gt fc fe ρ ds
def Yo(gl:AX)(a:List AN)(gt:AU)(fc:AV)(fe:AW):AX:=λb=>(gl b).bind λc=>ej gt fc fe (aq a b) c
def tY:AV:=λ_=>some true
def yH(h:tTof K tY σ H Q):l8 σ H Q:=by
 obtain⟨c,k,b,a,G,e,s,h⟩:=h;cases e;exact h H G (.refl s.seen)
def yI:dS X [] (tTof X.K tY):=λa s b H Q I h=>xW _ s b H Q I (yH h)
def Ih(h:src[i]?=some none):∀ρ d a,ai i d (aq src ρ)=some a->Le (aq src ρ) a:=λρ d a e=>by
 cases e;refine⟨by simp,λj b c=>?_⟩;by_cases f:j=i
 .subst f
  unfold aq at c;rw[Qm,h]at c;cases c
 .rwa [Qp (.symm f)]
def Of{f:List AN}{i k:Nat}(h:f[i]?=some none)(m:f[k]?=some none):∀ρ d a,mD i k d (aq f ρ)=some a->Le (aq f ρ) a:=λρ d a e=>by
 unfold mD at e
 split at e
 .cases e
  refine⟨by simp,λj b l=>?_⟩
  have c:∀n,f[n]?=some none->j≠n:=λn g z=>by
   subst z;unfold aq at l;rw[Qm,g]at l;cases l
  rwa [Qp (.symm (c k m)),Qp (.symm (c i h))]
 .cases e
theorem Ii(hle:∀ρ d u,gt d (aq src ρ)=some u->Le (aq src ρ) u)(h:gT K (Yo gl src gt fc fe) σ H Q):xX (ma K gl) src (HV K gt) (tTof K fc) (tOf K fe) σ H Q:=by
 obtain⟨ρ,l,H0,G0,G,e,s,h⟩:=h;obtain⟨ds,h1,N⟩:=qa e;refine⟨ρ,ds,H0,G0,G,h1,s,λJ H1 R g1 wk p V=>?_⟩;have s1:=s.grow g1;have sc:=s1.cap src;have gp:R p=none:=s1.seen.free V
 refine⟨λi m σ' H'=>m=ds.length-i/\i<=ds.length/\∃G' a D c,SR K H1 R σ' H' G' (aq src ρ)/\H' p=some (.lst D)/\G' p=none/\RpL K G' a D/\D.length<=i/\ej gt fc fe (aq src ρ) (ds.drop i)=some c/\a++c=l,
  ⟨_,rfl,Qh _,R,[],[],l,sc.grow (Gr.hid s1.seen V _),Yh,gp,.nil,Qh _,N,rfl⟩,?_⟩
 rintro i m σ' H' ⟨rfl,hi,G',a,D,c,s',hx,gx,rx,hl,n,T⟩;have W:=wk.2 i H' G' s'.gr.g s'.seen;by_cases A:i<ds.length
 .have hdi:=qr A
  obtain⟨go,yl⟩:=W.1 _ hdi;rw[List.drop_eq_getElem_cons A,ej]at n;obtain⟨u,e1,n⟩:=qa n;obtain⟨k,e2,n⟩:=qa n;refine .inr ⟨go,λx H2 y=>?_⟩;obtain⟨G2,U,r2⟩:=yl x H2 y
  have r:∀{Ha Z Hb S:Hp},Gr Ha Z Hb S->Ha p=some (.lst D)->Z p=none->Hb p=some (.lst D)/\S p=none:=λ{Ha Z Hb S} g e1 e2=>by
   refine⟨g.h _ _ e1,?_⟩
   cases q:S p with
   | none=>rfl
   | some o=>
     have:=g.n p e2 (by rw[q];exact λz=>nomatch z);rw[e1]at this;cases this
  obtain⟨hx2,gx2⟩:=r U hx gx;refine⟨_,aq src ρ,u,H1,R,G2,e1,s'.grow U,r2,λσ3 s3=>?_⟩;refine tTof.at e2 s3 λH4 G4 g4 s4=>?_;obtain⟨I,O⟩:=r g4 hx2 gx2;have le:=hle ρ _ u e1
  cases k with
  | false=>
    exact⟨ds.length-(i+1),by symm,rfl,A,G4,a,D,c,s4.le le,I,O,(rx.mono U.g).mono g4.g,by ac_nf,n,T⟩
  | true=>
    rw[if_pos rfl]at n ⊢;obtain⟨v,e3,n⟩:=qa n;obtain⟨C,e4,rfl⟩:=qc n;refine tOf.at e3 s4 λw H5 G5 g5 r5 s5=>?_;obtain⟨Y,L⟩:=r g5 I O;have hz:=wk.1;refine⟨D,Y,by ac_nf,ds.length-(i+1),by symm,rfl,A,G5,a++[v],D++[w],C,?_,Yh,L,(((rx.mono U.g).mono g4.g).mono g5.g).append (.one r5),by simp;ac_nf,e4,by simpa using T⟩;have E:=s5.le le
    have P:∀(i:Nat) l,(aq src ρ)[i]?≠some (some (B.ow l)):=λi l h=>by
     unfold aq at h;rw[Qm]at h;obtain⟨o,h1,N⟩:=qc h;obtain⟨j,rfl,F⟩:=qa N
     split at F<;>cases F
    have M:∀(i:Nat) t ks vs,(aq src ρ)[i]?≠some (some (B.od t ks vs)):=λi t ks vs h=>by
     unfold aq at h;rw[Qm]at h;obtain⟨o,h1,N⟩:=qc h;obtain⟨j,rfl,F⟩:=qa N
     split at F<;>cases F
    refine SR.mkSh ⟨λb o q=>?_,E.gr.g,λb o q=>?_,E.gr.n⟩ E.len E.sh P M
    .rw[Yj (Yi q V)];exact E.gr.h b o q
    .rw[Yj (Yi q L)];exact E.gr.s b o q
 .have ei:i=ds.length:=by ac_nf
  subst ei;rw[List.drop_length,ej]at n;cases n;rw[wz]at T;subst T;exact .inl ⟨W.2 (qv _),h p D H' G' (g1.trans s'.gr) (g1.h.free V) gx hx rx⟩
section
variable {N:AL}{src:List AN}{gt:AU}{fc:AV}{fe:AW}
def yJ(S:gu X.N X.env.scope N src scope)(l:X.calm=true)(i:MI X tg iter gl)(j:∀a C b s H,MG (cJ X scope N a C b s H) tg gt)(m:∀a C b s H,dS (cJ X scope N a C b s H) ifs (tTof X.K fc))(k:∀a C b s H,ME (cJ X scope N a C b s H) elt fe)(g:∀ρ d c,gt d (aq src ρ)=some c->Le (aq src ρ) c)(hs:∀x,foldedSetIterable iter X.env x=pure x:=by intro _;rfl):MF X (.ListComp elt [⟨tg,iter,ifs,0⟩] scope pos) (Yo gl src gt fc fe):=
 PE.imp (xZ S l i j m k hs) λ_ _ _ h=>Ii g h
theorem yK(i:Nat){o a:Pos}(f:X.N.Nodup)(S:gu X.N X.env.scope N src scope)(E:X.calm=true)(m:MI X tg iter gl)(J:∀j C b s H,MG (cJ X scope N j C b s H) tg gt)(w:∀j C b s H,dS (cJ X scope N j C b s H) ifs (tTof X.K fc))(B:∀j C b s H,ME (cJ X scope N j C b s H) elt fe)(k:∀ρ d c,gt d (aq src ρ)=some c->Le (aq src ρ) c)(n:swapsWith (.ListComp elt [⟨tg,iter,ifs,0⟩] scope pos) (some (.Name y o)) a.line X.env=pure true:=by rfl)(u:X.N[i]?=some y:=by rfl)(v:ec X.env.scope y:=by trivial)(A:Zf X y:=by trivial)(hs:∀x,foldedSetIterable iter X.env x=pure x:=by intro _;rfl):MS X (.Assign [.Name y o] (.ListComp elt [⟨tg,iter,ifs,0⟩] scope pos) a) (aF i (Yo gl src gt fc fe)):=
 PS.imp (x3 S E m J w B f u v n A hs) λF R H h=>by
  obtain⟨ρ,D,z,q,G,e,s,h⟩:=h;obtain⟨l,t,rfl⟩:=qc e;exact Ii k ⟨ρ,l,z,q,G,t,s,λp Q M K g O I L r=>h _ M K (s.set_ow i g O I L r)⟩
end
noncomputable def Yd(n:Nat)(a:AR):Ro:=a.map (λd=>some (.sh d))++.replicate (n-a.length) none
noncomputable def au(k n:Nat)(fb:AT)(a:AR):Option D:=if a.length=k then (fb (Yd n a)).bind fun
 | .rt d=>some d
 | .nx _=>some .non
 | _=>none
 else none
theorem SR.start(s:Same G H)(r:RpL K G ds vs):SR K H G (start N vs) H G (Yd N.length ds):=by
 refine .mkSh (.refl s) (by simp[L2.start,Yd,r.length]) (λi d h=>?_) (λi l h=>by
  unfold Yd at h
  symm) (λi t f vs h=>by
  unfold Yd at h
  symm)
 unfold Yd at h;rw[List.getElem?_append]at h
 split at h
 .rw[Qm]at h
  obtain⟨k,a,g⟩:=qc h;obtain⟨v,c,j⟩:=r.get a;unfold L2.start;symm
 symm
section
variable {P:P7}{w:World}
theorem Og{f:Addr}(F:Fun K x c st f u)(S:ir N I (aCa st))(p:N.length=n)(j:I.length=m)(T:∀(b:Value) (A:Around) (a:List Env) (s:Shared) (H:Hp) (E:XK),Room k (A.deeper (envOfC c (aCa st) (~~~s) f b))->MB (dQ eh P w K mg base N c (aCa st) f b A a s H E).nox (aEa st) fb):
 cA P w K mg base eh (k+1) f u I (de K m (au m n fb)):=by
 refine F.ok S (λM H Q E h=>by rw[h.1,j]) λb A a s H M Q E t h=>?_;obtain⟨B,L,d,G,l,r,e,q⟩:=h;refine⟨_,T b A a s H E t,?_⟩;unfold au at e
 split at e
 .obtain⟨o,z,i⟩:=qa e
  refine⟨Yd n L,o,H,G,G,z,by rw[<-p];exact .start l r,?_⟩
  cases o with
  | rt U=>cases i;exact λv C D g y=>q v C D g y
  | nx J=>cases i;exact λO C D R=>q _ C D R.gr (by rw[Rp])
  | bk J=>cases i
  | ct J=>cases i
 .cases e
end
end
def aJ(P:P7)(w:World)(K:W7)(d:AF)(b:Heap)(k n:Nat)(x:Str)(f:AL)(e:AR->Option D):Prop:=
 ∃a c,cA P w K d b eh k a c f (de K n e)/\Binds K c f []/\W.keepIn K (.ref a)=true/\d x=some (.ref a)
def yL{st:Stmt}(F:Fun K x q st a d)(b:Binds K d i [])(g:e x=some (.ref a))(h:cA P w K e c eh k a d i (de K n f)):aJ P w K e c k n x i f:=⟨a,d,h,b,F.kp,g⟩
section
variable {a b e:Expr}{es:AM}{fb:AW}
noncomputable def bU:D->Option D
 | .int i=>some (.int (-i))
 | _=>none
def bV:D->D->Option AR
 | .lst a,.lst b=>if a.length+b.length<=aK then some (a++b)else none
 | _,_=>none
def yM:R2:=λx y H Q=>∃l b a c,x=.ref l/\y=.ref b/\Rd H l (.lst a)/\Rd H b (.lst c)/\a.length+c.length<=sizeLine/\∀p,H p=none->Q (.ref p) (upd H p (.lst (a++c)))
theorem yN:bR X (binaryOp .Add) yM:=by
 intro C s F H x y v u Q I k f h;obtain⟨l,b,E,t,rfl,rfl,j,i,o,q⟩:=h;cases k;cases f;obtain⟨z,a,n,r,e⟩:=j.ok I.hok;obtain⟨w,c,A,d,D⟩:=i.ok I.hok;have p:=r.length;have m:=d.length;refine PySem.P.add_list e D ?_ (by ext)
 have g:a.toArray++c.toArray=(a++c).toArray:=by simp
 rw[g];exact⟨.ref _,_,I.lnew (r.append d) (by grind),rfl,q _ I.fresh⟩
noncomputable def fS:D->String
 | .non=>"NoneType"
 | .bl _=>"bool"
 | .int _=>"int"
 | .str _=>"str"
 | .tup _=>"tuple"
 | .lst _=>"list"
 | .scr _=>"list"
 | .dct _ _ _=>"dict"
 | .obj _ _ _=>"dict"
 | .adr _=>"dict"
noncomputable def kR:D->Bool
 | .scr _=>false
 | .dct t _ _=>!t
 | .obj _ _ _=>false
 | .adr _=>false
 | _=>true
def er(T:String)(d:D):Option Bool:=if kR d=true then some (fS d==T||(T=="int"&&fS d=="bool"))else none
def yO(hn:kR d=true)(r:Ct K G H d v):cK K H v (.type (fS d)):=by
 cases d<;>rw[Ct]at r
 .subst r;exact .non
 .subst r;exact .bl _
 .subst r;exact .int _
 .obtain⟨rfl,_⟩:=r;exact .str _
 .obtain⟨a,xs,rfl,g,_⟩:=r;exact .tup g.1
 .obtain⟨a,xs,rfl,g,_⟩:=r
  rcases g with g|⟨o,g⟩
  .exact .lst g
  .exact .frz g
 .cases hn
 .rename_i t _ _
  cases t with
  | true=>cases hn
  | false=>
    obtain⟨a,_,_,rfl,g,_⟩:=r;rcases g with⟨_,_,g,_⟩|⟨g,_⟩|⟨g,_⟩
    .exact .dK g
    .cases g
    .cases g
 .cases hn
 .cases hn
def yP(T:String):Prop:=∀(K:W7) (d:D),W.kitOne K (.type (fS d)) (.type T)=some (fS d==T||(T=="int"&&fS d=="bool"))
def Oh:yP "bool":=λK d=>by cases d<;>rfl
def Oi(i:yP T):dz X (.builtin "isinstance") (λxs H Q=>∃x d G,xs=[x,.ty T]/\kR d=true/\Ct X.K G H d x/\Q (.bl (fS d==T||(T=="int"&&fS d=="bool"))) H):=by
 intro a s l H xs e Q I r h;obtain⟨x,d,G,rfl,j,f,q⟩:=h;obtain⟨u,k,rfl,c,g⟩:=kE r;cases (g)
 exact Ny I c (yO j f) (i X.K d) λb=>⟨.bl _,H,I.tok b,rfl,q⟩
end
noncomputable def eu(a:Int):AH->AH
 | []=>[a]
 | b::l=>if a<=b then a::b::l else b::eu a l
noncomputable def du:AH->AH
 | []=>[]
 | a::l=>eu a (du l)
theorem yQ(a:Int):∀l:AH,(eu a l).Perm (a::l)
 | []=>.refl _
 | b::l=>by
   rw[eu]
   split
   .exact .refl _
   .exact((yQ a l).cons b).trans (.swap a b l)
theorem fT:∀l:AH,(du l).Perm l
 | []=>.refl _
 | a::l=>(yQ a _).trans ((fT l).cons a)
theorem Ij(a:Int):∀l:AH,l.Pairwise (·<=·)->(eu a l).Pairwise (·<=·)
 | [],_=>by simp[eu]
 | b::l,h=>by
   rw[eu]
   split
   .rename_i d
    refine List.pairwise_cons.mpr ⟨λx c=>?_,h⟩;rcases qu c with rfl|c
    .exact d
    .exact Int.le_trans d ((List.pairwise_cons.mp h).1 x c)
   .refine List.pairwise_cons.mpr ⟨λx c=>?_,Ij a l (List.pairwise_cons.mp h).2⟩
    rcases qu ((yQ a l).mem_iff.mp c)with rfl|c
    .lia
    ext
theorem iB:∀l:AH,(du l).Pairwise (·<=·)
 | []=>.nil
 | a::l=>Ij a _ (iB l)
section
variable {w:World}{A:Around}{E:AC}{s:Shared}
theorem Oj(m:s.heap.IsList l vs.toArray)(n:vs.length<2)(h:Q (.ref (~~~s+1)) {s with heap:=sortedAll s.heap vs vs.toArray}):wpAny (mZ prog w) A (call (.builtin "sorted") [.ref l]) Q E s:=by
 refine Calls.call_function_entry kind_sorted plain_sorted entry_sorted (args_sorted1 _) ?_;refine wa (wb ?_);refine wa (collect_list m ?_ (by rw[je];ac_nf));refine wa (wpAny_newList ?_ (by rw[je];ac_nf))
 have e:((s.heap.push (seqObj "list" #[] 0)).update (~~~s) (Obj.mapSeq (·++vs.toArray))).objs.size= ~~~s+1:=by
  ext
 have g:(((s.heap.push (seqObj "list" #[] 0)).update (~~~s) (Obj.mapSeq (·++vs.toArray))).push (seqObj "list" vs.toArray 0)).get? (~~~s+1)=some (seqObj "list" vs.toArray 0):=by
  rw[<-e];exact qp _ rfl
 rw[e];refine wa (wc (wd slot_list_sort ⟨_,g,rfl⟩ entry_list_sort ?body (args_list_sort _)))
 case body=>
  rw[list_sort_plain];generalize j:({s with heap:=((s.heap.push (seqObj "list" #[] 0)).update (~~~s) (Obj.mapSeq (·++vs.toArray))).push (seqObj "list" vs.toArray 0)})=S at *
  have a:S.heap.get? (~~~s+1)=some (seqObj "list" vs.toArray 0):=by symm
  have o:=ql a;refine wa (listItems_at a rfl ?_);refine wa (listUpdate_at a rfl ?_ (by rw[qk,je];ac_nf) (Qh _))
  obtain⟨p,c⟩:∃p,(S.heap.update (~~~s+1) (Obj.mapSeq λ_=>#[])).get? (~~~s+1)=some (seqObj "list" #[] p):=⟨_,get?_update_seq a (λ_=>#[])⟩
  refine wa (seqEpoch_at c rfl ?_);refine wa (wpAny_newTuple ?_ (by rw[je];ac_nf));refine wa (wpAny_newList ?_ (Qh _));refine wc ?_
  have b:(((S.heap.update (~~~s+1) (Obj.mapSeq λ_=>#[])).push (seqObj "tuple" vs.toArray 0)).push (seqObj "list" #[] 0)).get? (~~~s+1)=some (seqObj "list" #[] p):=by
   rw[Heap.get?_push_ne _ _ _ (by rw[size_push',Heap.size_update];(subst_vars;simp)),Heap.get?_push_ne _ _ _ (by rw[Heap.size_update];(subst_vars;simp))];exact c
  have d:vs.toArray.size<2:=by omega
  rw[if_pos d,if_pos d];refine wa (wb ?_);refine wa (wb ?_);dsimp only;refine wa (seqEpoch_at b rfl ?_);refine wa (listUpdate_at b rfl ?_ (hsz2:=by symm));simp only[bne_self_eq_false,Qo,if_false]
  have f:(arrOf (SortSt.mk' general' (vs.toArray.zip vs.toArray) #[] 7 none)).map (·.2)=vs.toArray:=by
   symm
  refine wb ⟨_,rfl,wb ⟨_,rfl,?_⟩⟩;have k:=h;rw[<-j,f];exact k
noncomputable def bS(j:Int)(q:Bool)(i:Int)(p:Bool):Bool:=if j=i then (!q&&p)else decide (j<i)
theorem Ik(z:IsTup s.heap b #[.int i t,.bool p])(k:IsTup s.heap c #[.int j u,.bool q])(h:R (bS j q i p) s):
 wpAny (mZ prog w) A (keyLt' (tuples' true) (.ref c) (.ref b)) R E s:=by
 obtain⟨r,f,_,o,m⟩:=z;obtain⟨v,g,_,n,l⟩:=k;refine W.kat_lt g l f m ?_;show W.KatLex _ w A _ false R _ 0 s;unfold bS at h;refine W.kat_cons (SeqAt.EqAt.int_int j u i t _ w _ _ (W.kat_go (λe=>W.kat_yes (W.kat_cons (SeqAt.EqAt.bool_bool q p _ w _ _ (W.kat_go (λy=>W.kat_yes (W.kat_nil ?_)) λy=>W.kat_no (W.kat_one _ _ (lt_bool ?_)))))) λe=>W.kat_no ?_))
 .simp_all
 .have d:=by simpa using e
  rw[if_pos d]at h
  cases p<;>cases q<;>first|exact h|simp at y
 .have d:=by simpa using e
  rw[if_neg d]at h;exact oneLt_int h
def Il(h:cmp 1 0 (λk s'=>if k=true then G #[1,0] s' else G #[0,1] s') S):(W.kas_sort 2).kasWp cmp G S:=by
 show cmp 1 0 (λk s'=>W.KasT.kasWp cmp _ G s') S
 have e:∀(k:Bool) (s':Shared),(if k=true then G #[1,0] s' else G #[0,1] s')=W.KasT.kasWp cmp (W.KasT.bind (W.KasT.bind (if k=true then W.KasT.ret 1 else W.kas_asc (List.toArray (List.range 2)) 0 2)
  λn=>if (n==2)=true then W.KasT.ret (n,List.toArray (List.range 2))else if n > 1 then .ask ((List.toArray (List.range 2)).getD 0 0) ((List.toArray (List.range 2)).getD (n-1) 0) λc=>if c=true then .ret (n,List.toArray (List.range 2))else W.kas_descPart n 2 (W.kas_rev (List.toArray (List.range 2)) 0 n)
   else W.kas_descPart n 2 (List.toArray (List.range 2))) λr=>if r.1<2 then W.kas_bin (2-max r.1 1) r.2 (max r.1 1)else .ret r.2) G s':=λk s'=>by cases k<;>rfl
 have e2:(fun(k:Bool) (s':Shared)=>if k=true then G #[1,0] s' else G #[0,1] s')=_:=funext λk=>funext λs'=>e k s';rw[e2]at h;exact h
theorem Ol(Z:s.heap.IsList l #[.ref b,.ref c])(hb:IsTup s.heap b #[.int i t,.bool p])(H:IsTup s.heap c #[.int j u,.bool q])(h:Q (.ref (~~~s+1)) {s with heap:=sortedAll s.heap [.ref b,.ref c] (if bS j q i p=true then #[.ref c,.ref b]else #[.ref b,.ref c])}):wpAny (mZ prog w) A (call (.builtin "sorted") [.ref l]) Q E s:=by
 generalize m:[Value.ref b,Value.ref c]=vs at *;have J:s.heap.IsList l vs.toArray:=Z
 have D:vs.length=2:=by(subst_vars;simp)
 refine Calls.call_function_entry kind_sorted plain_sorted entry_sorted (args_sorted1 _) ?_;unfold Builtin.«sorted»;refine wa (m:=checkCount "sorted" 1 1 _) (wb ?_);refine wa (collect_list J ?_ (by rw[je];lia));refine wa (wpAny_newList ?_ (by rw[je];lia))
 have y:((s.heap.push (seqObj "list" #[] 0)).update (~~~s) (Obj.mapSeq (·++vs.toArray))).objs.size= ~~~s+1:=by
  ext
 have L:(((s.heap.push (seqObj "list" #[] 0)).update (~~~s) (Obj.mapSeq (·++vs.toArray))).push (seqObj "list" vs.toArray 0)).get? (~~~s+1)=some (seqObj "list" vs.toArray 0):=by
  rw[<-y];exact qp _ rfl
 have M:∀b o,s.heap.get? b=some o->(((s.heap.push (seqObj "list" #[] 0)).update (~~~s) (Obj.mapSeq (·++vs.toArray))).push (seqObj "list" vs.toArray 0)).get? b=some o:=λb o q=>by
  have a:b< ~~~s:=ql q;rw[Heap.get?_push_ne _ _ _ (by ext<;>lia),Heap.get?_update_ne _ _ _ _ (qm a),Heap.get?_push_ne _ _ _ (qm a)];exact q
 rw[y];refine wa (wc (wd slot_list_sort ⟨_,L,rfl⟩ entry_list_sort ?body (args_list_sort _)))
 case body=>
  rw[list_sort_plain];generalize hS:({s with heap:=((s.heap.push (seqObj "list" #[] 0)).update (~~~s) (Obj.mapSeq (·++vs.toArray))).push (seqObj "list" vs.toArray 0)})=S at *
  have d:S.heap.get? (~~~s+1)=some (seqObj "list" vs.toArray 0):=by grind
  have ha:(~~~s)+1<S.heap.objs.size:=ql d;refine wa (listItems_at d rfl ?_);refine wa (listUpdate_at d rfl ?_ (by rw[qk,je];lia) (Qh _))
  obtain⟨e1,C⟩:∃e1,(S.heap.update (~~~s+1) (Obj.mapSeq λ_=>#[])).get? (~~~s+1)=some (seqObj "list" #[] e1):=⟨_,get?_update_seq d (λ_=>#[])⟩
  refine wa (seqEpoch_at C rfl ?_);refine wa (wpAny_newTuple ?_ (by show vs.length<=_;rw[je];lia));refine wa (wpAny_newList ?_ (Qh _));refine wc ?_
  have V:(((S.heap.update (~~~s+1) (Obj.mapSeq λ_=>#[])).push (seqObj "tuple" vs.toArray 0)).push (seqObj "list" #[] 0)).get? (~~~s+1)=some (seqObj "list" #[] e1):=by
   rw[Heap.get?_push_ne _ _ _ (by rw[size_push',Heap.size_update];grind),Heap.get?_push_ne _ _ _ (by rw[Heap.size_update];grind)];exact C
  have I:∀b o,s.heap.get? b=some o->(((S.heap.update (~~~s+1) (Obj.mapSeq λ_=>#[])).push (seqObj "tuple" vs.toArray 0)).push (seqObj "list" #[] 0)).get? b=some o:=λb o q=>by
   have a:b< ~~~s:=ql q;refine qe _ (qe _ ?_);rw[Heap.get?_update_ne _ _ _ _ (qm (qx a))];grind
  generalize hS6:({S with heap:=((S.heap.update (~~~s+1) (Obj.mapSeq λ_=>#[])).push (seqObj "tuple" vs.toArray 0)).push (seqObj "list" #[] 0)})=g
  have B:g.heap.get? (~~~s+1)=some (seqObj "list" #[] e1):=by grind
  have N:IsTup g.heap b #[.int i t,.bool p]:=by
   obtain⟨o,O,z⟩:=hb;exact⟨o,by grind,z⟩
  have R:IsTup g.heap c #[.int j u,.bool q]:=by
   obtain⟨o,O,z⟩:=H;exact⟨o,by grind,z⟩
  dsimp only
  have F:¬vs.toArray.size<2:=by ext
  rw[if_neg F,if_neg F]
  have Y:W.KatTups g.heap vs [.int i t,.int j u]:=by
   obtain⟨ob,b1,b2,n1,b3⟩:=N;obtain⟨oc,X,c2,n2,c3⟩:=R;rw[<-m];exact .cons b1 b2 b3 rfl (.cons X c2 c3 rfl .nil)
  refine wa (W.kat_kind (T:=.type "int") Y (qx (Qa 0)) (λv r=>?_) (by decide) ?_)
  .rcases qu r with rfl|r
   .exact .of_pure rfl
   .rcases qu r with rfl|r
    .exact .of_pure rfl
    .cases r
  have n:wpAny (mZ prog w) A.in1.in1 (keyLt' (tuples' true) (vs.getD 1 Value.none) (vs.getD 0 Value.none)) (λk s'=>k=bS j q i p/\s'=g) (λ_ _=>False) g:=by
   rw[<-m];exact Ik N R ⟨rfl,rfl⟩
  refine wa (wv (W.kat_run (ks:=vs) (vs:=vs) (κ:=tuples' true) (G:=λP s'=>s'=g/\P=if bS j q i p=true then #[1,0]else #[0,1])
   (Q:=λf s'=>s'=g/\failedOf f=none/\(arrOf f).map (·.2)=if bS j q i p=true then #[.ref c,.ref b]else #[.ref b,.ref c]) rfl (by lia) (by ext) (λP f s' O z a3 a4=>?_) ?_) ?_ λ_ _ e=>e)
  .obtain⟨rfl,rfl⟩:=a4
   refine⟨rfl,a3,?_⟩;rw[W.kat_snds rfl z,<-m];grind
  .rw[D]
   refine Il ?_;refine wv n (λk s' hk=>?_) λ_ _ x=>x
   ext
  rintro⟨⟨⟩,f⟩ s' ⟨rfl,U,G⟩;dsimp only;refine wa (seqEpoch_at B rfl ?_);refine wa (listUpdate_at B rfl ?_ (Qh _) (by rw[G,je];split<;>ext));rw[U];simp only[bne_self_eq_false,Qo,if_false];refine wb ⟨_,rfl,wb ⟨_,rfl,?_⟩⟩;have T:=h;unfold sortedAll sortedHeap at T
  ext<;>lia
end
noncomputable def cw:AR->Option AH
 | []=>some []
 | .int i::l=>(cw l).map (i::·)
 | _=>none
noncomputable def kT:D->Option (Int×Bool)
 | .tup [.int j,.bl q]=>some (j,q)
 | _=>none
def mE(e d:D):Option Bool:=(kT e).bind λx=>(kT d).map λy=>bS x.1 x.2 y.1 y.2
def kU{a:Type}{x:a}{P:Prop}(h:none=some x):P:=by cases h
def yR(h:kT d=some x):d=.tup [.int x.1,.bl x.2]:=by
 cases d with
 | tup l=>cases l with
   | nil=>exact kU h
   | cons a l=>cases a with
     | int j=>cases l with
       | nil=>exact kU h
       | cons b l=>cases b with
         | bl q=>cases l with
           | nil=>exact wx h ▸ rfl
           | cons _ _=>exact kU h
         | _=>exact kU h
     | _=>exact kU h
 | _=>exact kU h
def qQ(l:AR):Option AR:=match cw l with
 | some a=>if a.length<64 then some ((du a).map .int)else none
 | none=>match l with
   | [d]=>some [d]
   | [d,e]=>(mE e d).map λk=>if k=true then [e,d]else [d,e]
   | _=>none
def eU:AR->Option AR
 | [.lst l]=>qQ l
 | _=>none
theorem jo:∀{l:AR}{ns:AH},cw l=some ns->l=ns.map D.int
 | [],ns,h=>by cases h;rfl
 | .int i::l,ns,h=>by
   obtain⟨m,a,rfl⟩:=qc h;rw[jo a];rfl
 | .non::l,ns,h=>by simp[cw]at h
 | .bl _::l,ns,h=>by simp[cw]at h
 | .str _::l,ns,h=>by simp[cw]at h
 | .tup _::l,ns,h=>by simp[cw]at h
 | .lst _::l,ns,h=>by simp[cw]at h
 | .scr _::l,ns,h=>by simp[cw]at h
 | .dct _ _ _::l,ns,h=>by simp[cw]at h
 | .obj _ _ _::l,ns,h=>by simp[cw]at h
 | .adr _::l,ns,h=>by simp[cw]at h
theorem jq:∀{ns:AH}{xs:AQ},RpL K G (ns.map D.int) xs->xs=ns.map V.int
 | [],xs,h=>h
 | n::ns,xs,h=>by
   obtain⟨x,r,rfl,a,b⟩:=h;rw[a,jq b];rfl
def yS(H:Hp)(x:V)(i:Int)(p:Bool):Prop:=∃a,x=.ref a/\H a=some (.tup [.int i,.bl p])
def mF:AQ->Hp->VK->Prop:=λd H Q=>∃a b,d=[.ref a]/\Rd H a (.lst b)/\
 ((∃c:AH,b=c.map .int/\c.length<64/\∀p,H p=none->Q (.ref p) (upd H p (.lst ((du c).map .int))))\/
  (b.length<2/\∀p,H p=none->Q (.ref p) (upd H p (.lst b)))\/
  (∃x y i p j q,b=[x,y]/\yS H x i p/\yS H y j q/\∀r,H r=none->Q (.ref r) (upd H r (.lst (if bS j q i p=true then [y,x]else [x,y])))))
theorem mG:dz X (.builtin "sorted") mF:=by
 intro pins s σ H xs us Q I r h;obtain⟨a,ys,rfl,M,h⟩:=h;obtain⟨u,rfl,L⟩:=eQ r;cases L;obtain⟨its,l,pl,hz⟩:=I.list (.inl M)
 have f:∀(V:_) _,_->_->_->EP X pins σ Q _ {s with heap:=sortedAll s.heap its V}:=λV d B n F=>by
  obtain⟨e,he⟩:=sortedAll_at s.heap its V;exact⟨.ref (~~~s+1),_,I.laid (λb o q=>sortedAll_old q) (Nat.le_succ _) (show ObjOk X.prog X.w _ _ _ (.lst d) from⟨n,V.toList,e,B,by ext⟩),rfl,F⟩
 have w:=I.hok.fresh (Nat.le_succ _);have Y:=l.length;rcases h with⟨ns,rfl,U,q⟩|⟨v,q⟩|⟨x,y,i,p,j,k,rfl,C,P,q⟩
 .have G:=pY l
  refine sorted_ints pl.isList G (by ext) λV T E v J=>?_;have e:=W.ksm_same (v.trans (fT ns).symm) J (iB ns);subst e;have hn:=(fT ns).length_eq;exact f V _ (p_ E) (by ext) (q _ w)
 .refine Oj pl.isList (by ext) ?_
  grind
 .obtain⟨b,rfl,hb⟩:=C
  obtain⟨c,rfl,O⟩:=P;obtain⟨u1,u2,rfl,A,D⟩:=kE l;cases A;cases D;obtain⟨_,ib,z,R⟩:=I.hok b _ hb;obtain⟨_,Z,S,N⟩:=I.hok c _ O;obtain⟨w1,w2,rfl,⟨t,rfl⟩,g⟩:=kE z;cases g;obtain⟨w3,K,rfl,⟨t',rfl⟩,m⟩:=kE S;cases m;refine Ol (by simpa using pl.isList) (by simpa using R) (by simpa using N) ?_;refine f _ _ ?_ (by split<;>ext) (q _ w);cases bS j k i p
  .grind
  .exact .cons rfl (.cons rfl .nil)
def Im(s:Same G H)(e:d=.tup [.int i,.bl p])(r:Rp K G d v):yS H v i p:=by
 subst e;obtain⟨a,k,rfl,g,c⟩:=r;obtain⟨x,j,rfl,b,h⟩:=c;obtain⟨y,rfl,f⟩:=kQ h;subst b f;exact⟨a,rfl,s _ _ g⟩
def Om(h:mE e d=some k):∃j q i p,e=.tup [.int j,.bl q]/\d=.tup [.int i,.bl p]/\k=bS j q i p:=by
 obtain⟨x,a,f⟩:=qa h;obtain⟨y,c,b⟩:=qc f;exact⟨x.1,x.2,y.1,y.2,yR a,yR c,b.symm⟩
theorem mH:fO K mF eU:=by
 intro C B l H G Q h s r q;unfold eU at h
 split at h
 .obtain⟨v,rfl,t⟩:=gz r
  obtain⟨a,A,rfl,g,c⟩:=t;refine⟨a,A,rfl,g,?_⟩;unfold qQ at h
  split at h
  .rename_i z e
   split at h
   .rename_i m
    cases h;cases jo e;exact .inl ⟨z,jq c,m,λp b=>q p _ _ G (.hid s b _) b (s.free b) Yh (.ints _)⟩
   .cases h
  .split at h
   .cases h
    exact .inr (.inl ⟨by rw[c.length];ext,λp b=>q p _ _ G (.hid s b _) b (s.free b) Yh c⟩)
   .obtain⟨k,u,rfl⟩:=qc h
    obtain⟨j,y,i,x,rfl,rfl,rfl⟩:=Om u;obtain⟨o,w,rfl,d,c⟩:=c;obtain⟨n,rfl,f⟩:=kQ c;refine .inr (.inr ⟨o,n,i,x,j,y,rfl,Im s rfl d,Im s rfl f,λp b=>q p _ _ G (.hid s b _) b (s.free b) Yh ?_⟩);cases bS j y i x
    .exact .cons d (.one f)
    .exact .cons f (.one d)
   .cases h
 .cases h
def On{P:P7}{w:World}{j:AF}{c:Heap}{k n:Nat}{x q:Str}{ps:AL}{st:Stmt}{a:Addr}{g:FuncData}(F:Fun K x q st a g)(b:Binds K g ps [])(m:j x=some (.ref a))(o:ps.length=n):
 aJ P w K j c k n x ps (λ_=>none):=by
 have i:∀vs H Q E,¬de K n (λ_=>none) vs H Q E:=λvs H Q E h=>by
  obtain⟨_,ds,d,G,_,_,e,_⟩:=h;cases e
 exact⟨a,g,⟨λvs H Q E h=>absurd h (i vs H Q E),λA f s H l us vs Q E _ _ _ _ h=>absurd h (i vs H Q E)⟩,b,F.kp,m⟩
section
variable {e:Expr}{f fb:AW}
noncomputable def bz:AR->Option AJ
 | []=>some []
 | .bl b::l=>(bz l).map (b::·)
 | _=>none
theorem Io:∀{l:AR}{a:AJ},bz l=some a->l=a.map D.bl
 | [],a,h=>by cases h;rfl
 | .bl i::l,a,h=>by
   obtain⟨m,b,rfl⟩:=qc h;rw[Io b];rfl
 | .non::l,c,h=>by simp[bz]at h
 | .int _::l,c,h=>by simp[bz]at h
 | .str _::l,c,h=>by simp[bz]at h
 | .tup _::l,c,h=>by simp[bz]at h
 | .lst _::l,c,h=>by simp[bz]at h
 | .scr _::l,c,h=>by simp[bz]at h
 | .dct _ _ _::l,c,h=>by simp[bz]at h
 | .obj _ _ _::l,c,h=>by simp[bz]at h
 | .adr _::l,c,h=>by simp[bz]at h
theorem Ip:∀{a:AJ}{xs:AQ},RpL K G (a.map D.bl) xs->xs=a.map V.bl
 | [],xs,h=>h
 | n::d,xs,h=>by
   obtain⟨x,r,rfl,b,c⟩:=h;rw[b,Ip c];rfl
theorem yT:∀{a:AJ}{us:AE},Vals (a.map V.bl) us->us=a.map Value.bool
 | [],us,h=>by cases h;rfl
 | b::a,us,h=>by
   cases h with
   | cons r t=>
     cases (r);rw[yT t];rfl
theorem Oo(a:AJ):((List.range a.length).any λi=>a.getD i false)=a.any id:=by
 induction a with
 | nil=>rfl
 | cons b a c=>
   rw[qt,List.range_succ_eq_map,List.any_cons,List.any_map]
   have:(List.range a.length).any ((λi=>(b::a).getD i false) ∘ .succ)=(List.range a.length).any λi=>a.getD i false:=by
    congr 1
   rw[this,c];rfl
theorem Oq(a:AJ):((List.range a.length).all λi=>a.getD i false)=a.all id:=by
 induction a with
 | nil=>rfl
 | cons b a c=>
   rw[qt,List.range_succ_eq_map,List.all_cons,List.all_map]
   have:(List.range a.length).all ((λi=>(b::a).getD i false) ∘ .succ)=(List.range a.length).all λi=>a.getD i false:=by
    congr 1
   rw[this,c];rfl
def fU(g:AJ->V):AQ->Hp->VK->Prop:=λc H Q=>∃(a:Addr) (b:List _),c=[.ref a]/\Rd H a (.lst (b.map .bl))/\Q (g b) H
theorem Iq(A:Around)(prog:P7)(w:World)(c:AJ):TruthOf prog w A (λi v=>((c.map Value.bool).toArray)[i]?=some v) (λi=>c.getD i false):=λi v s Q E d g=>by
 have a:(c.map .bool)[i]?=some v:=by grind
 rw[Qm]at a;obtain⟨b,h,rfl⟩:=qc a;refine wpAny_truthy_bool ?_
 ext
def Ir{pins:AD}{σ:L2.St}{H:Hp}{its:AE}(f:A.handled=none)(c:s.heap.IsList a its.toArray)(h:∀b,b={s with heap:=s.heap.push {cls:=.type "list_iterator",data:=.fields #[.ref a,.int 0 0]} }->Walks X.prog X.w A (~~~s) [~~~s,a] [~~~s] its.toArray.size (λi v=>its.toArray[i]?=some v) (λi h=>h.IsListIter (~~~s) a i/\h.IsList a its.toArray)->
  (b.heap.IsListIter (~~~s) a 0/\b.heap.IsList a its.toArray)->Q (.ref (~~~s)) b):wpAny (mZ X.prog X.w) A (pyIter (.ref a)) Q E s:=by
 have e:a≠(~~~s):=by
  obtain⟨o,d,_⟩:=c;exact qm (ql d)
 refine wpAny_pyIter_list c (h _ rfl (.list f _ a e _) ⟨⟨_,qp _ rfl,rfl,rfl⟩,?_⟩);obtain⟨o,d,r⟩:=c;exact⟨o,qe _ d,r⟩
theorem Iu{σ:L2.St}(I:Inv X pins σ H s)(k:∀b u,b∉[~~~s]->(s.heap.push o).get? b=some u->a.get? b=some u):Inv X pins σ H {s with heap:=a,toks:=tk}:=
 I.kept λb u q=>k b u (by
  intro z
  exact absurd (ql q) (by ext)) (qe _ q)
def Os(l:X.calm=true):dz X (.builtin "any") (fU λb=>.bl (b.any id)):=by
 intro pins s σ H v t Q I r h;obtain⟨a,b,rfl,g,q⟩:=h;obtain⟨u,rfl,d⟩:=eQ r;cases d;obtain⟨o,j,n,m⟩:=I.list (.inl g);cases yT j;refine call_any_walk (Ir (pins:=pins) (σ:=σ) (H:=H) (I.ok.hd l) n.isList λc e W st=>?_);subst e;refine⟨_,_,_,_,_,_,λi=>b.getD i _,rfl,W,st,Iq _ _ _ b,λp f k=>⟨.bl _,H,show Inv X _ σ H {s with heap:=p,toks:=f} from Iu I k,?_,q⟩⟩;show _=_;rw[qk,qf,Oo]
def Ot(l:X.calm=true):dz X (.builtin "all") (fU λb=>.bl (b.all id)):=by
 intro pins s σ H v t Q I r h;obtain⟨a,b,rfl,g,q⟩:=h;obtain⟨u,rfl,d⟩:=eQ r;cases d;obtain⟨o,j,n,m⟩:=I.list (.inl g);cases yT j;refine call_all_walk (Ir (pins:=pins) (σ:=σ) (H:=H) (I.ok.hd l) n.isList λc e W st=>?_);subst e;refine⟨_,_,_,_,_,_,λi=>b.getD i _,rfl,W,st,Iq _ _ _ b,λp f k=>⟨.bl _,H,show Inv X _ σ H {s with heap:=p,toks:=f} from Iu I k,?_,q⟩⟩;show _=_;rw[qk,qf,Oq]
def dE:AR->Option D
 | [.lst l]=>(bz l).map λa=>.bl (a.any id)
 | _=>none
def bW:AR->Option D
 | [.lst l]=>(bz l).map λa=>.bl (a.all id)
 | _=>none
def Iv{gd:AJ->D}(c:∀e d,m e=some d->∃l b,e=[.lst l]/\bz l=some b/\d=gd b)(n:∀G b,Rp K G (gd b) (g b)):dC K (fU g) m:=by
 intro o e d H G Q h s r q;obtain⟨l,b,rfl,j,rfl⟩:=c e d h;obtain⟨v,rfl,k⟩:=gz r;obtain⟨a,p,rfl,f,i⟩:=k;cases Io j;cases Ip i;exact⟨a,b,rfl,f,q _ H G (.refl s) (n G b)⟩
def yU:dC K (fU λa=>.bl (a.any id)) dE:=Iv (λc d h=>by
 unfold dE at h
 split at h
 .obtain⟨a,b,rfl⟩:=qc h
  exact⟨_,a,rfl,b,rfl⟩
 .cases h) λG a=>by rw[Rp]
theorem yV:dC K (fU λa=>.bl (a.all id)) bW:=Iv (gd:=λa=>.bl (a.all id)) (λc d h=>by
 unfold bW at h
 split at h
 .obtain⟨a,b,rfl⟩:=qc h
  grind
 .cases h) λG a=>by rw[Rp]
def qR(i:Nat)(fi f:AW)(g:AR->D->D->Option AR):AT:=λρ=>(f ρ).bind λd=>(cM i ρ).bind λl=>(fi ρ).bind λk=>(g l k d).map λl'=>.nx (ρ.set i (some (.ow l')))
end
section
variable {w:World}{A:Around}{E:AC}{s:Shared}
def Ou(b:s.heap.IsTupleIter d t i)(l:s.heap.IsTuple t a)(j:a[i]?=some x)(k:∀p,p.IsTupleIter d t (i+1)->Heap.SameBut d s.heap p->Q x {s with heap:=p}):
 wpAny (mZ prog w) A (Builtin.SmallTypes.nextOf (.ref d)) Q E s:=by
 obtain⟨o,e,h,c⟩:=id b;obtain⟨n,f,_,m,g⟩:=l
 refine wa (wpAny_callSpecial?_slot b.typeIs F.slot_tuple_iterator_next
  (wd F.slot_tuple_iterator_next b.typeIs F.entry_tuple_iterator_next ?_ (F.args_tuple_iterator_next_1 _)))
 show wpAny _ _ (field _ 0>>=_) _ _ s;refine wa (wpAny_field e c (x:=.ref t) rfl (wa (wpAny_field e c (x:=.int i 0) rfl (wa (wpAny_seqItems f g ?_)))));simp [j]
 exact wa (wpAny_setField e c nofun (wb ⟨x,rfl,wb (k _ (⟨_,wt _ e (Obj.isFreed_of_fields (jc c _)),(Obj.cls_mapFields ..).trans h,by
  rw[jc c];simp[rawInt]⟩) (.update ..))⟩))
theorem Ov(j:A.handled=none)(a:s.heap.IsTupleIter d l i)(m:s.heap.IsTuple l b)(k:b[i]?=none)(n:∀t e,Heap.ExtBut d s.heap t->(∃o,t.get? e=some o/\o.cls=.type "StopIteration")->E (.ref e) {s with heap:=t}):
 wpAny (mZ prog w) A (Builtin.SmallTypes.nextOf (.ref d)) Q E s:=by
 obtain⟨o,g,r,h⟩:=id a;obtain⟨p,f,_,q,c⟩:=m
 refine wa (wpAny_callSpecial?_slot a.typeIs F.slot_tuple_iterator_next
  (wd F.slot_tuple_iterator_next a.typeIs F.entry_tuple_iterator_next ?_ (F.args_tuple_iterator_next_1 _)))
 show wpAny _ _ (field _ 0>>=_) _ _ s;refine wa (wpAny_field g h (x:=.ref l) rfl (wa (wpAny_field g h (x:=.int i 0) rfl (wa (wpAny_seqItems f c ?_)))));simp [k];refine wa (wpAny_rule (wa (wpAny_setField g h nofun (wa (wa (m:=firstArgMember _ _) (wpAny_of_eq (a:=.none) (by first|rfl|(rfl)) (we (wa (wpAny_handled ?_)) (by size_fits))))))))
 first|rw[j]|rw[j]
 refine wa (wb (wpAny_throw ?_));exact n _ _ (((wo ..).extBut.push _).push _) ⟨_,qp _ rfl,rfl⟩
theorem Ow{i:Nat}{Q:AC}(he:IsEnum s.heap e z i W)(Y:s.heap.IsTupleIter z l i)(hl:s.heap.IsTuple l M)(hx:M[i]?=some x)(B:e≠z)(hQ:∀K,IsEnumOut K e z ((i:Int)+1) x (~~~s)->K.IsTupleIter z l (i+1)->
  K.get? (~~~s)=some {cls:=.type "tuple",data:=.seq #[.int i s.toks,x]}->K.objs.size= ~~~s+1->
  (∀b o,b≠e->b≠z->s.heap.get? b=some o->K.get? b=some o)->Q (.ref (~~~s)) {s with heap:=K,toks:=s.toks+1}):
 wpAny (mZ prog w) A (Builtin.«enumerate.__next__» ⟨[.ref e],[]⟩) (λZ s'=>∃v,Z=.done (.ret v)/\Q v s') E s:=by
 obtain⟨V,g,d,tk,os⟩:=s;show wpAny _ _ (field (.ref e) 2>>=_) _ _ _;refine wa (wpAny_field he rfl (x:=.ref z) rfl ?_);refine wa (Ou Y hl hx λh₁ D t=>?_);have p:=(t.2 e B).trans he;refine wa (wpAny_field p rfl (x:=rawInt i) rfl ?_);refine wa (wpAny_field p rfl (x:=.none) rfl ?_);refine wa (wpAny_mkInt ?_);refine wa (wpAny_setField_rec p nofun λU P u=>?_);refine wa (wpAny_setField_rec P nofun λm N c=>?_);replace c:Heap.SameBut e U m:=c;show wpAny _ _ _ _ _ ⟨m,g,d,tk+1,os⟩;refine wa (wpAny_newTuple ?_);have j:IsEnum (m.push {cls:=.type "tuple",data:=.seq #[.int i tk,x]}) e z ((i:Int)+1) W:=qe _ N;generalize f:m.push _=n at j
 have G:m.objs.size=V.objs.size:=by rw[c.1,u.1,t.1]
 have H:e<V.objs.size:=ql he
 have R:n.get? V.objs.size=some {cls:=.type "tuple",data:=.seq #[.int i tk,x]}:=by rw[<-f,<-G];exact qp _ rfl
 have J:n.objs.size=V.objs.size+1:=by rw[<-f,wq,G]
 have S:∀b o,b≠e->b≠z->V.get? b=some o->n.get? b=some o:=λb o y O hb=>by
  rw[<-f];exact qe _ (c.extBut b o y (u.extBut b o y (t.extBut b o O hb)))
 have C:n.IsTupleIter z l (i+1):=by
  rw[<-f];obtain⟨o,ho,r⟩:=D.at λo q=>c.extBut z o (Ne.symm B) (u.extBut z o (Ne.symm B) q);exact⟨o,qe _ ho,r⟩
 show wpAny _ _ _ _ _ ⟨n,g,d,tk+1,os⟩;rw[G];refine wa ?_
 .refine wa (wpAny_field j rfl (x:=.none) rfl (wb ?_))
  refine wa (wpAny_rule ?_);refine wa (wpAny_field j rfl (x:=W) rfl ?_);refine wa (wpAny_setField_rec j nofun λh₅ I h=>?_);refine wa ?_
  .refine wa (wpAny_setField_rec I nofun λX L k=>?_)
   refine wpAny_setField_rec L nofun λF T a=>?_;replace a:Heap.SameBut e X F:=a;refine wa (wpAny_letGo (wb ⟨_,rfl,hQ F T ?_ ?_ ?_ ?_⟩))
   .exact C.at λo q=>a.extBut z o (Ne.symm B) (k.extBut z o (Ne.symm B) (h.extBut z o (Ne.symm B) q))
   .exact a.extBut _ _ (Nat.ne_of_gt H) (k.extBut _ _ (Nat.ne_of_gt H) (h.extBut _ _ (Nat.ne_of_gt H) R))
   .rw[a.1,k.1,h.1,J]
   .exact λb o y O hb=>a.extBut b o y (k.extBut b o y (h.extBut b o y (S b o y O hb)))
def Ox{i:Nat}(n:IsEnum s.heap e g i p)(h:s.heap.IsTupleIter g l i)(t:s.heap.IsTuple l f)(q:f[i]?=some x)(j:e≠g)(r:∀u,IsEnumOut u e g ((i:Int)+1) x (~~~s)->u.IsTupleIter g l (i+1)->
  u.get? (~~~s)=some {cls:=.type "tuple",data:=.seq #[.int i s.toks,x]}->u.objs.size= ~~~s+1->
  (∀b o,b≠e->b≠g->s.heap.get? b=some o->u.get? b=some o)->Q (some (.ref (~~~s))) {s with heap:=u,toks:=s.toks+1}):
 wpAny (mZ prog w) A (pyNext (.ref e)) Q E s:=by
 have m:s.TypeIs (.ref e) _:=⟨_,n,rfl⟩
 exact wa (jd (wpAny_callSpecial?_slot m F.slot_enumerate_next
  (wd F.slot_enumerate_next m F.entry_enumerate_next
   (Ow n h t q j λu a b c d k=>wb (r u a b c d k)) (F.args_enumerate_next_1 _))))
def Oy{i:Nat}(m:A.handled=none)(g:IsEnum s.heap e c i r)(b:s.heap.IsTupleIter c l i)(q:s.heap.IsTuple l a)(j:a[i]?=none)(n:∀t,Heap.ExtBut c s.heap t->Q none {s with heap:=t}):wpAny (mZ prog w) A (pyNext (.ref e)) Q E s:=by
 have h:s.TypeIs (.ref e) _:=⟨_,g,rfl⟩
 refine wa (jd (wpAny_callSpecial?_slot h F.slot_enumerate_next
  (wd F.slot_enumerate_next h F.entry_enumerate_next ?_ (F.args_enumerate_next_1 _))))
 show wpAny _ _ (field _ 2>>=_) _ _ _;refine wa (wpAny_field g rfl (x:=.ref c) rfl (wa (Ov m b q j λt x d f=>?_)));obtain⟨o,p,k⟩:=f;exact wa (wpAny_isInstance ⟨o,p,k⟩ isSubtype_stop (wb (n _ d)))
def Oz(l:Addr)(a:Array Value)(n:Nat)(f:Option Addr)(k:Array (Option Value)):
 Meets (Builtin.«enumerate.__new__» ⟨[.type "enumerate",.ref l],[]⟩) (λ_ R s=>s.heap.get? l=some {cls:=.type "tuple",dict:=f,data:=.seq a n,slots:=k}/\
  R (.ok (.ret (.ref (s.heap.push {cls:=.type "tuple_iterator",data:=.fields #[.ref l,.int 0 0]}).objs.size)))
   {s with heap:=(s.heap.push {cls:=.type "tuple_iterator",data:=.fields #[.ref l,.int 0 0]}).push {cls:=.type "enumerate",data:=.fields #[.none,.bool false,.ref (~~~s),rawInt 0,.none,.none]} }):=
 .of_wp λo w A R s h=>by
  obtain⟨j,g,d,p,os⟩:=s;obtain⟨b,h⟩:=h;have i:=sub_enumerate
  have e:Heap.IsTuple (Shared.heap ⟨j,g,d,p,os⟩) l a:=⟨_,b,rfl,n,rfl⟩
  wp_walk using m.AutoSeq1.wpAny_loadPart' b
  refine wpAny_stack_any λst=>wb ?_
  split
  .rename_i c _ _ _ _ _
   cases (c==Value.type "enumerate")
   .wp_walk using m.AutoSeq1.wpAny_loadPart' b,wpAny_pyIter_tuple e
    exact⟨_,rfl,h⟩
   .wp_walk using m.AutoSeq1.wpAny_loadPart' b,wpAny_pyIter_tuple e
    exact⟨_,rfl,h⟩
  .wp_walk using m.AutoSeq1.wpAny_loadPart' b,wpAny_pyIter_tuple e
   exact⟨_,rfl,h⟩
theorem OA(m:s.heap.IsTuple l a)(h:∀r,IsEnum r (~~~s+1) (~~~s) 0 .none->r.IsTupleIter (~~~s) l 0->r.objs.size= ~~~s+2->
  (∀b o,s.heap.get? b=some o->r.get? b=some o)->Q (.ref (~~~s+1)) {s with heap:=r}):
 wpAny (mZ prog w) A (call (.type "enumerate") [.ref l]) Q E s:=by
 obtain⟨⟨c,d,q,g⟩,p,j,n,k⟩:=m;subst j k
 refine callType_new F.called_enumerate (by decide) (F.typeCall_enumerate_1 _) (F.newCall_enumerate_1 _) (λe=>F.args_object_init_2 e _) F.entry_enumerate_new
  (Oz l a n d g) ⟨p,?_⟩
 have i:(s.heap.push {cls:=.type "tuple_iterator",data:=.fields #[.ref l,.int 0 0]}).objs.size=_:=wq ..;rw[i]
 have f:IsEnum ((s.heap.push {cls:=.type "tuple_iterator",data:=.fields #[.ref l,.int 0 0]}).push
  {cls:=.type "enumerate",data:=.fields #[.none,.bool false,.ref (~~~s),rawInt 0,.none,.none]}) (~~~s+1) (~~~s) 0 .none:=by
  have:=qp (s.heap.push {cls:=.type "tuple_iterator",data:=.fields #[.ref l,.int 0 0]})
   (o:={cls:=.type "enumerate",data:=.fields #[.none,.bool false,.ref (~~~s),rawInt 0,.none,.none]}) rfl
  grind
 refine⟨⟨_,f,rfl⟩,h _ f ⟨_,qe _ (qp _ rfl),rfl,rfl⟩ (by ext) λb o x=>qe _ (qe _ x)⟩
end
theorem Iw{σ:L2.St}{ch:List Addr}{T:Addr}(I:Inv X pins σ H s)(f:∀b∈ch,cU X pins H b)(k:∀b u,b∉ch->s.heap.get? b=some u->h'.get? b=some u)(g:(~~~s)<=T)(p:ObjOk X.prog X.w (upd H T o) h' T o):Inv X pins σ (upd H T o) {s with heap:=h',toks:=t' }:=by
 have d:=I.hok.fresh g
 have j:∀b u,H b=some u->b∉ch:=λb u e z=>by rw[(f b z).1]at e;cases e
 refine I.step (λb x=>?_) (λb u _ _ a e _=>k b u a e) (λb u _ _ a e _=>⟨u.slots,k b u a e⟩) (λb u _ e n=>?_)
  (λb u a e=>⟨u,k b u a e⟩) (λb E e=>?_) (λb u E e=>?_) (λb G e=>⟨#[],?_⟩) (λm l=>?_) (λb u e=>?_) I.bare
 .obtain⟨_,B,_,C,y,A⟩:=f b x
  grind
 .rwa [Yj (qm (Qi (ql e) g))]
 .rwa [Yj (Yi e d)]
 .rwa [Yj (Yi e d)]
 .rw[Yj (Yi e d),e];simp
 .obtain⟨h,t,i,w,r⟩:=l
  exact⟨h,t,i,k _ h (λz=>(f _ z).2.1 rfl) w,r⟩
 .by_cases x:b=T
  .subst x;rw[Yh]at e;grind
  .rw[Yj x]at e
   refine(I.hok b u e).stay (λc v a q=>k c v ?_ q) (λc q=>by rwa [Yj (Yi q d)]) λc E q=>by rwa [Yj (Yi q d)]
   grind
def mI(K:W7)(a:Addr):It:=
 ⟨λi H=>∃b x,SqL K H a b/\b[i]?=some x,λi H x c=>∃y p,(∀b,SqL K H a b->b[i]?=some y)/\H p=none/\x=.ref p/\c=upd H p (.tup [.int i,y]),λi H=>∃b,SqL K H a b/\b.length<=i⟩
def mJ(K:W7)(a:Addr):It:=
 ⟨λi H=>∃b x,SqT K H a b/\b[i]?=some x,λi H x c=>∃y p,(∀b,SqT K H a b->b[i]?=some y)/\H p=none/\x=.ref p/\c=upd H p (.tup [.int i,y]),λi H=>∃b,SqT K H a b/\b.length<=i⟩
theorem OB(a j e:Addr)(n:e≠j):dP P w K (.Tuple elts x1 pt) (mI K a) [e,j] e (λi h=>(∃g,IsEnum h e j i g)/\h.IsListIter j a i) where
 mem:=by simp
 obj:=λi h st b hb=>by
  obtain⟨⟨g,l⟩,f⟩:=st;rcases qu hb with rfl|hb
  .simp_all
  .obtain⟨o,q,c,d⟩:=f
   grind
 keep:=λi h h' st k=>by
  obtain⟨⟨g,l⟩,f⟩:=st;exact⟨⟨g,k e nofun _ l⟩,f.at λo q=>k j nofun o q⟩
 item:=by
  intro X J A F M i pins s σ H E I y st G;subst J A F;obtain⟨xs,x,v,C⟩:=G;obtain⟨its,B,p,hz⟩:=I.list v;obtain⟨u,hu,T⟩:=B.get C;obtain⟨⟨g,l⟩,f⟩:=st;refine wpAny_pyNext_enum_item l f p.isList (x:=u) (by grind) n λh' ho r N hsz O=>?_;refine⟨_,rfl,wpAny_letOwnedTupleGo_enum ho λh2 D m=>?_⟩;have U:=I.fresh
  have t:∀b∈[e,j],b≠(~~~s):=λb hb z=>by
   rcases qu hb with rfl|hb
   .grind
   .obtain⟨o,q,_⟩:=f
    exact absurd (ql q) (by ext)
  have Q:∀b o,b∉[e,j]->_:=λb o hb q=>by
   have L:b≠e:=λz=>hb (by simp[z]);have S:b≠j:=λz=>hb (by simp[z]);exact(m.2 b L).trans (O b o L S q)
  have W:=(m.2 _ (Ne.symm (t e nofun))).trans N;refine⟨.ref _,upd H _ _,Iw (s:=s) (t':=s.toks+1) I y Q (qv _) ?_,rfl,⟨x,~~~s,λys R=>by rw[I.list_inj R v];exact C,U,rfl,rfl⟩,⟨⟨_,by simpa using D⟩,r.at λo q=>(m.2 j (Ne.symm n)).trans q⟩,λb hb=>?_⟩
  .exact⟨by rw[je];ext,[.int i s.toks,u],.cons ⟨_,rfl⟩ (.cons T .nil),_,W,rfl,0,rfl⟩
  .rw[Yj (t b hb)];exact(y b hb).1
 done:=by
  intro X J A F M i pins s σ H E I y st G;subst J A F;obtain⟨xs,v,C⟩:=G;obtain⟨its,B,p,hz⟩:=I.list v;obtain⟨⟨g,l⟩,f⟩:=st;obtain⟨f0,f1,f2,V,Z,f5⟩:=y j nofun;have hl:=B.length
  exact wpAny_pyNext_enum_end (I.ok.hd M) l f p.isList (by simp;lia) λh' Y=>⟨rfl,I.turned (λb o hb e=>Y b o hb e) f0 f1 V Z f5⟩
 self:=λ_ _ _ _ _ st h=>let ⟨⟨_,l⟩,_⟩:=st;wpAny_pyIter_enum l h
theorem OC(a j e:Addr)(n:e≠j):dP P w K (.Tuple elts x1 pt) (mJ K a) [e,j] e (λi h=>(∃g,IsEnum h e j i g)/\h.IsTupleIter j a i) where
 mem:=by simp
 obj:=λi h st b hb=>by
  obtain⟨⟨g,l⟩,f⟩:=st;rcases qu hb with rfl|hb
  .grind
  .obtain⟨o,q,c,d⟩:=f
   symm
 keep:=λi h h' st k=>by
  obtain⟨⟨g,l⟩,f⟩:=st;exact⟨⟨g,k e nofun _ l⟩,f.at λo q=>k j nofun o q⟩
 item:=by
  intro X J A F M i pins s σ H E I y st G;subst J A F;obtain⟨xs,x,v,C⟩:=G;obtain⟨its,B,p,hz⟩:=I.tuple v;obtain⟨u,hu,T⟩:=B.get C;obtain⟨⟨g,l⟩,f⟩:=st;refine Ox l f (p) (x:=u) ⋯ n λh' ho r N hsz O=>?_;refine⟨_,rfl,wpAny_letOwnedTupleGo_enum ho λh2 D m=>?_⟩;have U:=I.fresh
  have t:∀b∈[e,j],b≠(~~~s):=λb hb z=>by
   rcases qu hb with rfl|hb
   .grind
   .obtain⟨o,q,_⟩:=f
    exact absurd (ql q) ⋯
  have Q:∀b o,b∉[e,j]->_:=λb o hb q=>by
   have L:b≠e:=λz=>hb (by simp[z]);have S:b≠j:=λz=>hb (by simp[z]);exact(m.2 b L).trans (O b o L S q)
  have W:=(m.2 _ (Ne.symm (t e nofun))).trans N;refine⟨.ref (~~~s),upd H _ _,Iw (s:=s) (t':=s.toks+1) I y Q (qv _) ?_,rfl,⟨x,~~~s,λys R=>by rw[I.tuple_inj R v];exact C,U,rfl,rfl⟩,⟨⟨_,by simpa using D⟩,r.at λo q=>(m.2 j (Ne.symm n)).trans q⟩,λb hb=>?_⟩
  .exact⟨by rw[je];symm,[.int i s.toks,u],.cons ⟨_,rfl⟩ (.cons T .nil),_,W,rfl,0,rfl⟩
  .rw[Yj (t b hb)];exact(y b hb).1
 done:=by
  intro X J A F M i pins s σ H E I y st G;subst J A F;obtain⟨xs,v,C⟩:=G;obtain⟨its,B,p,hz⟩:=I.tuple v;obtain⟨⟨g,l⟩,f⟩:=st;obtain⟨f0,f1,f2,V,Z,f5⟩:=y j nofun;have hl:=B.length
  exact Oy (I.ok.hd M) l f (p) (by simp;ac_nf) λh' Y=>⟨rfl,I.turned (λb o hb e=>Y b o hb e) f0 f1 V Z f5⟩
 self:=λ_ _ _ _ _ st h=>let ⟨⟨_,l⟩,_⟩:=st;wpAny_pyIter_enum l h
def yW(K:W7)(c:TA):TI:=λe H R=>c e H λf b=>∃a d,f=[.ref a]/\((SqL K b a d/\(d.length<=sizeLine->R (mI K a) b))\/(SqT K b a d/\(d.length<=sizeLine->R (mJ K a) b)))
theorem yX(B:Gl X "enumerate")(w:X.mg "enumerate"=none)(y:PA X [l] A)(hs:Ze X l:=by rfl):PI X (.Tuple elts x1 pt) (.Call (.Name "enumerate" p) [l] [] pos) (yW X.K A):=by
 intro J s K H R I h;refine Call_ (kB I B w boot_enumerate (PyProof.Rows.callWith_type1 (aS (y pos _ s K H _ I h) λM c t=>?_) hs rfl));obtain⟨N,v,f,x,z⟩:=t;obtain⟨a,O,rfl,q⟩:=z;obtain⟨u,rfl,D⟩:=eQ x;cases D
 have j:∀(k:Heap),k.objs.size=c.heap.objs.size+2->(∀b o,c.heap.get? b=some o->k.get? b=some o)->∀b∈[c.heap.objs.size+1,c.heap.objs.size],_:=λk n g b L=>by
  have i:c.heap.objs.size<=b:=by
   ext<;>lia
  exact f.fpOk i (f.hok.fresh i)
 rcases q with⟨r,q⟩|⟨r,q⟩
 .obtain⟨F,C,G,n⟩:=f.list r
  exact call_enumerate_list G.isList λk m d e g=>wpAny_pyIter_enum m (⟨_,[c.heap.objs.size+1,c.heap.objs.size],_,_,v,rfl,f.kept g,OB a _ _ (Nat.succ_ne_self _),⟨⟨_,m⟩,d⟩,j k e g,q n⟩)
 .obtain⟨F,C,G,n⟩:=f.tuple r
  exact OA (G) λk m d e g=>wpAny_pyIter_enum m (⟨_,[c.heap.objs.size+1,c.heap.objs.size],_,_,v,rfl,f.kept g,OC a _ _ (Nat.succ_ne_self _),⟨⟨_,m⟩,d⟩,j k e g,q n⟩)
noncomputable def gY(l:AR):AR:=(List.range l.length).map λi:Nat=>.tup [.int i,l.getD i .non]
def jr(c:D):Option AR:=(Yc c).map gY
theorem yY{i:Nat}(h:(gY l)[i]?=some d):∃e,l[i]?=some e/\d=.tup [.int i,e]:=by
 unfold gY at h;grind
def kW(l:AR):(gY l).length=l.length:=by simp[gY]
def Gr.newTup(s:Same G H)(a:H p=none)(i:Nat)(r:Rp K G d x):∃b,Gr H G (upd H p (.tup [.int i,x])) b/\Rp K b (.tup [.int i,d]) (.ref p):=⟨_,.new s a _,⟨p,_,rfl,Yh,.cons (by rw[Rp]) (.one (r.mono (Gr.new s a _).g))⟩⟩
noncomputable def fy(k:Int):Value->Bool
 | .int i _=>i==k
 | .bool b=>(if b then 1 else 0)==k
 | _=>false
theorem kX(h:fy k v=true):(∃t,v=.int k t)\/∃b:Bool,v=.bool b/\k=if b then 1 else 0:=by
 cases v with
 | int i t=>
   have e:=by simpa [fy]using h
   grind
 | bool b=>
   have e:=by simpa [fy]using h
   ext
 | _=>simp[fy]at h
theorem OD(h:Q (hashInt (if b then 1 else 0)) {s with toks:=s.toks+1}):
 wpAny (mZ prog w) A (pyHash (.bool b)) Q E s:=by
 have a:s.TypeIs (.bool b) "bool":=rfl;refine wa ?_;refine wb ?_;refine wa (wpAny_specialOf a F.slot_bool_hash.lookup ?_);refine wa (wpAny_specialOf a F.slot_bool_hash.lookup ?_)
 refine wa (wpAny_callSpecialIfBoundUnlessNone?_slot a F.slot_bool_hash
  (wd F.slot_bool_hash a entry_int_hash
   (wpAny_ret_mkInt ?_) (args_int_hash _)))
 show wpAny _ _ (if _ then _ else _) Q E _;rw[if_pos (by split<;>ext)];exact wb h
def ew(prog:P7)(w:World):KeyKind prog w Int where
 is:=fy
 hash:=hashInt
 inj:=λv a b j m=>by
  rcases kX j with⟨t,rfl⟩|⟨c,rfl,rfl⟩
  .have e:a=b:=by simpa [fy]using m
   exact e
  .have e:=by simpa [fy]using m
   exact e
 byValue:=λk v h=>by
  rcases kX h with⟨t,rfl⟩|⟨c,rfl,rfl⟩<;>rfl
 pyHash:=λg h=>by
  rcases kX g with⟨t,rfl⟩|⟨c,rfl,rfl⟩
  .exact wpAny_pyHash_int h
  .exact OD h
 eqBool:=λ{A E s a b u v Q} i g h=>by
  rcases kX i with⟨t,rfl⟩|⟨c,rfl,rfl⟩
  .rcases kX g with⟨l,rfl⟩|⟨f,rfl,rfl⟩
   .exact wpAny_eqBool_int (by grind)
   .exact SeqAt.EqAt.int_bool a t f _ _ _ _ (by grind)
  .rcases kX g with⟨l,rfl⟩|⟨f,rfl,rfl⟩
   .exact SeqAt.EqAt.bool_int c b l _ _ _ _ (by grind)
   .refine SeqAt.EqAt.bool_bool c f _ _ _ _ ?_
    have e:(c==f)=decide ((if c=true then (1:Int)else 0)=if f=true then 1 else 0):=by split<;>ext
    ext
 «strs»:=λk x t v h=>by simp[fy]at h
def yZ(h:gR x=some i)(r:RelV x u):(ew P w).is i u=true:=by
 cases x<;>simp[gR]at h
 .subst h
  cases (r);simp[ew,fy]
 .subst h
  obtain⟨t,rfl⟩:=r;simp[ew,fy]
theorem Iy:∀{xs:AQ}{ks:AH}{us:AE},eF xs=some ks->Vals xs us->ItemsAre (ew P w) ks us
 | [],ks,us,h,r=>by
   cases h;cases r;exact .nil
 | x::xs,ks,us,h,r=>by
   obtain⟨i,c,h⟩:=qa h;obtain⟨l,b,rfl⟩:=qc h
   cases r with
   | cons a d=>exact .cons (yZ c a) (Iy b d)
def qS(f:HOk P w H h)(e:H b=some (.tup ys))(n:eF ys=some ks):(tupleKind (ew P w)).is h ks b:=by
 obtain⟨_,a,r,o,g,d,k,c⟩:=f b _ e;exact⟨o,a.toArray,k,g,d,c,by simpa using Iy n r⟩
noncomputable abbrev aM{κ:Type}(nks:List (κ×Addr))(us:AE):List (κ×Addr×Value):=(nks.zip us).map λp=>(p.1.1,p.1.2,p.2)
theorem Iz{κ:Type}{nks:List (κ×Addr)}{us:AE}(h:us.length=nks.length):(aM nks us).map (·.1)=nks.map (·.1):=by
 unfold aM;rw[Qf];have e:((λx:κ×Addr×Value=>x.1) ∘ λp:(κ×Addr)×Value=>(p.1.1,p.1.2,p.2))=λp=>p.1.1:=rfl;rw[e]
 have:nks=(nks.zip us).map (·.1):=by rw[List.map_fst_zip ∅]
 conv=>rhs;rw[this]
 rw[Qf];rfl
def y_(b:HOk P w H h)(k:Same G H)(e:H a=some (iy a nks vxs j))(v:nks.length=vxs.length)(hn:(nks.map (·.1)).Nodup)(u:∀p∈nks,∃ys,G p.2=some (.tup ys)/\eF ys=some p.1):(a==sysModules)=false/\∃us,Vals vxs us/\us.length=nks.length/\h.DictOfH (tupleKind (ew P w)) a (aM nks us):=by
 obtain⟨⟨i,us,o,q,r,t,m,n,l⟩,_⟩:=b a _ e
 have c:us.length=nks.length:=by rw[v,r.length]
 refine⟨i,us,r,c,o,q,j,t,m,n,?_,λx g=>?_,by rwa [Iz c]⟩
 .rw[l,Qf]
  rfl
 .obtain⟨p,d,rfl⟩:=qy g
  obtain⟨ys,f,s⟩:=u p.1 (List.of_mem_zip d).1;exact qS b (k _ _ f) s
noncomputable def bf{a b:Type}[DecidableEq a]:List a->List b->a->Option b
 | k::ks,v::vs,x=>if k=x then some v else bf ks vs x
 | _,_,_=>none
theorem qT{κ:Type}[DecidableEq κ](k:κ):∀(nks:List (κ×Addr)) (us:AE),(atKey (aM nks us) k).map (·.2)=bf (nks.map (·.1)) us k
 | [],us=>by cases us<;>simp[aM,atKey,bf]
 | p::nks,[]=>by simp[aM,atKey,bf]
 | p::nks,u::us=>by
   have ih:=qT k nks us;by_cases e:p.1=k
   .simp[aM,atKey,bf,List.find?_cons,e]
   .simp only[aM,List.zip_cons_cons,Qd,atKey,List.find?_cons,e,decide_false,bf,if_false]
    exact ih
theorem IA[DecidableEq a](x:a):∀{ks:List a}{vxs:AQ}{us:AE},Vals vxs us->RelO (bf ks vxs x) (bf ks us x)
 | [],_,_,_=>.intro
 | k::ks,_,_,.nil=>.intro
 | k::ks,_,_,.cons r t=>by
   by_cases e:k=x
   .simp [bf,if_pos e];exact r
   .simp [bf,if_neg e];exact IA x t
theorem kY[DecidableEq a](x:a):∀{ks:List a}{vs:AR}{vxs:AQ},RpL K G vs vxs->(∀d,bf ks vs x=some d->∃v,bf ks vxs x=some v/\Rp K G d v)/\(bf ks vs x=none->bf ks vxs x=none)
 | [],_,_,_=>⟨λd h=>by simp[bf]at h,λ_=>by simp[bf]⟩
 | k::ks,[],_,r=>by
   subst r;exact⟨λd h=>by simp[bf]at h,λ_=>by simp[bf]⟩
 | k::ks,d::vs,_,r=>by
   obtain⟨y,f,rfl,c,b⟩:=r;by_cases e:k=x
   .simp [bf]
    ext
   .simp [bf,if_neg e]
    exact kY x b
noncomputable def aZ{a b:Type}[DecidableEq a]:List a->List b->a->b->List b
 | k::ks,v::vs,x,y=>if k=x then y::vs else v::aZ ks vs x y
 | _,vs,_,_=>vs
theorem mK[DecidableEq a](x:a)(y:b):∀(ks:List a) (vs:List b),(aZ ks vs x y).length=vs.length
 | [],vs=>by cases vs<;>simp[aZ]
 | k::ks,[]=>by simp[aZ]
 | k::ks,v::vs=>by
   simp [aZ]
   split
   .simp
   .simp[mK x y ks vs]
theorem za[DecidableEq a](x:a)(b:RelV y u):∀{ks:List a}{vxs:AQ}{us:AE},Vals vxs us->Vals (aZ ks vxs x y) (aZ ks us x u)
 | [],_,_,.nil=>.nil
 | [],_,_,.cons r t=>.cons r t
 | k::ks,_,_,.nil=>.nil
 | k::ks,_,_,.cons r t=>by
   simp [aZ]
   split
   .exact .cons b t
   .exact .cons r (za x b t)
theorem qU[DecidableEq f](x:f)(c:Rp K G d y):∀{ks:List f}{vs:AR}{vxs:AQ},RpL K G vs vxs->RpL K G (aZ ks vs x d) (aZ ks vxs x y)
 | [],[],_,r=>by simpa [aZ]using r
 | [],_::_,_,r=>by
   obtain⟨z,g,rfl,b,a⟩:=r;exact .cons b a
 | k::ks,[],_,r=>by
   subst r;exact .nil
 | k::ks,e::vs,_,r=>by
   obtain⟨z,g,rfl,b,a⟩:=r;simp [aZ]
   split
   .exact .cons c a
   .exact .cons b (qU x c a)
theorem zb{κ:Type}[DecidableEq κ]{k:κ}{b:Addr}{u:Value}:∀{nks:List (κ×Addr)}{us:AE},us.length=nks.length->(nks.map (·.1)).Nodup->k∈nks.map (·.1)->(aM nks us).map (putAt k u)=aM nks (aZ (nks.map (·.1)) us k u)
 | [],us,_,_,h=>by simp at h
 | p::nks,[],hl,_,_=>by simp at hl
 | p::nks,v::us,hl,hn,hm=>by
   rw[Qd,List.nodup_cons]at hn;by_cases e:p.1=k
   .have hnot:k∉nks.map (·.1):=by rw[<-e];exact hn.1
    simp only[aM,List.zip_cons_cons,Qd,aZ,e,if_true]
    congr 1
    .simp[putAt,e]
    .refine(Qq λx hx=>?_).trans (List.map_id _)
     obtain⟨q,hq,rfl⟩:=qy hx;have:¬q.1.1=k:=λz=>hnot (List.mem_map.mpr ⟨q.1,(List.of_mem_zip hq).1,z⟩);simp[putAt,this]
   .have hm':k∈nks.map (·.1):=by
     rw[Qd]at hm;rcases qu hm with z|z
     .exact absurd z.symm e
     .exact z
    have ih:=zb (k:=k) (b:=b) (u:=u) (nks:=nks) (us:=us) (by simpa using hl) hn.2 hm';simp only[aM,List.zip_cons_cons,Qd,aZ,e,if_false]
    congr 1
    .simp[putAt,e]
theorem mL[DecidableEq a]:∀{ks:List a}{vs:List c},vs.length=ks.length->(bf ks vs x=none↔x∉ks)
 | [],_,_=>by simp[bf]
 | k::ks,[],h=>by simp at h
 | k::ks,v::vs,h=>by
   by_cases e:k=x
   .simp[bf,e]
   .have b:¬x=k:=λz=>e z.symm
    simp [bf,e,b];exact mL (by simpa using h)
section
open Sem (wp)
end
section
variable {e:Expr}{f fb:AW}
def zc:V->AQ->Hp->VK->Prop:=λx vs H Q=>∃l xs i y,x=.ref l/\vs=[.int i,y]/\H l=some (.lst xs)/\0<=i/\i<=xs.length/\xs.length<sizeLine/\Q .non (upd H l (.lst (xs.take i.toNat++y::xs.drop i.toNat)))
theorem OE:xR X "list.insert" zc:=by
 intro pins s σ H x vs v us Q I rx rv h;obtain⟨l,xs,i,y,rfl,rfl,hH,h0,hi,hz,q⟩:=h;cases rx;obtain⟨u1,u2,rfl,⟨t,rfl⟩,r2⟩:=kE rv;obtain⟨z,its,n,r,hl,e⟩:=I.lstM hH;have hn:=je
 have hfit:¬(!Builtin.List.listFitsIndex i)=true:=by
  unfold Builtin.List.listFitsIndex;symm
 refine call_meets F.slot_list_insert ⟨_,e,rfl⟩ F.entry_list_insert (F.args_list_insert_3 _ _ _) (AutoSeq1.list_insert_list_int_val_1 l its.toArray n i t u2 hfit ⋯) ⟨e,?_⟩
 have hk:¬i<0:=by ac_nf
 have hm:min i.toNat its.length=i.toNat:=by ac_nf
 refine⟨.non,_,I.lset (its':=its.take i.toNat++u2::its.drop i.toNat) hH e ?_ ((r.take _).append (.cons r2 (r.drop _))) ?_,rfl,q⟩
 .grind
 symm
def fV(l:AR)(k d:D):Option AR:=(eT k).bind λi=>if decide (0<=i)&&decide (i<=l.length)&&decide (l.length<aK)then some (l.take i.toNat++d::l.drop i.toNat)else none
end
def SE(w:World):List DictEntry->List (Str×Str)->Prop:=Paired λe p=>e.hash=PyData.keyHash w.params p.1/\(∃t,e.key=.str p.1 t)/\(∃t,e.val=.str p.2 t)/\PyData.strOk p.2=true
def GD(K:W7)(w:World)(c:AF)(x:Str)(a:List (Str×Str)):Prop:=∃p o b d,c x=some (.ref p)/\K.lookup p=some o/\o.ExactDict/\o.data=.dict b d/\SE w b.toList a
theorem IB:∀{l:List DictEntry}{c:List (Str×Str)},SE w l c->c.lookup k=some v->∃e t,l.find? (λe=>(PySem.strKind P w).is k e.key)=some e/\e.val=.str v t
 | _,_,.nil,h=>by simp at h
 | _,_,.cons (a:=e) (b:=p) r t,h=>by
   obtain⟨_,⟨o,d⟩,⟨g,j⟩,_⟩:=r;obtain⟨a,b⟩:=p;by_cases q:a=k
   .subst q
    simp at h;subst h;exact⟨e,g,by simp[d,PySem.strKind,Value.isStrOf],j⟩
   .have i:(k==a)=false:=by simpa using (λz=>q z.symm)
    obtain⟨n,f,s,m⟩:=IB t (by simpa [List.lookup_cons,i]using h);refine⟨n,f,?_,m⟩;rw[List.find?_cons]
    have:(PySem.strKind P w).is k e.key=false:=by
     rw[d];show(a==k)=_;simpa using q
    rwa [this]
theorem IC:∀{l:List DictEntry}{a:List (Str×Str)},SE w l a->∀e∈l,∃k,(PySem.strKind P w).is k e.key=true/\e.hash=(PySem.strKind P w).hash k
 | _,_,.nil,e,h=>by cases h
 | _,_,.cons (b:=p) r t,e,h=>by
   rcases qu h with rfl|h
   .obtain⟨d,⟨c,b⟩,_⟩:=r
    exact⟨p.1,by rw[b];simp[PySem.strKind,Value.isStrOf],d⟩
   .exact IC t e h
theorem mM:∀{l:List DictEntry}{c:List (Str×Str)},SE w l c->c.lookup k=some v->PyData.strOk v=true
 | _,_,.nil,h=>by simp at h
 | _,_,.cons (b:=p) r t,h=>by
   obtain⟨a,b⟩:=p;by_cases q:k=a
   .simp_all
   .have d:(k==a)=false:=by simpa using q
    exact mM t (by simpa [List.lookup_cons,d]using h)
section
variable {x:Str}
noncomputable def qV(a:List (Str×Str)):D->Option D
 | .str k=>(a.lookup k).map .str
 | _=>none
end
def tK(x:Str):TE:=λ_ H Q=>Q (.str x) H
structure MP(X:Cx)(pos:Pos)(keys:List (Option Expr))(values:AM)(ks:AL)(fs:List AW):Prop where
 len:ks.length=fs.length
 pps:ND X pos keys values ((ks.zip fs).map λp=>(tK p.1,tOf X.K p.2))
 all:keys.all (·.isSome)=true
 kv:keys.length=values.length
 kk:keys.length=ks.length
noncomputable def jt:D->Option Int
 | .int i=>some i
 | .bl b=>some (if b then 1 else 0)
 | _=>none
noncomputable def ju:AR->Option AH
 | []=>some []
 | d::l=>(jt d).bind λi=>(ju l).map (i::·)
def fW:D->Option AH
 | .tup l=>ju l
 | _=>none
noncomputable def fA:AR->Option (List AH)
 | []=>some []
 | d::l=>(fW d).bind λk=>(fA l).map (k::·)
def zd(h:jt d=some i)(r:Rp K G d v):gR v=some i:=by
 cases d<;>simp[jt]at h
 .subst h r
  rfl
 .subst h r
  rfl
theorem mN:∀{l:AR}{xs:AQ}{k:AH},ju l=some k->RpL K G l xs->eF xs=some k
 | [],xs,k,h,r=>by
   cases h;subst r;rfl
 | d::l,xs,k,h,r=>by
   obtain⟨i,c,h⟩:=qa h;obtain⟨m,b,rfl⟩:=qc h;obtain⟨x,q,rfl,a,e⟩:=r;rw[eF,zd c a,mN b e];rfl
def mO(h:fW d=some k)(r:Ct K G H d v):∃b ys,v=.ref b/\H b=some (.tup ys)/\G b=some (.tup ys)/\eF ys=some k:=by
 cases d with
 | tup l=>
   obtain⟨b,ys,rfl,⟨a,e⟩,c⟩:=r;exact⟨b,ys,rfl,a,e,mN h c⟩
 | _=>cases h
theorem ze:∀{ks:AR}{b:List AH}{nks:List (List Int×Addr)},fA ks=some b->RpL K G ks (nks.map λp=>V.ref p.2)->(∀p∈nks,∃ys,G p.2=some (.tup ys)/\eF ys=some p.1)->nks.map (·.1)=b
 | [],b,nks,h,r,_=>by
   cases h;rw[RpL]at r;simpa using r
 | d::ks,b,nks,h,r,f=>by
   obtain⟨k,i,h⟩:=qa h;obtain⟨m,w,rfl⟩:=qc h;obtain⟨x,q,e,v,t⟩:=r
   cases nks with
   | nil=>cases e
   | cons p nks=>
     injection e with s u;subst s u;have A:=ze w t λp o=>f p (qg _ o);obtain⟨ys,g,n⟩:=f p qh
     cases d with
     | tup l=>
       obtain⟨a,z,c,j,y⟩:=v;injection c with c;subst c;rw[g]at j;cases j;rw[mN i y]at n;grind
     | _=>cases i
structure qW(H:Hp)(a:Addr)(nks:List (List Int×Addr))(vxs:AQ):Prop where
 at':∃ep,H a=some (iy a nks vxs ep)
 len:nks.length=vxs.length
 nd:(nks.map (·.1)).Nodup
 keys:∀p∈nks,∃ys,H p.2=some (.tup ys)/\eF ys=some p.1
def mP{σ:L2.St}(I:Inv X pins σ H s)(d:qW H a nks vxs):
 (a==sysModules)=false/\∃us,Vals vxs us/\us.length=nks.length/\s.heap.DictOfH (tupleKind (ew X.prog X.w)) a (aM nks us):=by
 obtain⟨b,e⟩:=d.at';exact y_ I.hok (.refl H) e d.len d.nd d.keys
def mQ:R2:=λx y H Q=>∃a b d c e k v,x=.ref a/\y=.ref b/\qW H a d c/\H b=some (.tup e)/\eF e=some k/\bf (d.map (·.1)) c k=some v/\Q v H
def ID{κ:Type}[DecidableEq κ]{nks:List (κ×Addr)}{vxs:AQ}{us:AE}{k:κ}{z:V}(r:Vals vxs us)(hf:bf (nks.map (·.1)) vxs k=some z):∃p,atKey (aM nks us) k=some p/\RelV z p.2:=by
 have h1:=IA k (ks:=nks.map (·.1)) r;rw[hf,<-qT k nks us]at h1
 cases h:atKey (aM nks us) k with
 | none=>rw[h]at h1;exact h1.elim
 | some p=>rw[h]at h1;exact⟨p,rfl,h1⟩
theorem zf(E:X.A.units+64<cLine):IxR X mQ:=by
 intro c e g s G H x y v u Q I A D h w;obtain⟨a,b,n,C,F,k,z,rfl,rfl,o,m,j,t,q⟩:=h;cases A;cases D;obtain⟨l,K,r,J,f⟩:=mP I o;obtain⟨p,B,i⟩:=ID r t;exact tail_any f.typeIs PySem.F.slot_dict_getitem.lookup (wpAny_getItem_heap (by show _<_;grind) (qS I.hok m j) f B ⟨z,H,I.tok _,i,q⟩) w
def zg{k:AH}{nks:List (List Int×Addr)}{us:AE}(hl:us.length=nks.length):(atKey (aM nks us) k).isSome=decide (k∈nks.map (·.1)):=by
 have h1:=qT k nks us;have h2:=mL (x:=k) (ks:=nks.map (·.1)) (vs:=us) (by simpa using hl)
 cases h:atKey (aM nks us) k with
 | none=>
   rw[h]at h1;have:=h2.mp h1.symm;simp at this ⊢;exact this
 | some p=>
   rw[h]at h1
   have:k∈nks.map (·.1):=Classical.byContradiction λz=>by
    rw[h2.mpr z]at h1;cases h1
   simp only[Option.isSome_some];exact(wh this).symm
def zh(d:(a==sysModules)=false)(r:Vals vxs us)(j:h'.DictOfH (tupleKind (ew P w)) a (aM nks us)):
 ∃c,∀H',ObjOk P w H' h' a (iy a nks vxs c):=by
 obtain⟨o,e,c,b,g,m,i,_⟩:=j;refine⟨c,λH'=>⟨⟨d,us,o,e,r,b,g,m,?_⟩,⟨o,b⟩,λb g f k=>?_⟩⟩
 .rw[i,Qf]
  rfl
 .obtain⟨d,us,o,e,r,l,h⟩:=f
  exact⟨d,us,o,e,r,k o l,h⟩
def cO(nks:List (List Int×Addr))(vxs:AQ)(k:AH)(b:Addr)(v:V):List (List Int×Addr)×AQ:=
 if k∈nks.map (·.1)then (nks,aZ (nks.map (·.1)) vxs k v)else (nks++[(k,b)],vxs++[v])
def zi:V->V->V->Hp->(Hp->Prop)->Prop:=λo i v H Q=>∃a b d c e k,o=.ref a/\i=.ref b/\qW H a d c/\H b=some (.tup e)/\eF e=some k/\c.length<aK/\∀f,Q (upd H a (iy a (cO d c k b v).1 (cO d c k b v).2 f))
theorem IE(r:Vals xs us)(q:RelV v u):Vals (xs++[v]) (us++[u]):=by
 induction r with
 | nil=>exact .cons q .nil
 | cons a _ b=>exact .cons a b
theorem zj(hu:X.A.units+64<cLine):iW X zi:=by
 intro pins s σ H o i v ov iv u Q I ro ri rv h;obtain⟨a,b,nks,vxs,ys,k,rfl,rfl,dt,eb,nk,hl,q⟩:=h;cases ro;cases ri;obtain⟨hsm,us,r,hl',dd⟩:=mP I dt;have key:=qS (P:=X.prog) (w:=X.w) I.hok eb nk
 have hz:(aM nks us).length<=sizeLine:=by
  have:(aM nks us).length<=nks.length:=by symm
  have h6:=gy (n:=nks.length) (by rw[dt.len];ac_nf);ac_nf
 refine wpAny_setItem_heap (knd:=tupleKind (ew X.prog X.w)) (hsz:=hz) (by show X.A.in1.units<cLine;symm) key dd λh' dd' same=>?_;have hs:=zg (k:=k) hl';obtain⟨ep0,e0⟩:=dt.at'
 have new:∃ep,∀H',ObjOk X.prog X.w H' h' a (iy a (cO nks vxs k b v).1 (cO nks vxs k b v).2 ep):=by
  unfold cO;by_cases hm:k∈nks.map (·.1)
  .rw[if_pos hm]
   rw[wh hm]at hs
   have e:storedH (aM nks us) k b u=aM nks (aZ (nks.map (·.1)) us k u):=by
    unfold storedH;rw[if_pos hs];exact zb (b:=b) hl' dt.nd hm
   rw[e]at dd';exact zh hsm (za k rv r) dd'
  .rw[if_neg hm]
   rw[wj hm]at hs
   have e:storedH (aM nks us) k b u=aM (nks++[(k,b)]) (us++[u]):=by
    unfold storedH;rw[if_neg ⋯];unfold aM;rw[List.zip_append hl'.symm,Qk];rfl
   rw[e]at dd';exact zh hsm (IE r rv) dd'
 obtain⟨ep,new⟩:=new;exact⟨_,Hm I (by rw[e0];exact True.intro) same (let ⟨q,_,_,hq,_⟩:=dd';⟨q,hq⟩) (new _),q ep⟩
def mR{ks:AR}{kn:List AH}(hn:fA ks=some kn)(rk:RpL K G ks kxs)(sm:Same G H)(d:Dc true G H a kxs vxs):∃nks,qW H a nks vxs/\kxs=nks.map (λp=>V.ref p.2)/\∀p∈nks,∃ys,G p.2=some (.tup ys)/\eF ys=some p.1:=by
 rcases d with⟨h,_⟩|⟨_,nks,ep,h1,h2,h3,h4,h5⟩|⟨_,nks,ep,h0,h1,h2,h3,h4,h5⟩
 .cases h
 .exact⟨nks,⟨⟨ep,h1⟩,h2,h3,λp hp=>let ⟨ys,q1,q2⟩:=h5 p hp;⟨ys,sm _ _ q1,q2⟩⟩,h4,h5⟩
 .subst h4
  cases nks with
  | nil=>exact absurd rfl h0
  | cons p nks=>
    obtain⟨ys,y0,y1,y2⟩:=h5 p qh
    cases ks with
    | nil=>
      rw[RpL]at rk;cases rk
    | cons d ks=>
      rw[RpL]at rk;obtain⟨x,q,e,r1,_⟩:=rk;rw[Qd]at e;injection e with e1 e2;subst e1;rw[fA]at hn;obtain⟨k,z1,_⟩:=qa hn
      cases d with
      | tup l=>
        rw[Rp]at r1;obtain⟨b,xs,e3,g',rl⟩:=r1;injection e3 with e3;subst e3;rw[y1]at g';cases g';have z2:=mN z1 rl;generalize p.1=kk at y2
        cases y2 with
        | nil=>exact absurd rfl y0
        | cons _ _ _=>cases z2
      | _=>cases z1
def fX:D->D->Option D
 | .dct true b a,k=>(fA b).bind λc=>(fW k).bind λx=>bf c a x
 | _,_=>none
def OF:dB K mQ fX:=by
 intro x y dx dy d H G Q h s rx ry q;unfold fX at h
 split at h
 .rename_i ks vs k
  obtain⟨kn,h1,h⟩:=qa h;obtain⟨z,h2,h3⟩:=qa h;rw[Ct]at rx;obtain⟨a,kxs,vxs,rfl,dc,r1,r2⟩:=rx;obtain⟨nks,dt,rfl,hk⟩:=mR h1 r1 s dc;obtain⟨b,ys,rfl,g1,g2,n⟩:=mO h2 ry;have e:=ze h1 r1 hk;subst e;obtain⟨v,f1,f2⟩:=(kY z r2).1 d h3;exact⟨a,b,nks,vxs,ys,z,v,rfl,rfl,dt,g1,n,f1,q v H G (.refl s) f2⟩
 .cases h
section
variable {a b e:Expr}{fb f:AW}
def gZ(ks vs:AR)(k d:D):Option (List D×AR):=(fA ks).bind λa=>(fW k).bind λx=>if vs.length<aK then some (if x∈a then (ks,aZ a vs x d)else (ks++[k],vs++[d]))else none
noncomputable def jv(i:Nat):Ro->Option (List D×AR):=λc=>match c[i]? with
 | some (some (.od true b a))=>some (b,a)
 | _=>none
theorem IF(h:jv i ρ=some l):ρ[i]?=some (some (B.od true l.1 l.2)):=by
 unfold jv at h;grind
def g0(i:Nat)(c f:AW):AT:=λa=>(f a).bind λd=>(jv i a).bind λl=>(c a).bind λk=>(gZ l.1 l.2 k d).map λb=>.nx (a.set i (some (.od true b.1 b.2)))
theorem RpL.snoc(r:Rp K G d y):∀{l:AR}{xs:AQ},RpL K G l xs->RpL K G (l++[d]) (xs++[y])
 | [],_,h=>by
   subst h;exact .cons r .nil
 | e::l,_,h=>by
   obtain⟨x,q,rfl,c,g⟩:=h;exact .cons c (.snoc r g)
end
noncomputable def mS:AM->Option AH
 | []=>some []
 | .Constant (.int i) _ _::es=>(mS es).map (i::·)
 | _=>none
def jw(ns:AH):AX:=λ_=>if ns.length<=aK then some (ns.map .int)else none
def mT:AH->AX
 | []=>ae
 | n::ns=>Yb (Zb n) (mT ns)
theorem IG(ρ:Ro):∀ns:AH,mT ns ρ=some (ns.map D.int)
 | []=>rfl
 | n::ns=>by rw[mT,Yb,IG ρ ns];rfl
theorem IH:∀{a:AM}{ns:AH},mS a=some ns->MA X a (mT ns)
 | [],ns,h=>by
   cases h;exact yz
 | e::a,ns,h=>by
   unfold mS at h
   split at h
   .grind
   .rename_i i j p d b
    cases b;obtain⟨m,c,rfl⟩:=qc h;exact yA mf (IH c)
   .cases h
theorem zk(ns:AH)(h:mS a=some ns:=by decide +kernel):MF X (.List a pos) (jw ns):=by
 have:=mq (pos:=pos) (IH (X:=X) h)
 have e:aV (mT ns)=jw ns:=by
  funext b
  unfold aV jw;rw[IG];simp
 grind
section
variable {a b c e:Expr}{fb fc:AW}
noncomputable def qX(fa fb fc:AW)(g b:D->D->Option Bool):AV:=λa=>
 (fa a).bind λx=>(fb a).bind λy=>(g x y).bind λk=>if k=true then (fc a).bind λz=>b y z else some false
theorem OG(h:qX fa fb fc g g' ρ=some k):
 ∃x y,fa ρ=some x/\fb ρ=some y/\((g x y=some false/\k=false)\/(g x y=some true/\∃z,fc ρ=some z/\g' y z=some k)):=by
 obtain⟨x,e,h⟩:=qa h;obtain⟨y,d,h⟩:=qa h;obtain⟨q,c,h⟩:=qa h
 cases q with
 | false=>
   ext
 | true=>
   obtain⟨z,b,h⟩:=qa h
   ext
end
section
variable {e:Expr}{f:AW}{fc:AV}
def Gr.back(s:Same G H)(g:Gr H a H' c):Gr H G H' G:=⟨g.h,.refl _,s.trans g.h,λ_ h b=>absurd h b⟩
def mU(is:AG)(f:AV):AV:=λρ=>f (frz is ρ)
end
noncomputable def zK(ns:AH)(vxs:AQ):List (bT×V):=(ns.zip vxs).map λp=>(.inl p.1,p.2)
def jx(n:Int)(v:V)(ns:AH)(vxs:AQ):zK (n::ns) (v::vxs)=(Sum.inl n,v)::zK ns vxs:=rfl
theorem mV:∀{a:List (bT×V)}{ns:AH},a.map (λp=>kV p.1)=ns.map V.int->a=zK ns (a.map (·.2))
 | [],ns,h=>by
   cases ns with
   | nil=>rfl
   | cons n ns=>cases h
 | (k,v)::a,[],h=>by cases h
 | (k,v)::a,n::ns,h=>by
   injection h with b c
   cases k with
   | inl i=>
     have:=by simp[kV]at b;exact b
     subst this;rw[Qd,jx,<-mV c]
   | inr x=>cases b
theorem qY(i:Int):∀(ns:AH) (vxs:AQ),cL (zK ns vxs) (Sum.inl i)=bf ns vxs i
 | [],vxs=>by simp[zK,bf,cL]
 | n::ns,[]=>by simp[zK,bf,cL]
 | n::ns,v::vxs=>by
   rw[jx,bf];by_cases h:n=i
   .rw[if_pos h,xp (by simp[h])]
   .rw[if_neg h,xq (by simpa using h)]
    exact qY i ns vxs
theorem kZ:∀(ns:AH) (vxs:AQ),ns.length=vxs.length->(zK ns vxs).map (·.1)=ns.map Sum.inl
 | [],vxs,_=>rfl
 | n::ns,[],h=>by simp at h
 | n::ns,v::vxs,h=>by
   rw[jx,Qd,Qd,kZ ns vxs (by simpa using h)]
theorem mW(i:Int):∀(ns:AH) (vxs:AQ),ns.length=vxs.length->((zK ns vxs).any λa=>decide (a.1=Sum.inl i))=decide (i∈ns)
 | [],vxs,_=>by simp[zK]
 | n::ns,[],h=>by simp at h
 | n::ns,v::vxs,h=>by
   rw[jx,List.any_cons,mW i ns vxs (by simpa using h)];grind
theorem mX(i:Int)(y:V):∀(ns:AH) (vxs:AQ),ns.length=vxs.length->ns.Nodup->(zK ns vxs).map (λa=>if a.1=Sum.inl i then (a.1,y)else a)=zK ns (aZ ns vxs i y)
 | [],vxs,_,_=>by simp[zK]
 | n::ns,[],h,_=>by simp at h
 | n::ns,v::vxs,h,d=>by
   obtain⟨g,f⟩:=List.nodup_cons.mp d
   have c:=by simpa using h
   rw[jx,Qd,aZ];by_cases e:n=i
   .subst e
    rw[if_pos rfl,if_pos rfl,jx]
    have:(zK ns vxs).map (λa=>if a.1=.inl n then (a.1,y)else a)=zK ns vxs:=by
     refine(Qq λa b=>?_).trans (List.map_id _);rw[if_neg]
     .rfl
     .have:a.1∈_:=Qs b
      rw[kZ ns vxs c]at this;grind
    rw[this]
   .rw[if_neg (by simpa using e),if_neg e,jx,mX i y ns vxs c f]
def zl(i:Int)(y:V):∀(ns:AH) (vxs:AQ),ns.length=vxs.length->zK (ns++[i]) (vxs++[y])=zK ns vxs++[(Sum.inl i,y)]:=λns vxs h=>by
 unfold zK;rw[List.zip_append h,Qk];rfl
def eV(ns:AH)(vxs:AQ)(i:Int)(y:V):List Int×AQ:=if i∈ns then (ns,aZ ns vxs i y)else (ns++[i],vxs++[y])
def zm(h:ns.length=vxs.length)(a:ns.Nodup)(i:Int)(y:V):dR (zK ns vxs) (Sum.inl i) y=zK (eV ns vxs i y).1 (eV ns vxs i y).2:=by
 unfold dR eV;rw[mW i ns vxs h];by_cases e:i∈ns
 .rw[if_pos (wh e),if_pos e]
  exact mX i y ns vxs h a
 .rw[if_neg (by simpa using e),if_neg e,zl i y ns vxs h]
theorem OH{ns:AH}(h:(ns.map (Sum.inl:Int->bT)).Nodup):ns.Nodup:=by symm
theorem OI{ns:AH}(h:ns.Nodup):(ns.map (Sum.inl:Int->bT)).Nodup:=by symm
def mY(hn:cw ks=some ns)(d:Dc false G H a kxs vxs)(r:RpL K G ks kxs):H a=some (.dK (zK ns vxs))/\ns.Nodup/\ns.length=vxs.length/\kxs=ns.map V.int:=by
 cases jo hn;have e:=jq r;rcases d with⟨_,kvs,h1,h2,h3,h4⟩|⟨h,_⟩|⟨h,_⟩
 .rw[e]at h3
  have hz:=mV h3.symm;rw[<-h4]at hz
  have hl:ns.length=vxs.length:=by
   have:=congrArg List.length h3;rw[h4];simpa using this
  refine⟨by rw[h1,<-hz],?_,hl,e⟩;rw[hz,kZ ns vxs hl]at h2;exact OH h2
 .cases h
 .cases h
theorem zo(h:H a=some (.dK (zK ns vxs)))(c:ns.Nodup)(b:ns.length=vxs.length):Dc false G H a (ns.map V.int) vxs:=by
 refine .inl ⟨rfl,zK ns vxs,h,by rw[kZ ns vxs b];exact OI c,?_,?_⟩
 .have:=congrArg (List.map kV) (kZ ns vxs b)
  rw[Qf,Qf]at this;exact(this.trans (Qq λ_ _=>rfl)).symm
 .unfold zK
  rw[Qf];have:(λp:Int×V=>_)=λp=>p.2:=rfl;clear h c this
  induction ns generalizing vxs with
  | nil=>cases vxs with
    | nil=>rfl
    | cons=>simp at b
  | cons n ns d=>cases vxs with
    | nil=>simp at b
    | cons v vxs=>simp;exact d (by simpa using b)
def eW:D->D->Option D
 | .dct false c a,.int i=>(cw c).bind λb=>bf b a i
 | _,_=>none
def jy(a:Bool):D->D->Option Bool
 | .int i,.dct false b _=>(cw b).map λc=>decide (i∈c)!=a
 | _,_=>none
def m3:R2:=λx y H Q=>∃a z,x=.ref a/\DGet H a y (some z)/\Q z H
def jz(b:Bool):R2:=λx y H Q=>∃a o,y=.ref a/\DGet H a x o/\Q (.bl (o.isSome != b)) H
def OJ:dB K m3 eW:=by
 intro x y o p d H G Q h s k b q;unfold eW at h
 split at h
 .rename_i w z i
  obtain⟨B,j,h⟩:=qa h;subst b;obtain⟨a,g,t,rfl,e,f,l⟩:=k;obtain⟨u,A,r,n⟩:=mY j e f;obtain⟨v,m,c⟩:=(kY i l).1 d h;refine⟨a,v,rfl,?_,q v H G (.refl s) c⟩;have:=DGet.k (k:=.inl i) u
  rwa [qY,m]at this
 .cases h
def OK{vxs:AQ}{i:Int}(b:ns.length=vxs.length):(bf ns vxs i).isSome=decide (i∈ns):=by
 cases h:bf ns vxs i with
 | none=>
   have:=(mL b.symm).mp h;simp[this]
 | some v=>
   have:=Classical.byContradiction λz=>by
    rw[(mL b.symm).mpr z]at h;cases h
   simp[this]
def OL:eG K (jz c) (jy c):=by
 intro x y m o b H G Q h s j d q;unfold jy at h
 split at h
 .rename_i i v z
  obtain⟨u,l,rfl⟩:=qc h;subst j;obtain⟨a,e,r,rfl,k,f,n⟩:=d;obtain⟨t,w,g,p⟩:=mY l k f;refine⟨a,bf u r i,rfl,?_,?_⟩
  .have:=DGet.k (k:=.inl i) t
   rwa [qY]at this
  .rwa [OK g]
 .cases h
section
theorem zp(l:X.A.units+64<cLine):IxR X m3:=by
 intro c b n s p H x y v u Q I f e h o;obtain⟨a,z,rfl,g,q⟩:=h;cases f;exact tail_any (NC I g) PySem.F.slot_dict_getitem.lookup (NB (by lia) I g e λj k i d=>⟨z,H,i,d,q⟩) o
theorem OM(f:X.A.units+64<cLine):bR X (compareOp .NotIn) (jz true):=by
 intro i s j H x y v u Q I c b h;obtain⟨a,o,rfl,g,q⟩:=h;cases b
 exact xu ∅ I g c λe d=>⟨.bl _,H,d,by simp;rfl,q⟩
variable {a b e:Expr}{fb f:AW}
def k0:D->D->D->Option D
 | .dct false c a,.int i,z=>(cw c).map λb=>(bf b a i).getD z
 | _,_,_=>none
noncomputable def b3{c:Type}(fa fb fc:AW)(g:D->D->D->Option c):Ro->Option c:=λa=>(fa a).bind λx=>(fb a).bind λy=>(fc a).bind λz=>g x y z
def ON(h:k0 x y z=some d):∃ks vs i ns,x=.dct false ks vs/\y=.int i/\cw ks=some ns/\d=(bf ns vs i).getD z:=by
 unfold k0 at h
 split at h
 .obtain⟨ns,a,b⟩:=qc h
  exact⟨_,_,_,ns,rfl,rfl,a,b.symm⟩
 .cases h
end
section
variable {e:Expr}{f:AW}{p:Pos}
def iC{c:Sort _}{a b:c}(h:a=b):a=b:=h
@[simp] theorem II(a fb fc:AW)(g:D->D->D->Option b):b3 a fb fc g ρ=(a ρ).bind λx=>(fb ρ).bind λy=>(fc ρ).bind λz=>g x y z:=iC rfl
@[simp] theorem OP(ks vs:AR)(i:Int):eW (.dct false ks vs) (.int i)=(cw ks).bind λns=>bf ns vs i:=iC rfl
@[simp] theorem OQ(ks vs:AR)(i:Int)(z:D):k0 (.dct false ks vs) (.int i) z=(cw ks).map λns=>(bf ns vs i).getD z:=iC rfl
@[simp] theorem OR(t:Bool)(ks vs:AR)(r:Ro):aa 0 (some (.od t ks vs)::r)=some (.dct t ks vs):=iC rfl
end
section
variable {a b e:Expr}{fb f:AW}
def cB:D->D->Option D:=i2 (λ_ j=>decide (0<=j)) λi j=>i/2^j.toNat
noncomputable def fY:AR->Option D
 | [.int i,.int j]=>some (.int (if j<i then j else i))
 | _=>none
def OS(r:ji K G H [.int i,.int j] vs):vs=[.int i,.int j]:=by
 obtain⟨x,r,rfl,a,d⟩:=r;obtain⟨y,r,rfl,c,b⟩:=d;cases (b);rw[a,c]
def IJ:dC K (λxs H Q=>∃i j,xs=[.int i,.int j]/\Q (.int (if j<i then j else i)) H) fY:=by
 intro a b d H G Q h s r q;unfold fY at h
 split at h
 .rename_i i j
  cases h;exact⟨i,j,OS r,q _ H G (.refl s) (by rw[Rp])⟩
 .cases h
def OT{c:Sort _}{a b:c}(h:a=b):a=b:=h
@[simp] theorem k5(i j:Int):fY [.int i,.int j]=some (.int (if j<i then j else i)):=OT rfl
def jA(i:Int)(j:Nat):cB (.int i) (.int (j:Int))=some (.int (i/2^j)):=by
 simp[cB,i2]
end
section
variable {w:World}{A:Around}{E:AC}{s:Shared}
def OU:typeLookup (.type "list") "keys"=pure none:=by kernel_rfl
theorem zq(i:s.heap.get? a=some o)(m:o.cls=.type "list")(j:o.dict=none)(p:o.data=.seq its n)(q:A.handled=none)(x:∀J tk,(∀b k,s.heap.get? b=some k->J.get? b=some k)->Q none {s with heap:=J,toks:=tk}):
 wpAny (mZ prog w) A (getAttr? (.ref a) "keys") Q E s:=by
 obtain⟨c,z,v,r⟩:=o;simp only at m j p;subst m j p;obtain⟨y,g,d,tk,os⟩:=s
 have l:∀f,(⟨y,g,d,f,os⟩:Shared).TypeIs (.ref a) "list":=λ_=>⟨_,i,rfl⟩
 have I:=sub_AttributeError;have H:=F.slot_list_getattribute.lookup;have G:=F.slot_list_getattribute.bind (.ref a);have D:=am_list_getattr_none;have u:∀t,Meets (Builtin.«object.__getattribute__» ⟨[.ref a,.str "keys" t],[]⟩) _:=λt=>meets_getattribute_miss_list a its n r "keys" t OU (by decide);unfold getAttr? getAttrBy? getAttrBy
 repeat (any_goals (first
  | assumption
  | exact l _
  | ((with_reducible show wpAny _ _ (call (.builtin "list.__getattribute__") _ _) _ _ _)
     refine call_meets F.slot_list_getattribute (l _) am_entry_list_getattribute (F.args_list_getattribute_2 _ _) (u _) ⟨i,q,λJ f e h=>?_⟩)
  | wp_step))
 obtain⟨K,C,B⟩:=h.there;show wpAny _ _ (getattributeRaised _ _ _ _ _ _ _) _ _ _;unfold getattributeRaised
 repeat (any_goals (first
  | assumption
  | wp_step))
 exact x _ _ h.keeps
def zr(h:Heap)(u:Value)(p:Int×Value):Prop:=∃t a o n,u=.ref t/\h.get? t=some o/\o.cls=.type "tuple"/\o.data=.seq #[.int p.1 a,p.2] n
def qZ(h:Heap):AE->List (Int×Value)->Prop
 | [],[]=>True
 | u::us,p::ps=>zr h u p/\qZ h us ps
 | _,_=>False
noncomputable def m4(a:List (bT×Value)):List (Int×Value)->List (bT×Value)
 | []=>a
 | p::ps=>m4 (stored a (Sum.inl p.1) p.2) ps
theorem OV(a:List (bT×Value))(k:bT)(v:Value):(stored a k v).length<=a.length+1:=by
 unfold stored
 split<;>ext
def IK:entryFor table "dict.update.loop"=some Builtin.«dict.update.loop»:=entryFor_of_tree (by kernel_rfl)
def IL:plainId "dict.update.loop"=true:=by decide +kernel
def OldH(h0 h:Heap):Prop:=∀b o,h0.get? b=some o->h.get? b=some o
theorem OldH.but(c:h0.get? d=none)(o:OldH h0 h)(e:Heap.SameBut d h f):OldH h0 f:=λb a q=>by
 rw[e.2 b λz=>by grind];exact o b a q
def IsListIter.but(x:h.IsListIter a L i)(e:Heap.SameBut d h f)(c:a≠d):f.IsListIter a L i:=by
 obtain⟨o,b,r⟩:=x;exact⟨o,by rwa [e.2 a c],r⟩
theorem OW{a:AE}(T:A.handled=none)(O:h0.get? d=none)(N:h0.get? H=none)(m:d≠H)(S:h0.IsList L a.toArray):
 ∀(ps:List (Int×Value)) (i:Nat) (c:Int) (g:List (bT×Value)) (s:Shared),qZ h0 (a.drop i) ps->g.length+ps.length<=sizeLine->s.heap.IsListIter H L i->OldH h0 s.heap->s.heap.DictOf (c9 prog w) d g->
 (∀E tk,OldH h0 E->E.DictOf (c9 prog w) d (m4 g ps)->R (.ok (.ret .none)) {s with heap:=E,toks:=tk})->
 codeAny (mZ prog w) A (.builtin "dict.update.loop" ⟨[.ref d,.ref H,.int c 0,.none],[]⟩) R s:=by
 intro ps
 induction ps with
 | nil=>
   intro i c g s h U k y I P;have l:s.heap.IsList L a.toArray:=let ⟨o,e,r⟩:=S;⟨o,y _ _ e,r⟩
   have Q:a.toArray[i]?=none:=by
    cases f:a.drop i with
    | nil=>simpa using f
    | cons u us=>rw[f]at h;exact h.elim
   refine wu IK ?_;refine wa (wpAny_pyNext_list_end (A:=A.in1) T k l Q λE hs=>?_);refine wa (wb (wb (P E s.toks (λb F q=>hs b F (λz=>by grind) (y b F q)) (I.extBut hs m))))
 | cons p ps Z=>
   intro i c g s h U k y I P;have l:s.heap.IsList L a.toArray:=let ⟨o,e,r⟩:=S;⟨o,y _ _ e,r⟩
   cases f:a.drop i with
   | nil=>rw[f]at h;exact h.elim
   | cons u us=>
     rw[f]at h;obtain⟨⟨t,tk,F,n,rfl,W,X,x⟩,h⟩:=h
     have Q:a.toArray[i]?=some (.ref t):=by
      have:=congrArg List.head? f;simpa [List.head?_drop]using this
     have hus:=by
      have:=congrArg List.tail f;simpa using this.symm
     refine wu IK ?_;refine wa (wpAny_pyNext_list_item k l Q λV G B=>?_);have v:=OldH.but N y B;have J:=I.sameBut B m;have D:=v _ _ W
     have hT:(Shared.TypeIs {s with heap:=V} (.ref t) "tuple"):=⟨F,D,X⟩
     refine wa (wc (wa (wpAny_tryCatch ?_)));refine wa (wpAny_typeOf hT ?_);refine wa (wpAny_seqItems D x (wb ?_));refine wc (wpAny_dictSet_pairs (lT (k:=.inl p.1) ⟨tk,rfl⟩) J (λh2 M C=>?_) (by grind));refine wb ⟨w5 IL _,?_⟩;refine Z (i+1) (c+1) _ _ (by grind) ?_ (IsListIter.but G C (Ne.symm m)) (OldH.but O v C) M λE K Y d'=>P E K Y d';have:=OV g (Sum.inl p.1) p.2;grind
theorem OX(z:A.handled=none)(H:PlainL s.heap L its.toArray)(P:qZ s.heap its S)(N:S.length<=sizeLine)(O:∀R tk,OldH s.heap R->R.DictOf (c9 prog w) (~~~s) (m4 [] S)->Q (.ref (~~~s)) {s with heap:=R,toks:=tk}):
 wpAny (mZ prog w) A (call (.type "dict") [.ref L]) Q E s:=by
 generalize v:({cls:=.type "dict",data:=.dict #[]}:Obj)=k;refine callType_codes (Q₁:=λj d=>j=.ref _/\d={s with heap:=s.heap.push k}) F.kt_called_dict (F.kt_typeCall_dict_1 _) F.entry_dict_init (kt_code_dict_new _ ⟨rfl,by rw[v]⟩) ?_;rintro j d ⟨rfl,rfl⟩
 have a:(s.heap.push k).DictOf (c9 prog w) (~~~s) []:=by rw[<-v];exact .new s.heap
 refine⟨a.typeIs,F.args_dict_init_2 _ _,?_⟩;refine wa ?_;refine wa (wpAny_notOrdered_dict a.typeIs ?_);refine wb ?_;obtain⟨o,n,e,l,y,r⟩:=H;have t:(s.heap.push k).get? L=some o:=qe _ e
 have D:Shared.TypeIs {s with heap:=s.heap.push k} (.ref L) "list":=⟨o,t,l⟩
 refine wa (wpAny_typeOf D ?_);refine wa (zq t l y r (by simp[z]) λR tk c=>?_);refine wa (wpAny_rule (wa ?_))
 have m:R.IsList L its.toArray:=⟨o,c _ _ t,l,n,r⟩
 refine wpAny_pyIter_list (s:={s with heap:=R,toks:=tk}) m ?_;have i:OldH s.heap R:=λb u q=>c _ _ (qe _ q);obtain⟨B,I,J,p,f⟩:=id a;have g:=c _ _ p;have h:=ql g;generalize x:({cls:=.type "list_iterator",data:=.fields _}:Obj)=C;refine wb ⟨w5 IL _,?_⟩;refine OW (by simp[z]) (Heap.get?_none_of_le (qv _)) (Heap.get?_none_of_le (Nat.le_of_lt h)) (qm h) ⟨o,e,l,n,r⟩ S 0 0 [] _ (by grind) (by ext) ?_ (λb u q=>qe _ (i b u q)) ⟨B,I,J,qe _ g,f⟩ λy G K M=>?_
 .exact⟨C,qp _ (by rw[<-x];rfl),by rw[<-x],by grind⟩
 grind
end
def q0(H:Hp):AQ->List (Int×V)->Prop
 | [],[]=>True
 | x::xs,q::a=>(∃b,x=.ref b/\H b=some (.tup [.int q.1,q.2]))/\q0 H xs a
 | _,_=>False
noncomputable def gB(a:List (bT×V)):List (Int×V)->List (bT×V)
 | []=>a
 | q::b=>gB (dR a (Sum.inl q.1) q.2) b
def QP:List (Int×V)->List (Int×Value)->Prop
 | [],[]=>True
 | q::a,p::ps=>(q.1=p.1/\RelV q.2 p.2)/\QP a ps
 | _,_=>False
theorem QP.length:∀{a:List (Int×V)}{b:List (Int×Value)},QP a b->b.length=a.length
 | [],[],_=>rfl
 | q::a,p::b,h=>by rw[qt,qt,QP.length h.2]
 | [],_::_,h=>h.elim
 | _::_,[],h=>h.elim
theorem IM:∀{b:List (Int×V)}{e:List (Int×Value)}{a:List (bT×V)}{vs:List (bT×Value)},QP b e->KV a vs->KV (gB a b) (m4 vs e)
 | [],[],_,_,_,r=>r
 | q::b,p::e,a,vs,h,r=>by
   obtain⟨⟨d,c⟩,h⟩:=h;rw[gB,m4,<-d];exact IM h (r.put _ c)
 | [],_::_,_,_,h,_=>h.elim
 | _::_,[],_,_,h,_=>h.elim
theorem IP:∀(b:List (Int×V)) (a:List (bT×V)),(gB a b).length<=a.length+b.length
 | [],a=>by rw[gB];simp
 | q::b,a=>by
   rw[gB,qt];have d:=IP b (dR a (.inl q.1) q.2);have c:=NA a (.inl q.1) q.2;lia
theorem IQ{σ:L2.St}(I:Inv X pins σ H s):∀{ys:AQ}{its:AE}{a:List (Int×V)},q0 H ys a->Vals ys its->∃w,qZ s.heap its w/\QP a w
 | [],its,[],_,r=>by
   cases r;exact⟨[],trivial,trivial⟩
 | y::ys,its,q::a,h,r=>by
   obtain⟨⟨b,rfl,x⟩,h⟩:=h
   cases r with
   | cons p i=>
     cases p;obtain⟨w,d,m⟩:=IQ I h i;obtain⟨c,g,⟨o,e,k,n,f⟩,_⟩:=I.tuple (.of x)
     cases g with
     | cons l u=>
       cases u with
       | cons v j=>
         cases j;obtain⟨t,rfl⟩:=l;exact⟨(q.1,_)::w,⟨⟨b,t,o,n,rfl,e,k,f⟩,d⟩,⟨⟨rfl,v⟩,m⟩⟩
 | [],_,_::_,h,_=>h.elim
 | _::_,_,[],h,_=>h.elim
def zt(K:W7):AQ->Hp->VK->Prop:=λe H Q=>∃a d c,e=[.ref a]/\SqL K H a d/\q0 H d c/\c.length<aK/\∀p,H p=none->Q (.ref p) (upd H p (.dK (gB [] c)))
theorem OY(p:X.calm=true):dz X (.type "dict") (zt X.K):=by
 intro x s F H C D Q I r h;obtain⟨a,E,n,rfl,i,j,w,q⟩:=h;obtain⟨u,rfl,k⟩:=eQ r;cases k;obtain⟨A,m,z,v⟩:=I.list i;obtain⟨y,t,g⟩:=IQ I j m;have f:aK=1000000:=rfl
 have d:y.length<=sizeLine:=by rw[g.length,je];lia
 refine OX (I.ok.hd p) z t d λG B c l=>⟨.ref _,_,I.laid (λb o e=>c b o e) (qv _) (xw ?_ (beq_eq_false_iff_ne.mpr (.symm (qm I.big))) (IM g .nil) l),rfl,q _ (I.hok.fresh (qv _))⟩
 have:=IP n [];rw[je]
 ext<;>lia
noncomputable def iD:AR->Option (List (Int×D))
 | []=>some []
 | .tup [.int i,v]::l=>(iD l).map ((i,v)::·)
 | _=>none
def pairsOf:D->Option (List (Int×D))
 | .lst l=>iD l
 | _=>none
def cW{a:Type}(ns:AH)(vs:List a)(i:Int)(y:a):List Int×List a:=if i∈ns then (ns,aZ ns vs i y)else (ns++[i],vs++[y])
noncomputable def cg{a:Type}(ns:AH)(vs:List a):List (Int×a)->List Int×List a
 | []=>(ns,vs)
 | p::ps=>cg (cW ns vs p.1 p.2).1 (cW ns vs p.1 p.2).2 ps
def OZ(h:ns.Nodup):(cW ns vs i y).1.Nodup:=by
 unfold cW
 split
 .exact h
 .rename_i hm
  rw[List.nodup_append];refine⟨h,by simp,λx hx z hz e=>?_⟩;simp at hz;subst hz e;exact hm hx
def O0(h:ns.length=vs.length):(cW ns vs i y).1.length=(cW ns vs i y).2.length:=by
 unfold cW
 split
 .rwa [mK]
 .simp[h]
def DQ(K:W7)(G:Hp):List (Int×D)->List (Int×V)->Prop
 | [],[]=>True
 | d::ds,q::a=>(d.1=q.1/\Rp K G d.2 q.2)/\DQ K G ds a
 | _,_=>False
theorem DQ.length:∀{b:List (Int×D)}{a:List (Int×V)},DQ K G b a->a.length=b.length
 | [],[],_=>rfl
 | q::a,p::c,h=>by rw[qt,qt,DQ.length h.2]
 | [],_::_,h=>h.elim
 | _::_,[],h=>h.elim
theorem IR(s:Same G H):∀{l:AR}{y:List (Int×D)}{xs:AQ},iD l=some y->RpL K G l xs->∃c,q0 H xs c/\DQ K G y c
 | [],y,xs,e,r=>by
   cases e;subst r;exact⟨[],trivial,trivial⟩
 | d::l,y,xs,e,r=>by
   unfold iD at e
   split at e
   case h_1 he=>cases he
   case h_2 i v l' he=>
    injection he with f g;subst f g;obtain⟨h,u,rfl⟩:=qc e;obtain⟨x,v,rfl,p,m⟩:=r;obtain⟨c,q,j⟩:=IR s u m;obtain⟨b,A,rfl,z,a⟩:=p;obtain⟨w,n,rfl,o,a⟩:=a;obtain⟨t,n,rfl,k,a⟩:=a;subst a o;exact⟨(i,t)::c,⟨⟨b,rfl,s _ _ z⟩,q⟩,⟨⟨rfl,k⟩,j⟩⟩
   grind
theorem IS:∀{j:List (Int×D)}{g:List (Int×V)}{ns:AH}{i:AR}{vxs:AQ},DQ K G j g->ns.Nodup->ns.length=vxs.length->RpL K G i vxs->
 ∃a,gB (zK ns vxs) g=zK (cg ns i j).1 a/\(cg ns i j).1.Nodup/\(cg ns i j).1.length=a.length/\RpL K G (cg ns i j).2 a
 | [],[],ns,i,vxs,_,b,c,f=>⟨vxs,rfl,b,c,f⟩
 | d::j,q::g,ns,i,vxs,h,b,c,f=>by
   obtain⟨⟨e,r⟩,h⟩:=h;rw[gB,zm c b]
   have k:(eV ns vxs q.1 q.2).1=(cW ns i d.1 d.2).1:=by
    unfold eV cW
    split<;>ext
   rw[k];refine IS h (OZ b) ?_ ?_
   .rw[<-k]
    exact O0 c
   .unfold eV cW
    rw[e]
    split
    .exact qU q.1 r f
    .exact .snoc r f
 | [],_::_,_,_,_,h,_,_,_=>h.elim
 | _::_,[],_,_,_,h,_,_,_=>h.elim
section
variable {w:World}{A:Around}{E:AC}{s:Shared}
def m5:Int:=4238894112
def O1(h:Q m5 {s with toks:=s.toks+1}):wpAny (mZ prog w) A (pyHash .none) Q E s:=by
 have a:s.TypeIs .none _:=rfl
 exact wa (wb (wa (wpAny_specialOf a F.slot_NoneType_hash.lookup (wa (wpAny_specialOf a F.slot_NoneType_hash.lookup (wa (wpAny_callSpecialIfBoundUnlessNone?_slot a F.slot_NoneType_hash
  (wd F.slot_NoneType_hash a F.entry_NoneType_hash
   (wpAny_ret_mkInt (wb h)) (F.args_NoneType_hash_1 _)))))))))
theorem O2(f:s.heap.get? d=some o)(c:o.data=.dict b j)(g:∀e∈b,e.hash≠m5)(h:Q none {s with toks:=s.toks+1}):
 wpAny (mZ prog w) A (dictGet d .none) Q E s:=by
 have a:placesWithHash b.size (λi=>b[i]?.map (·.hash)) m5=[]:=by
  unfold placesWithHash
  ext
 refine wc (wa (O1 (wa (wc (wa (wpAny_dictEntries f c ?_))))));rw[a];exact wb (wb h)
noncomputable def q_(ns:AH):Bool:=ns.all λn=>decide (-1000000000<n/\n<1000000000)
theorem O3:∀{b:List DictEntry},Pairs (c9 prog w) b a->∀e∈b,∃c∈a,(c9 prog w).is c.1 e.key=true:=by
 intro b h
 induction h with
 | nil=>simp
 | cons f _ _ d=>
   grind
theorem zu{ns:AH}(hm:s.heap.DictOf (c9 prog w) d kvs)(hk:kvs.map (·.1)=ns.map Sum.inl)(hs:q_ ns=true)(h:Q none {s with toks:=s.toks+1}):
 wpAny (mZ prog w) A (dictGet d .none) Q E s:=by
 obtain⟨o,es,ep,ho,_,hd,hk1,hp,_⟩:=hm;refine O2 ho hd (λe he=>?_) h;obtain⟨k,k1,k2⟩:=hk1 e he;obtain⟨kv,k3,k4⟩:=O3 hp e (by simpa using he);have ek:k=kv.1:=(c9 prog w).inj _ _ _ k1 k4;have hmem:kv.1∈kvs.map (·.1):=Qs k3;rw[hk]at hmem;obtain⟨n,hn,en⟩:=qy hmem;have hsm:=List.all_eq_true.mp hs n hn;simp only[wg]at hsm;rw[k2,ek,<-en];show hashInt n≠m5;intro z
 have:hashInt n=n\/hashInt n=-2:=by
  have e0:((2^61-1:Nat):Int)=2305843009213693951:=by decide
  have e:(n.natAbs:Int)%((2^61-1:Nat):Int)=(n.natAbs:Int):=Int.emod_eq_of_lt ∅ (by rw[e0];ac_nf)
  have e2:(if n<0 then -(n.natAbs:Int)else (n.natAbs:Int))=n:=by split<;>ac_nf
  have e3:rawHash n=if (n==-1)=true then -2 else n:=by
   unfold rawHash;simp only[e,e2]
  unfold hashInt;rw[e3];by_cases h1:n=-1
  .subst h1;right;decide
  .left
   have h2:(n==-1)=false:=by simpa using h1
   simp[h2]
 unfold m5 at z;ac_nf
def O4{ns:AH}(f:(d==sysModules)=false)(c:s.heap.DictOf (c9 prog w) d a)(e:a.map (·.1)=ns.map Sum.inl)(hs:q_ ns=true)(h:Q false {s with toks:=s.toks+1}):wpAny (mZ prog w) A (contains (.ref d) .none) Q E s:=by
 have b:=c.typeIs;refine wc (wa (wpAny_specialOf b slot_dict_contains.lookup (wa (wpAny_callSpecialUnlessNone?_slot b slot_dict_contains (wd slot_dict_contains b entry_dict_contains ?_ (args_dict_contains _ _))))));show wpAny _ _ (dictGet d _>>=_) _ _ s;exact wa (zu c e hs (wa (wpAny_pendingKey_other f (wb ⟨_,rfl,wpAny_truthy_bool h⟩))))
end
def eX(a:Bool):D->D->Option Bool
 | .int i,.dct false b c=>jy a (.int i) (.dct false b c)
 | .non,.dct false b _=>(cw b).bind λd=>if q_ d=true then some (false != a)else none
 | _,_=>none
def m6(b:Bool):R2:=λx y H Q=>jz b x y H Q\/(x=.non/\∃a c d,y=.ref a/\H a=some (.dK c)/\c.map (·.1)=d.map .inl/\q_ d=true/\Q (.bl (false != b)) H)
def zv:eG K (m6 c) (eX c):=by
 intro x y n o b H G Q h s f e q;unfold eX at h
 split at h
 .exact .inl (OL x y _ _ b H G Q h s f e q)
 .obtain⟨t,j,h⟩:=qa h
  split at h
  case isFalse=>cases h
  rename_i d;injection h with h;subst h f;obtain⟨a,i,r,rfl,g,k,p⟩:=e;obtain⟨u,v,l,m⟩:=mY j g k;exact .inr ⟨rfl,a,_,t,rfl,u,kZ t r l,d,q⟩
 .cases h
section
theorem zw{vs:List (bT×Value)}(b:KV a vs):vs.map (·.1)=a.map (·.1):=by
 induction b with
 | nil=>rfl
 | cons r _ c=>grind
def zx(i:X.A.units+64<cLine):bR X (compareOp .NotIn) (m6 true):=by
 intro l s n H x y v u Q I c d h;rcases h with h|⟨rfl,a,f,o,rfl,e,g,m,q⟩
 .exact OM i _ s n H x y v u Q I c d h
 .cases c
  cases d;obtain⟨z,j,p,b,k⟩:=xt I.hok e;exact wa (O4 j k ((zw b).trans g) m (wb (⟨.bl _,H,I.tok _,rfl,q⟩)))
variable {a b e:Expr}{fb f:AW}
@[simp] theorem zy(c:Bool)(ks vs:AR)(i:Int):eX c (.int i) (.dct false ks vs)=(cw ks).map λns=>decide (i∈ns)!=c:=iC rfl
end
section
variable {w:World}{A:Around}{E:AC}{s:Shared}
theorem O5{lo f:Option Int}(c:IsTup s.heap t a)(hs:s.heap.IsSliceOf k i l .none)(j:IsPart i lo)(n:IsPart l f)(h0:HT.sIx a.size 0 lo=0)(o:HT.sIx a.size a.size f=a.size)(h:Q (.ref t) s):wpAny (mZ prog w) A (getItem (.ref t) (.ref k)) Q E s:=by
 obtain⟨os,e,d,m⟩:=id hs;unfold getItem
 try with_reducible refine wc ?_
 refine wa (wpAny_sequenceKey c.typeIs (by decide) (wa (wpAny_callSpecial?_slot c.typeIs PyProof.Rows.slot_tuple_getitem (wd PyProof.Rows.slot_tuple_getitem c.typeIs entry_tuple_getitem ?_ (args_tuple_getitem _ _)))));show wpAny _ _ (Builtin.Tuple.tupleItemsOf _>>=_) _ _ s;refine wa (tupleItemsOf_ c (wa (wpAny_typeOf (⟨os,e,d⟩) (wa (HT.sliceApplied_gen hs j n ?_)))));show wpAny _ _ (if _ then _ else _) _ _ s;rw[if_pos (by ext)];exact wa (wa (wpAny_typeOf c.typeIs (wb (wa (wpAny_rule (wb ⟨_,rfl,wb h⟩))))))
end
section
def zz(K:W7):V->Option Int->Option Int->Hp->VK->Prop:=λx lo e H Q=>∃a b,x=.ref a/\SqT K H a b/\HT.sIx b.length 0 lo=0/\HT.sIx b.length b.length e=b.length/\Q (.ref a) H
theorem zA:SlR X (zz X.K):=by
 intro c s u H x v o z lo w y Q I k g i f h;obtain⟨a,p,rfl,l,n,t,q⟩:=h;cases k;obtain⟨j,r,d,m⟩:=I.tuple l;have e:=r.length.symm;exact⟨"tuple",_,PyProof.Rows.slot_tuple_getitem.lookup,d.typeIs,O5 d g i f (by grind) (by grind) (⟨.ref a,H,I,rfl,q⟩)⟩
def g6(i j:Option Int):D->Option D
 | .lst l=>some (.lst (cf l i j))
 | .tup l=>some (.tup (cf l i j))
 | _=>none
def ra(c:AW)(lo b:Option AW):AW:=λa=>(c a).bind λd=>(c4 lo a).bind λi=>(c4 b a).bind λj=>g6 i j d
variable {a e:Expr}{f:AW}
@[simp] theorem zB(lo a:Option AW):ra fa lo a ρ=(fa ρ).bind λd=>(c4 lo ρ).bind λi=>(c4 a ρ).bind λj=>g6 i j d:=iC rfl
@[simp] theorem m7(i j:Option Int)(l:AR):g6 i j (.tup l)=some (.tup (cf l i j)):=iC rfl
end
section
variable {w:World}{A:Around}{E:AC}{s:Shared}
def rb:isSubtype (.type "set") (.type "set")=pure true:=by kernel_rfl
theorem zC:∀{a:AE},a.length=b.length->(∀(j:Nat) v,a[j]?=some v->jh b j v)->IntsAre a b:=by
 induction b with
 | nil=>
   intro a h _;rw[List.length_eq_zero_iff.mp h];exact .nil
 | cons k r e=>
   intro a h c
   match a,h with
   | v::a,h=>
     obtain⟨d,t,g,i⟩:=c 0 v rfl;simp at g;subst g i;refine .cons _ t (e (by simpa using h) λj v f=>?_);obtain⟨d,t,g,i⟩:=c (j+1) v (by grind);exact⟨d,t,by grind,i⟩
theorem O6(T:A.handled=none)(G:SetI prog w s.heap a ns)(hQ:∀(h':Heap) (d':Drawn) (tk:Nat) (q:AE) (d:AH),~~~s<=h'.objs.size->(∀b o,s.heap.get? b=some o->h'.get? b=some o)->IntsAre q d->d.Perm ns->Q q {s with heap:=h',drawn:=d',toks:=tk}):
 wpAny (mZ prog w) A (collect (.ref a)) Q E s:=by
 obtain⟨o,es,ep,t,O,u,hd,_⟩:=id G;have hlt:a< ~~~s:=ql O;have B:=G.len;unfold collect;refine wa (wpAny_runValue (wu F.entry_proto_collect ?_));rw[ja F.plain_proto_collect _];refine wa (we ?_);refine wb ⟨w5 F.plain_list_iadd _,wu F.entry_list_iadd ?_⟩;rw[ja F.plain_list_iadd _];generalize L:s.heap.push {cls:=.type "list",data:=.seq ([]:AE).toArray}=H
 have Z:H.objs.size= ~~~s+1:=by rw[<-L,wq]
 have c:∀b o,s.heap.get? b=some o->H.get? b=some o:=λb o e=>by rw[<-L];exact qe _ e
 have hL:H.get? (~~~s)=some {cls:=.type "list",data:=.seq ([]:AE).toArray}:=by rw[<-L];exact qp _ rfl
 have x:=c a o O
 have V:Shared.TypeIs {s with heap:=H} (.ref a) "set":=⟨o,x,u.1⟩
 have M:(~~~s)≠a:=λz=>by grind
 have h1:Builtin.List.listSameRef (.ref (~~~s)) (.ref a)=false:=by simp[Builtin.List.listSameRef,M]
 show wpAny _ A.in1 (Builtin.List.listExtendWith (.ref (~~~s)) (.ref a) (.ref (~~~s))) _ _ _;unfold Builtin.List.listExtendWith;refine wa (wpAny_typeOf V ?_)
 have h2:(Value.type "set"==Value.type "list")=false:=by decide
 have U:(Value.type "set"==Value.type "tuple")=false:=by decide
 simp only[h1,h2,U,Bool.or_false,Qo,if_false];refine wa (N7 (s:={s with heap:=H}) (G.at λo e=>c a o e) λh' d' I Y d St i hI R hfp ua S N hty=>?_);have K:=i a o x
 have m:Shared.TypeIs {s with heap:=h',drawn:=d' } (.ref a) "set":=⟨o,K,u.1⟩
 refine wa (wc ?_);unfold Builtin.List.listLengthHint;refine wa (wpAny_specialOf m F.slot_set_len.lookup ?_);refine wa (wpAny_isInstance (b:=true) m rb ?_);show wpAny _ A.in1 (typeOf (Value.ref a)>>=_) _ _ _;refine wa (wpAny_typeOf m ?_);refine wb ?_;rw[if_pos (by decide)];refine wa (wpAny_rule ?_)
 have C:(~~~s)∉Y:=λp=>by
  grind
 have f:=i _ _ hL;refine wa ?_;refine wa (wpAny_updateSeq f rfl ?_);have g:=wt (Obj.mapSeq (·.push Value.none)) f rfl;refine wpAny_updateSeq g rfl ?_;have l:=wt (Obj.mapSeq (·.pop)) g rfl
 have y:∀b o,b≠(~~~s)->h'.get? b=some o->
  ((h'.update (~~~s) (Obj.mapSeq (·.push Value.none))).update (~~~s) (Obj.mapSeq (·.pop))).get? b=some o:=
  λb o hb e=>(Heap.get?_update_other _ _ (Ne.symm hb)).trans ((Heap.get?_update_other _ _ (Ne.symm hb)).trans e)
 have W:=(S A.in1 T).toS
 refine wb ⟨w5 F.plain_extend_loop _,codeAny_extend_loopS W (fits_of_scanBound B) _ C _ ns.length 0 _ _ _ rfl (Qh _)
  (W.frame 0 ({s with heap:=h',drawn:=d' }:Shared) _ s.toks N (qv _) λb hb o e=>y b o (λh=>C (h ▸ hb)) e) l (ItemsOf.nil _) λs' n c' p r k=>?_⟩
 show wpAny _ A (load (~~~s)>>=_) _ _ s';refine wa (wpAny_load r ?_);have eg:s'.gens=s.gens:=p.gens;have ed:s'.drawn=d':=p.drawn;have eo:s'.os=s.os:=p.os
 have J:s'={s with heap:=s'.heap,drawn:=d',toks:=s'.toks}:=by
  obtain⟨a1,a2,a3,a4,a5⟩:=s';grind
 rw[J];refine wb (hQ s'.heap d' s'.toks n.toList d (Nat.le_of_lt (ql r)) (λb D e=>?_) (zC (by rw[qj,k.1,ua.length_eq]) λj v hj=>k.2 j v (by grind)) ua);have hb:b< ~~~s:=ql e;refine p.heap b D (λX=>?_) (y b D (qm hb) (i b D (c b D e)));grind
theorem O7(r:A.handled=none)(y:SetI prog w s.heap a ns)(i:ns.length<64)(v:∀(B:Heap) (D:Drawn) (tk e:Nat) (p:Addr) (k:Array Value) (c:AH),(∀b o,s.heap.get? b=some o->B.get? b=some o)->(~~~s)<=p->B.get? p=some (seqObj "list" k e)->IntsAre k.toList c->c.Perm ns->c.Pairwise (·<=·)->
  Q (.ref p) {s with heap:=B,drawn:=D,toks:=tk}):wpAny (mZ prog w) A (call (.builtin "sorted") [.ref a]) Q E s:=by
 refine Calls.call_function_entry kind_sorted plain_sorted entry_sorted (args_sorted1 _) (wa (wb (wa (O6 r y λB D tk f q j d m n=>?_))))
 have h:f.length<64:=by rwa [IntsAre.length m,n.length_eq]
 refine wa (wpAny_newList ?_ (by rw[je];ac_nf));have g:(B.push (seqObj "list" f.toArray 0)).get? _=_:=qp _ rfl;refine wa (wc (wd slot_list_sort ⟨_,g,rfl⟩ entry_list_sort (list_sort_tree g m h λk c z u t=>⟨_,rfl,?_⟩) (args_list_sort _)));obtain⟨e,x⟩:=sortedHeap_at g;refine wb ⟨_,rfl,v _ D tk e _ k c (λb o l=>?_) j x z (u.trans n) t⟩;have F:=ql (d b o l);rw[sortedHeap_old (qm F) (by rw[size_push'];ext<;>ac_nf)];exact qe _ (d b o l)
end
noncomputable def dh(P:P7)(w:World)(p:Addr)(a:AH):HO:=.ext λh=>SetI P w h p a
theorem zD(x:SetI P w h p a):ObjOk P w H h p (dh P w p a):=by
 refine⟨x,?_,λd c e k=>e.at k⟩;obtain⟨o,_,_,_,b,_⟩:=x;grind
section
variable {σ:L2.St}{H:Hp}{s:Shared}{e:Expr}{f:AW}{p p2:Pos}
def _root_.L2.Inv.dr(I:Inv X pins σ H s)(d':Drawn):Inv X pins σ H {s with drawn:=d' }:=⟨I.ok,I.os,I.bare,I.base,I.loc,I.cell,I.free,I.freeC,I.pin,I.hok,I.len⟩
def IT(r:Vals (ns.map V.int) us):IntsAre us ns:=pY r
def zE(K:W7)(P:P7)(w:World):AQ->Hp->VK->Prop:=λe H Q=>∃a b,e=[.ref a]/\(SqL K H a (b.map .int)\/SqT K H a (b.map .int))/\b.length<4000/\∀p c,H p=none->c.Perm (aO [] b)->Q (.ref p) (upd H p (dh P w p c))
theorem zF(v:X.calm=true):dz X (.type "set") (zE X.K X.prog X.w):=by
 intro y s C H B E Q I r h;obtain⟨a,D,rfl,c,x,q⟩:=h;obtain⟨u,rfl,w⟩:=eQ r;cases w;have m:=I.ok.hd v;have n:scanBound=4096:=rfl;rcases c with c|c
 .obtain⟨f,d,p,t⟩:=I.list c
  have g:=d.length
  exact N2 m p.isList (by simpa using IT d) (by ext<;>ac_nf) λz A j i l k=>⟨.ref _,_,I.laid (λb o e=>k b o (ql e) e) (qv _) (zD i),rfl,q _ j (I.hok.fresh (qv _)) l⟩
 .obtain⟨f,d,p,t⟩:=I.tuple c
  have g:=d.length
  exact N3 m p (by simpa using IT d) (by ext<;>ac_nf) λz A j i l k=>⟨.ref _,_,I.laid (λb o e=>k b o (ql e) e) (qv _) (zD i),rfl,q _ j (I.hok.fresh (qv _)) l⟩
def zG(P:P7)(w:World):AQ->Hp->VK->Prop:=λc H Q=>∃a b,c=[.ref a]/\H a=some (dh P w a b)/\b.length<64/\∀p,H p=none->Q (.ref p) (upd H p (.lst ((du b).map .int)))
theorem IU(j:X.calm=true):dz X (.builtin "sorted") (zG X.prog X.w):=by
 intro x s C H E B Q I r h;obtain⟨a,c,rfl,l,n,q⟩:=h;obtain⟨u,rfl,k⟩:=eQ r;cases k;refine O7 (I.ok.hd j) ((I.hok a _ l).1) n λD z A e p g m b i v t d y=>?_;have o:=W.ksm_same (d.trans (fT c).symm) y (iB c);subst o;have w:=(fT c).length_eq;refine⟨.ref p,_,.laid (I.dr z) b i (show ObjOk _ X.w _ _ _ (.lst _) from⟨by rw[qf,je];ac_nf,g.toList,e,p_ t,by ext⟩),rfl,q _ (I.hok.fresh i)⟩
def iE(l:AR):Option AR:=match cw l with
 | some a=>if a.length<4000/\(aO [] a).length<64 then some ((du (aO [] a)).map .int)else none
 | none=>none
def IV(h:a.Perm b):du a=du b:=W.ksm_same (((fT a).trans h).trans (fT b).symm) (iB a) (iB b)
def m8(f:AW):AX:=λa=>(b1 f Yc a).bind iE
def m9{c:Sort _}{a b:c}(h:a=b):a=b:=h
@[simp] theorem iF{ρ:Ro}:m8 f ρ=((f ρ).bind Yc).bind iE:=m9 rfl
end
noncomputable def di(m:Nat):Nat->Nat->Nat
 | 0,i=>i
 | k+1,i=>di m k ((i*5+1)%m)
theorem rd(m:Nat):∀(a b i:Nat),di m (a+b) i=di m b (di m a i)
 | 0,b,i=>by rw[Nat.zero_add];rfl
 | a+1,b,i=>by rw[Nat.succ_add];exact rd m a b _
noncomputable def jB(m:Nat):Nat->Nat->AG
 | 0,_=>[]
 | k+1,i=>i::jB m k ((i*5+1)%m)
theorem IW:∀{k i:Nat},j∈jB m k i->∃a,a<k/\di m a i=j
 | 0,_,h=>nomatch h
 | k+1,i,h=>by
   rcases qu h with rfl|h
   .exact⟨0,by lia,rfl⟩
   .obtain⟨a,b,e⟩:=IW h
    exact⟨a+1,by ext,e⟩
def m_(m:Nat):Bool:=(List.range m).all (λj=>(jB m m 0).contains j)&&di m m 0==0
noncomputable def sizes:AG:=[8,16,32,64,128]
def zH:sizes.all m_=true:=by decide +kernel
theorem zI(o:m∈sizes)(l:i<m)(n:j<m):∃k,k<m/\di m k i=j:=by
 have h:=List.all_eq_true.mp zH m o;unfold m_ at h;rw[Qe]at h;obtain⟨g,q⟩:=h
 have e:di m m 0=0:=by grind
 have c:∀x,x<m->∃a,a<m/\di m a 0=x:=λx f=>by
  have:=List.all_eq_true.mp g x (List.mem_range.mpr f);exact IW (by grind)
 obtain⟨a,p,rfl⟩:=c i l;obtain⟨b,r,rfl⟩:=c j n;by_cases d:a<=b
 .refine⟨b-a,by grind,?_⟩
  rw[<-rd,Nat.add_sub_cancel' d]
 .refine⟨m-a+b,by lia,?_⟩
  rw[<-rd,show a+(m-a+b)=m+b by lia,rd,e]
section
variable {mask:Nat}{owner:Array AN}
theorem zJ(a i p:Nat):(∃j,SetTable.layClean.free mask owner (a+1) i p=some j/\owner.getD j (some 0)=none)\/
 (owner.getD i (some 0)≠none/\SetTable.layClean.free mask owner (a+1) i p=SetTable.layClean.free mask owner a ((i*5+1+p/32)%(mask+1)) (p/32)):=by
 rw[SetTable.layClean.free]
 cases e:(List.range _).find? _ with
 | some k=>
   ext
 | none=>
   right;refine⟨λz=>?_,rfl⟩;have:=List.find?_eq_none.mp e 0 (List.mem_range.mpr (by unfold SetTable.runEnd;split<;>lia))
   ext
theorem IX:∀(k a i:Nat),k<a->owner.getD (di (mask+1) k i) (some 0)=none->∃j,SetTable.layClean.free mask owner a i 0=some j/\owner.getD j (some 0)=none
 | k,0,_,h,_=>absurd h (Nat.not_lt_zero _)
 | k,a+1,i,h,c=>by
   rcases zJ a i 0 with b|⟨b,d⟩
   .exact b
   .cases k with
    | zero=>exact absurd c b
    | succ k=>
      rw[d];exact IX k a _ (by ext) c
theorem O8(h:mask+1∈sizes)(n:i<mask+1)(o:p<1024)(g:∃j,j<mask+1/\owner.getD j (some 0)=none):∃j,SetTable.layClean.free mask owner (SetTable.turns mask) i p=some j/\owner.getD j (some 0)=none:=by
 obtain⟨j,f,l⟩:=g;have e:SetTable.turns mask=_+1+1:=rfl;rw[e];rcases zJ (mask+13+1) i p with a|⟨_,d⟩
 .exact a
 .rw[d]
  generalize (i*5+1+p/32)%(mask+1)=b;rcases zJ _ b _ with a|⟨_,c⟩
  .exact a
  .rw[c,show p/32/32=0 by ext<;>lia]
   obtain⟨k,m,q⟩:=zI h (i:=(b*5+1+0)%(mask+1)) (Nat.mod_lt _ (by lia)) f;exact IX k _ _ (by lia) (by ext)
end
theorem rh{a c:Type}{f g:a->Option c}:∀{l:List a},(∀x∈l,f x=g x)->l.filterMap f=l.filterMap g
 | [],_=>rfl
 | x::l,h=>by
   have d:=rh λy b=>h y (qg _ b);symm
theorem nc{f g:Nat->AN}(hf:f j=none)(hg:g j=some k):∀{l:AG},l.Nodup->j∈l->(∀x∈l,x≠j->g x=f x)->(l.filterMap g).Perm (k::l.filterMap f)
 | [],_,hj,_=>(nomatch hj)
 | x::l,hn,hj,he=>by
   obtain⟨hx,hn⟩:=List.nodup_cons.mp hn;by_cases e:x=j
   .subst e
    have:l.filterMap g=l.filterMap f:=rh λy hy=>he y (qg _ hy) λz=>hx (z ▸ hy);rw[List.filterMap_cons_some hg,List.filterMap_cons_none hf,this]
   .have hj':j∈l:=by
     rcases qu hj with z|z
     .exact absurd z.symm e
     .exact z
    have ih:=nc hf hg hn hj' λy hy=>he y (qg _ hy);have hxe:=he x qh e
    cases h:f x with
    | none=>rw[List.filterMap_cons_none (hxe.trans h),List.filterMap_cons_none h];exact ih
    | some v=>
      rw[List.filterMap_cons_some (hxe.trans h),List.filterMap_cons_some h];exact(ih.cons v).trans (.swap _ _ _)
theorem IY(y:mask+1∈sizes):∀(hs:AH) (owner:Array AN) (k:Nat),owner.size=mask+1->((List.range (mask+1)).filterMap λj=>owner.getD j none).Perm (List.range k)->k+hs.length<=mask->(∀h∈hs,0<=h/\h<1024)->
 ∃c,(hs.foldl (init:=some (owner,k)) λm h=>do
  let (owner,k) <-m
  let j <-SetTable.layClean.free mask owner (SetTable.turns mask) (SetTable.bits h%(mask+1)) (SetTable.bits h)
  pure (owner.setIfInBounds j (some k),k+1))=some (c,k+hs.length)/\c.size=mask+1/\((List.range (mask+1)).filterMap λj=>c.getD j none).Perm (List.range (k+hs.length))
 | [],owner,k,u,s,_,_=>⟨owner,rfl,u,s⟩
 | h::hs,owner,k,u,s,G,w=>by
   have H:SetTable.bits h<1024:=by
    obtain⟨a,b⟩:=w h qh;unfold SetTable.bits
    ext<;>lia
   have f:∃j,j<mask+1/\owner.getD j (some 0)=none:=Classical.byContradiction λr=>by
    have A:=s.length_eq;rw[List.length_range]at A
    have n:∀j∈List.range (mask+1),(owner.getD j none).isSome=true:=λj v=>by
     have t:=Qb v;have:owner.getD j (some 0)≠none:=λz=>r ⟨j,t,z⟩
     have p:j<owner.size:=by ext
     simp only[Array.getD,p,dif_pos]at this ⊢;exact Option.isSome_iff_ne_none.mpr this
    have:((List.range (mask+1)).filterMap λj=>owner.getD j none).length=(List.range (mask+1)).length:=by
     generalize List.range (mask+1)=l at n
     ext
    ext<;>lia
   obtain⟨j,v,E⟩:=O8 y (owner:=owner) (i:=SetTable.bits h%(mask+1)) (p:=SetTable.bits h) (Nat.mod_lt _ (by lia)) H f
   have B:j<owner.size:=Classical.byContradiction λz=>by
    ext
   have e:owner.getD j none=none:=by
    ext
   have F:=nc (f:=λx=>owner.getD x none) (g:=λx=>(owner.setIfInBounds j (some k)).getD x none) (j:=j) (k:=k) e (by ext) (l:=List.range (mask+1)) List.nodup_range (List.mem_range.mpr (by ext)) λx q i=>by
    have C:=Qb q
    have o:x<owner.size:=by ext
    simp[Array.getD,o,Array.getElem_setIfInBounds,Ne.symm i]
   have g:((List.range (mask+1)).filterMap λx=>(owner.setIfInBounds j (some k)).getD x none).Perm (List.range (k+1)):=by
    grind
   obtain⟨c,J,I,D⟩:=IY y hs (owner.setIfInBounds j (some k)) (k+1) (by grind) g (by grind) λx q=>w x (qg _ q);refine⟨c,?_,I,?_⟩
   .simp_all<;>lia
   ext<;>lia
theorem IZ{led plain:Bool}(d:mask+1∈sizes)(hs:Array Int)(g:hs.size<=mask)(b:∀h∈hs.toList,0<=h/\h<1024):∃t o,SetTable.laid mask finger moves led plain hs=some (t,o)/\o.toList.Perm (List.range hs.size)/\t.place.size=hs.size/\t.dummies=#[]/\t.mask=mask/\t.plain=plain:=by
 have a:((List.range (mask+1)).filterMap λj=>(Array.replicate (mask+1) (none:AN)).getD j none)=[]:=by
  ext
 obtain⟨i,k,l,e⟩:=IY d hs.toList (Array.replicate (mask+1) none) 0 nofun (by ext) (by ext) b
 have c:SetTable.layClean mask hs=some i:=by
  unfold SetTable.layClean
  ext
 have f:((List.range (mask+1)).filterMap λj=>(i.getD j none).map (j,·)).map (·.2)=(List.range (mask+1)).filterMap λj=>i.getD j none:=by
  rw[List.map_filterMap];refine rh λj _=>?_;cases i.getD j none<;>rfl
 refine⟨_,_,by unfold SetTable.laid;rw[c];rfl,?_,?_,rfl,rfl,rfl⟩
 .simp_all
 .have:=e.length_eq
  symm
def rm(xs:Array a)(p:Nat):(SetTable.eraseAt xs p).toList=xs.toList.eraseIdx p:=by
 unfold SetTable.eraseAt;rw[List.eraseIdx_eq_take_drop_succ];simp[Array.toList_extract];exact List.take_of_length_le nofun
theorem O9(h:cb xs)(p:Nat):cb (SetTable.eraseAt xs p):=by
 unfold cb at h ⊢;rw[rm];grind
def zL(h:p<xs.size):(SetTable.eraseAt xs p).size=xs.size-1:=by
 rw[<-qj,rm,List.length_eraseIdx_of_lt (by simpa using h)];simp
theorem O_(xs:Array a)(p:Nat)(x:a):(SetTable.insertAt xs p x).size=xs.size+1:=by
 rw[<-qj,gQ];simp;lia
section
variable {w:World}{A:Around}{E:AC}{s:Shared}
theorem Pa(hS:SetI prog w s.heap a ns)(h:∀h' ns',Heap.SameBut a s.heap h'->SetI prog w h' a ns'->ns'.Perm (ns.erase k)->Q (decide (k∈ns)) {s with heap:=h' }):
 wpAny (mZ prog w) A (setDiscardHashed a (.int k u) (hashInt k)) Q E s:=by
 have hS0:=hS;obtain⟨o,es,ep,t,ho,hex,hd,hel,hns,hnd,hb,hf,ht⟩:=hS;have hkey:(intKind prog w).is k (.int k u)=true:=intKind_is _ _ _ _;have hsc:(Value.int k u).scannable=true:=rfl;unfold setDiscardHashed setFind setFindIn;refine wa ?_;refine wa (wf ho hd hf ?_);dsimp only;rw[byScan_of hsc hb hel];simp only[↓reduceIte];refine wa (wpAny_rule ?_);refine wa (wpAny_setScan_of (knd:=intKind prog w) (k:=k) hkey ho hd hf hel ?_)
 cases hr:List.findIdx? (λe=>(intKind prog w).is k e.2) es.toList with
 | none=>
   dsimp only
   have hk:k∉ns:=λhk=>by
    rw[<-hns]at hk;obtain⟨e,he,hke⟩:=qy hk;have h1:=List.findIdx?_eq_none_iff.mp hr e he;obtain⟨t',ht'⟩:=kH hel he;rw[ht',hke]at h1;have h2:(intKind prog w).is k (.int k t')=true:=intKind_is _ _ _ _;rw[h2]at h1;exact Bool.noConfusion h1
   refine wb (wb ?_)
   have e:s={s with heap:=s.heap}:=by cases s;rfl
   have:=h s.heap ns (Heap.SameBut.refl a s.heap) hS0 (by rw[List.erase_of_not_mem hk]);rw[wj hk]at this;rw[e];exact this
 | some j=>
   dsimp only;obtain⟨hj,hpj,_⟩:=List.findIdx?_eq_some_iff_getElem.mp hr
   have hjs:j<es.size:=by simpa using hj
   have hkj:cV es.toList[j]=k:=x8 hpj
   have hk:k∈ns:=by
    rw[<-hns,<-hkj];exact Qs (List.getElem_mem hj)
   refine wb ?_;dsimp only;refine wa (wf ho hd hf ?_);dsimp only;rw[Nat.zero_add]
   have hb':(SetTable.eraseAt es j).size<scanBound:=by rw[zL hjs];lia
   refine wa (wpAny_storeSet_of ho hd ?_ (fits_of_scanBound hb'));have ho1:=iw ho hd (SetTable.eraseAt es j) (t.drop j);have hsb1:=wo s.heap a (Obj.putSet (SetTable.eraseAt es j) (t.drop j));refine wa (wpAny_point (wb ?_));have hf':=hf;unfold SetTable.fits at hf';simp only[Qe,beq_iff_eq,wg]at hf'
   have hpl:j<t.place.size:=by lia
   have hdrop:t.drop j={t with place:=SetTable.eraseAt t.place j,dummies:=SetTable.insertAt t.dummies (SetTable.below t.dummies t.place[j]) t.place[j]}:=by
    unfold SetTable.drop;rw[Array.getElem?_eq_getElem hpl]
   have hlen:j<ns.length:=by rw[<-hns,qf];exact hj
   have hnj:ns[j]=k:=by
    have:ns[j]?=some k:=by rw[<-hns,Qm,qr hj,Option.map_some,hkj]
    rw[qr hlen]at this;exact wx this
   have hperm:(ns.eraseIdx j).Perm (ns.erase k):=by
    have p1:=ya hlen;rw[hnj]at p1;have p2:=List.perm_cons_erase hk;exact(p1.trans p2).cons_inv
   have hnew:SetI prog w (s.heap.update a (Obj.putSet (SetTable.eraseAt es j) (t.drop j))) a (ns.eraseIdx j):=by
    refine⟨_,SetTable.eraseAt es j,_,t.drop j,ho1,hex,rfl,λe he=>?_,?_,hnd.sublist (List.eraseIdx_sublist _ _),hb',?_,?_⟩
    .rw[rm]at he
     exact hel e (List.mem_of_mem_eraseIdx he)
    .rw[rm,<-hns,List.eraseIdx_eq_take_drop_succ,List.eraseIdx_eq_take_drop_succ,Qk,List.map_take,List.map_drop]
    .rw[hdrop]
     unfold SetTable.fits;unfold SetTable.fill at hf' ⊢;simp only[Qe,beq_iff_eq,wg,zL hpl,zL hjs,O_]at hf' ⊢;lia
    .rw[hdrop]
     exact⟨ht.1,λz=>O9 (ht.2 z) j⟩
   have:=h _ _ hsb1 hnew hperm;rw[wh hk]at this;exact this
theorem zM(g:s.heap.get? a=some o)(f:o.data=.set b j t)(e:t.fits b.size=true)(i:Tab (dA w) t)(h:∀(r:Array (Int×Value)) (m:Drawn),r.toList.Perm b.toList->Q r {s with drawn:=m}):wpAny (mZ prog w) A (setWalk a) Q E s:=by
 refine wa (wf g f e (wa (ix ?_)));by_cases l:dA w=true
 .rw[if_pos l]
  exact wa (wpAny_askSetting (wb (h _ _ (yb _ _))))
 .rw[if_neg l]
  have d:dA w=false:=by grind
  show wpAny _ _ (if (_&&_)=true then _ else _) _ _ _;by_cases c:(!t.plain&&decide (b.size > 1))=true
  .rw[if_pos c]
   refine wa (qB _ _ _ _ nofun λn m k=>wb ?_);grind
  .rw[if_neg c]
   show wpAny _ _ ((if _ then _ else _)>>=_) _ _ _;rw[if_neg (by rw[i.1 d];simp)];exact wa (wb (wb (h b _ (.refl _))))
def Pc(h:∀a∈q,∃ns,SetI prog w s.heap a ns)(C:Q true s):wpAny (mZ prog w) A (setsQuiet q) Q E s:=by
 refine wa (wpAny_forIn_list _ (λc b L=>b.1=none/\L=s/\∀a∈c,∃ns,SetI _ w _ a ns) _ ?_ ?_ q _ ⟨rfl,rfl,h⟩)
 .rintro a c b L ⟨M,rfl,p⟩
  obtain⟨ns,o,r,I,t,v,D,z,i,_,_,_,y,_⟩:=p a qh;refine wa (wa (wf v z y (wb (wa (MeetsSeq2.wpAny_forIn_array _ (λc b l=>b.1=none/\l=L/\∀e∈c,e∈r.toList) _ ?_ ?_ r _ ⟨rfl,rfl,λe m=>m⟩)))))
  .rintro⟨K,x⟩ j b2 F ⟨f,rfl,g⟩
   obtain⟨N,k⟩:=kH i (g _ qh);have n:=congrArg Prod.snd k;dsimp only at n;rw[n];exact wb ⟨rfl,rfl,λe m=>g e (qg _ m)⟩
  .rintro b2 F ⟨f,rfl,_⟩
   obtain⟨G,B⟩:=b2;subst f;exact wb ⟨rfl,rfl,λa u=>p a (qg _ u)⟩
 .rintro b L ⟨M,rfl,_⟩
  obtain⟨J,H⟩:=b;subst M;exact wb C
theorem Pd(v:SetI prog w s.heap o ns)(q:SetI prog w s.heap f H)(h:∀(r:Array (Int×Value)) (T:Heap) (S:Drawn),Heap.SameBut f s.heap T->SetI prog w T f H->ElemsOf (intKind prog w) r.toList->(r.toList.map cV).Perm ns->Q r {s with heap:=T,drawn:=S}):
 wpAny (mZ prog w) A (setWalkUnseen o [f] (some f)) Q E s:=by
 have K:=v;obtain⟨O,G,R,t,x,I,y,d,k,J,U,F,D⟩:=v;refine wa (wf x y F (wa (ix ?_)))
 split
 .exact(zM x y F D λr S M=>h r _ S (.refl f _) q (d.perm M) ⋯)
 .refine wa (Pc (λa N=>?_) ?_)
  .grind
  .refine wa (wpAny_rule ?_)
   have p:=q;obtain⟨P,B,L,u,c,i,b,l,j,n,m,e,g⟩:=q;refine wa (wf c b e ?_);dsimp only
   split
   .refine wa (wpAny_storeSet_of c b (wb (h G _ _ (.update _ f _) ⟨_,B,_,_,iw c b B _,i,rfl,l,j,n,m,e,⟨λz=>?_,λz=>?_⟩⟩ d (by rw[k]))) (fits_of_scanBound m))
    .rw[g.1 z,D.1 z]
     rfl
    .have C:=z
     rw[Qe]at C;exact g.2 C.1
   .exact wb (h G _ _ (.refl f _) p d (by rw[k]))
def SetI.nodup(x:SetI prog w h a ns):ns.Nodup:=by
 obtain⟨_,_,_,_,_,_,_,_,_,b,_⟩:=x;exact b
def SetI.type(x:SetI prog w s.heap a ns):s.TypeIs (.ref a) "set":=by
 obtain⟨o,_,_,_,c,b,_⟩:=x;exact⟨o,c,b.1⟩
def SetI.but(x:SetI prog w h a ns)(b:a≠f)(c:Heap.SameBut f h d):SetI prog w d a ns:=x.at λo e=>(c.2 a b).trans e
theorem zN(p:SetI prog w s.heap f i)(b:i.length+1<scanBound)(h:∀v c,Heap.SameBut f s.heap v->SetI prog w v f c->(∀x,x∈c↔¬(x∈i↔x=k))->c.length<=i.length+1->Q () {s with heap:=v}):
 wpAny (mZ prog w) A (holding [.int k u] (do
  if !(<-setDiscardHashed f (.int k u) (hashInt k))then
   let _ <-setAddHashed f (.int k u) (hashInt k))) Q E s:=by
 have q:=p.nodup;refine wc (wa (Pa p λr l g e a=>?_));by_cases j:k∈i
 .rw[wh j]
  refine wb (h r l g e (λx=>?_) ?_)
  .grind
  .rw[a.length_eq]
   ext<;>lia
 .rw[wj j]
  rw[List.erase_of_not_mem j]at a;refine wa (HI e (by rwa [a.length_eq]) λt o m n d=>?_);rw[if_neg (λz=>j (a.mem_iff.mp z))]at d;refine wb (h t o (g.trans m) n (λx=>?_) ?_)
  .grind
  .rw[d.length_eq,qz,a.length_eq]
   ext
def rn(a:SetI prog w s.heap o ns)(h:Q true s):wpAny (mZ prog w) A (Builtin.Frozenset.isAnySet (.ref o)) Q E s:=wa (wpAny_isInstance a.type rb (wb h))
theorem zO{id:String}(I:o≠f)(v:SetI prog w s.heap o ns)(hF:SetI prog w s.heap f k)(K:k.length+ns.length+1<scanBound)(h:∀h' d' n,Heap.SameBut f s.heap h'->SetI prog w h' f n->(∀x,x∈n↔¬(x∈k↔x∈ns))->Q () {s with heap:=h',drawn:=d' }):
 wpAny (mZ prog w) A (Builtin.Frozenset.symmetricDifferenceUpdate id f (.ref o)) Q E s:=by
 unfold Builtin.Frozenset.symmetricDifferenceUpdate;rw[if_neg (by grind)];refine wa (wpAny_typeOf v.type ?_)
 have c:(.type "set"==Value.type "dict")=false:=by decide
 refine wa (rn v ?_);refine wa (wb ?_);have J:=v;obtain⟨oo,es,ep,t,N,Z,M,X,S,Y,hb,L,ht⟩:=J;refine wa (m:=setEpoch o) ?_;refine wa (wf N M L (wb ?_));dsimp only;refine wc ?_;refine wa (Pd v hF λr h' d' U F p C=>?_)
 refine wa (wv (MeetsSeq2.wpAny_forIn_array _ (λd _ s'=>∃b c a,s'={s with heap:=c,drawn:=d' }/\Heap.SameBut f _ c/\SetI _ w c f a/\(∀x,x∈a↔¬(x∈k↔x∈b))/\r.toList.map cV=b++d.map cV/\a.length<=k.length+b.length/\∀e∈d,e∈r.toList)
  (λ_ s'=>∃c a,s'={s with heap:=c,drawn:=d' }/\Heap.SameBut f s.heap c/\SetI prog w c f a/\(∀x,x∈a↔¬(x∈k↔x∈ns))) ?_ ?_ r _ ⟨[],h',k,rfl,U,F,by simp,by simp,by simp,λe H=>H⟩) (λ_ s' hs=>?_) λ_ _ e=>e)
 .rintro x d _ s' ⟨b,c,a,rfl,g,i,l,R,T,u⟩
  have W:=u x qh;obtain⟨tk,D⟩:=kH p W
  have q:a.length+1<scanBound:=by
   have e2:=C.length_eq;grind
  rw[D];refine wa (zN i q λP z m B O V=>?_);have G:=((g.trans m).2 o I).trans N;refine wa ?_;refine wa (wa (wf G M L (wb ?_)));rw[if_neg nofun];refine wb (wb ⟨b++[cV x],P,z,rfl,g.trans m,B,λy=>?_,?_,?_,λe H=>u e (qg _ H)⟩)
  .grind
  ·(simp at*;lia)
  (simp;lia)
 .grind
 .obtain⟨c,a,rfl,g,i,l⟩:=hs
  exact wb (h c d' a g i l)
theorem Pe(h:0<=k/\k<1024):0<=hashInt k/\hashInt k<1024:=by
 have e:rawHash k=k:=by
  unfold rawHash;grind
 unfold hashInt
 split<;>ext
def zP:(List.range 64).all (λn=>decide (SetTable.sizeAbove (n*2)∈sizes)&&decide (n<SetTable.sizeAbove (n*2))&&decide (SetTable.sizeAbove (n*2)<=128))=true:=by decide +kernel
theorem zQ{a:Array (Int×Value)}{o:Array Nat}(d:o.toList.Perm (List.range a.size)):(o.filterMap (a[·]?)).toList.Perm a.toList:=by
 have c:(o.filterMap (a[·]?)).toList=o.toList.filterMap (a.toList[·]?):=by simp
 have b:(List.range a.size).filterMap (a.toList[·]?)=a.toList:=by
  have:∀l:List (Int×Value),(List.range l.length).filterMap (l[·]?)=l:=λl=>by
   rw[rh λi e=>?_]
   .show List.filterMap (some ∘ λi=>l.getD i (0,.none)) _=_
    refine List.ext_getElem nofun λi c b=>?_;simp[b]
   ext
  grind
 grind
noncomputable abbrev I0(a:Nat)(t:SetTable):Obj:={cls:=.type "set",dict:=none,data:=.set #[] a t}
theorem zR(b:s.heap.get? f=some (I0 q (.fresh 0 0 led)))(x:n<64)(h:∀h' d t',Heap.SameBut f s.heap h'->h'.get? f=some (I0 d t')->t'.mask+1∈sizes->n<=t'.mask->t'.place=#[]->t'.dummies=#[]->t'.led=led->t'.plain=true->Q () {s with heap:=h' }):wpAny (mZ prog w) A (setRoomFor f n) Q E s:=by
 have a:_=true:=rfl;refine wa (wf b rfl a ?_);dsimp only;by_cases B:21<=n*5
 .have e:(SetTable.fresh 0 0 led).roomFor n=some (n*2):=by
   unfold SetTable.roomFor SetTable.fresh SetTable.fill;simp only[Array.size_empty,Nat.zero_add];rw[if_pos (by omega)]
  rw[e];dsimp only;have c:=List.all_eq_true.mp zP n (List.mem_range.mpr x);simp only[Qe,wg]at c;obtain⟨⟨m,D⟩,C⟩:=c;refine wa (wf b rfl a ?_);dsimp only;rw[if_neg (by rw[je];lia)]
  have j:SetTable.sizeAbove (n*2)-1+1=SetTable.sizeAbove (n*2):=by lia
  obtain⟨t',o,l,u,r,v,k,p⟩:=IZ (finger:=0) (led:=led) (plain:=true) (by rw[j];exact m) #[] (Qh _) (λh y=>by simp at y)
  have g:(SetTable.fresh 0 0 led).relaid ((#[]:Array (Int×Value)).map (·.1)) (n*2)=some (t',o):=by
   rw[show(#[]:Array (Int×Value)).map (·.1)=#[] by simp];exact l
  rw[g]
  have i:o=#[]:=by
   have:=u.length_eq;simpa using this
  subst i;have t:=x6 l;refine wpAny_storeSet_of b rfl ?_ nofun;have z:=iw b rfl (#[]) t';exact h _ _ t' (.update s.heap f _) z (by rw[k,j];exact m) (by rw[k];lia) (by simpa using r) v t.2.1 p
 .have e:(SetTable.fresh 0 0 led).roomFor n=none:=by
   unfold SetTable.roomFor SetTable.fresh SetTable.fill;simp only[Array.size_empty,Nat.zero_add];rw[if_neg (by omega)]
  rw[e];refine wb ?_
  have e:s={s with heap:=s.heap}:=by cases s;rfl
  rw[e];exact h s.heap q _ (.refl f s.heap) b (show 8∈sizes by decide) (show n<=7 by lia) rfl rfl rfl rfl
theorem zS{id:String}(T:SetI prog w s.heap o ns)(hk:∀k∈ns,0<=k/\k<1024)(hl:ns.length<64)(h:∀h' V,(∀b x,s.heap.get? b=some x->h'.get? b=some x)->SetI prog w h' (~~~s) V->V.Perm ns->Q (.ref (~~~s)) {s with heap:=h' }):
 wpAny (mZ prog w) A (Builtin.Frozenset.newFrom id (.type "set") (.ref o)) Q E s:=by
 unfold Builtin.Frozenset.newFrom newSet;refine wa (wa (ix ?_));dsimp only;simp only[newObj];refine wa (wpAny_alloc (wb ?_))
 have J:o< ~~~s:=by
  obtain⟨oo,_,_,_,G,_⟩:=T;exact ql G
 generalize W:s.heap.push _=H
 have c:∀b x,s.heap.get? b=some x->H.get? b=some x:=λb x e=>by rw[<-W];exact qe _ e
 have D:H.get? (~~~s)=some {cls:=.type "set",dict:=none,data:=.set #[] 0 (.fresh 0 0 (!dA w))}:=by rw[<-W];exact qp _ rfl
 generalize hf:(~~~s)=f at *;have hne:o≠f:=qm J;have C:SetI prog w H o ns:=T.at λx e=>c o x e;refine wa (m:=Builtin.Frozenset.addrOf (.ref f)) (wb ?_);refine wa (wc ?_);unfold Builtin.Frozenset.updateFrom;refine wa (rn (s:={s with heap:=H}) C ?_);rw[if_pos rfl];unfold Builtin.Frozenset.merge;have O:=C;obtain⟨oo,a,ep,t,G,hex,U,p,K,r,hb,l,R⟩:=O
 have hsz:a.size=ns.length:=by grind
 refine wa (m:=setEpoch o) ?_;unfold setEpoch;refine wa (wf (s:={s with heap:=H}) G U l (wb ?_));dsimp only;unfold setMerge
 have h1:(f==o)=false:=by grind
 rw[if_neg (by ext)];refine wa (wf (s:={s with heap:=H}) G U l ?_);dsimp only;by_cases i:a.isEmpty=true
 .rw[if_pos i]
  refine wb (wb (h H [] c ⟨_,#[],_,_,D,⟨rfl,rfl,rfl⟩,rfl,λe P=>by simp at P,rfl,.nil,by decide,rfl,.fresh⟩ ?_))
  ext
 .rw[if_neg i]
  refine wa (zR (s:={s with heap:=H}) D (by ext) λh' ep' t' sb g m1 m2 p1 p2 l1 l2=>?_)
  have j:t'.fits (#[]:Array (Int×Value)).size=true:=by
   unfold SetTable.fits SetTable.fill
   ext
  refine wa (wf (s:={s with heap:=h' }) g rfl j ?_);dsimp only
  have m:∀b x,s.heap.get? b=some x->h'.get? b=some x:=λb x e=>by
   have hb:b≠f:=λz=>by
    have:=ql e
    ext
   exact(sb.2 b hb).trans (c b x e)
  have d:∀(y:Array (Int×Value)) (B:SetTable) b x,s.heap.get? b=some x->(h'.update f (Obj.putSet y B)).get? b=some x:=λy B b x e=>by
   have hb:b≠f:=λz=>by
    have:=ql e
    ext
   exact((wo h' f _).2 b hb).trans (m b x e)
  have n:t'.fill=0:=by
   unfold SetTable.fill
   ext
  unfold SetTable.road;rw[n,if_neg nofun]
  have v:dA w=false->(t'.led&&t.led)=true:=λz=>by
   rw[l1,R.1 z,z];rfl
  by_cases Y:(t'.mask==t.mask&&t.dummies.isEmpty)=true
  .rw[if_pos Y]
   dsimp only;refine wpAny_storeSet_of (s:={s with heap:=h' }) g rfl ?_ (fits_of_scanBound hb);have M:=iw g rfl a {t with finger:=t'.finger,led:=t'.led&&t.led,moves:=t'.moves,plain:=t'.plain&&t.plain};refine wb (h _ ns (d _ _) ⟨_,a,_,_,M,⟨rfl,rfl,rfl⟩,rfl,p,K,r,hb,l,v,λz=>?_⟩ (.refl _));have X:(t'.plain&&t.plain)=true:=z;rw[Qe]at X;exact R.2 X.2
  .rw[if_neg Y]
   dsimp only
   obtain⟨B,q,e1,e2,e3,e4,e5,e6⟩:=IZ (mask:=t'.mask) (finger:=t'.finger) (moves:=t'.moves) (led:=t'.led&&t.led) (plain:=t'.plain&&t.plain) m1 (a.map (·.1)) (by ext) (λx S=>by
    rw[Array.toList_map]at S;obtain⟨e,P,rfl⟩:=qy S;obtain⟨tk,het⟩:=kH p P
    have I:cV e∈ns:=by grind
    have:=Pe (hk _ I)
    grind)
   rw[e1];have L:=x6 e1
   have N:q.toList.Perm (List.range a.size):=by grind
   have Z:=zQ N
   have hsz2:(q.filterMap (a[·]?)).size=a.size:=by rw[<-qj,Z.length_eq,qj]
   refine wa ?_;show wpAny _ _ (if ((q.filterMap (a[·]?)).size != a.size)=true then _ else _) _ _ _;rw[if_neg (by ext)];refine wb ?_;dsimp only
   have u:(q.filterMap (a[·]?)).size<scanBound:=by ext
   refine wpAny_storeSet_of (s:={s with heap:=h' }) g rfl ?_ (fits_of_scanBound u);have M:=iw g rfl (q.filterMap (a[·]?)) B
   have F:((q.filterMap (a[·]?)).toList.map cV).Perm ns:=by grind
   refine wb (h _ _ (d _ _) ⟨_,_,_,B,M,⟨rfl,rfl,rfl⟩,rfl,p.perm Z,rfl,F.nodup_iff.mpr r,u,?_,⟨λz=>by ext,λ_=>L.1⟩⟩ F);unfold SetTable.fits SetTable.fill
   ext
theorem Pf:entryFor table "set.__xor__"=some Builtin.«frozenset.__xor__»:=
 entryFor_alias (id':="frozenset.__xor__") (by kernel_rfl) (by first|rfl|decide +kernel|(unfold String.splitOn)) (by decide +kernel) (by kernel_rfl)
theorem zT(G:SetI prog w s.heap a ns)(j:SetI prog w s.heap b g)(q:∀k∈g,0<=k/\k<1024)(t:g.length<64)(u:ns.length<64)(h:∀I H f,(∀c x,s.heap.get? c=some x->I.get? c=some x)->SetI prog w I (~~~s) f->(∀x,x∈f↔¬(x∈g↔x∈ns))->Q (.ref (~~~s)) {s with heap:=I,drawn:=H}):
 wpAny (mZ prog w) A (binaryOp .BitXor (.ref a) (.ref b)) Q E s:=by
 refine wpAny_binaryOp_same G.type j.type F.fills_set_xor F.slot_set_xor (wd F.slot_set_xor G.type Pf (wa (wpAny_of_eq rfl (wa (wa (rn G (rn j (wa (wb (wa (wa (wa (wpAny_isInstance G.type rb (wb (wa (zS j q t λD f m p v=>?_))))))))))))))) (F.args_set_xor_2 _ _))
 have d:a< ~~~s:=by
  obtain⟨C,_,_,_,y,_⟩:=G;exact ql y
 have r:scanBound=4096:=rfl;refine wa (wb (wa (wc (zO (qm d) (G.at λx e=>m a x e) p (by rw[v.length_eq];lia) λo H i n l B=>wb (wb ⟨_,rfl,(λz=>nomatch z),h o H i (λc x e=>?_) l λx=>?_⟩)))))
 .exact(n.2 c (qm (ql e))).trans (m c x e)
 grind
end
section
variable {σ:L2.St}{H:Hp}{s:Shared}
def zU(P:P7)(w:World):V->V->Hp->VK->Prop:=λx y H Q=>∃a b e c,x=.ref a/\y=.ref b/\H a=some (dh P w a e)/\H b=some (dh P w b c)/\(∀k∈c,0<=k/\k<1024)/\c.length<64/\e.length<64/\
 ∀p d,H p=none->d.Nodup->(∀x,x∈d↔¬(x∈c↔x∈e))->Q (.ref p) (upd H p (dh P w p d))
def op_xor:bR X (binaryOp .BitXor) (zU X.prog X.w):=by
 intro o s w H x y v u Q I j m h;obtain⟨a,b,t,n,rfl,rfl,p,g,f,k,d,q⟩:=h;cases j;cases m
 exact zT ((I.hok a _ p).1) ((I.hok b _ g).1) f k d λz r i c e l=>⟨.ref _,_,.laid (I.dr r) c (qv _) (zD e),rfl,q _ i (I.hok.fresh (qv _)) e.nodup l⟩
end
theorem ey:∀(l a:AH) (x:Int),x∈aO a l↔x∈a\/x∈l
 | [],a,x=>by simp[aO]
 | k::l,a,x=>by
   rw[aO,ey];grind
theorem jC:∀(l a:AH),a.Nodup->(aO a l).Nodup
 | [],_,h=>h
 | k::l,a,h=>by
   refine jC l _ ?_;symm
def dH(a b:AH):AH:=(aO [] b).filter (λx=>!(a.contains x))++(aO [] a).filter (λx=>!(b.contains x))
def I_:x∈dH a b↔¬(x∈b↔x∈a):=by
 unfold dH;rw[List.mem_append,Ql,Ql,ey,ey];by_cases c:x∈a<;>by_cases d:x∈b<;>simp[c]
theorem zV(a b:AH):(dH a b).Nodup:=by
 unfold dH;rw[List.nodup_append];refine⟨(jC b [] .nil).filter _,(jC a [] .nil).filter _,λx e y d z=>?_⟩;have c:=Qc d;rw[ey]at c;grind
def g7(l m:AR):Option AR:=(cw l).bind λa=>(cw m).bind λb=>
 if a.length<4000/\b.length<4000/\(aO [] a).length<64/\(aO [] b).length<64/\(b.all λk=>decide (0<=k/\k<1024))=true/\(dH a b).length<64 then some ((du (dH a b)).map .int)else none
section
variable {e e2:Expr}{f:AW}{p p2:Pos}
def zW(f f2:AW):AX:=λa=>(b1 f Yc a).bind λl=>(b1 f2 Yc a).bind λm=>g7 l m
@[simp] theorem jD:zW f f2 ρ=((f ρ).bind Yc).bind λl=>((f2 ρ).bind Yc).bind λm=>g7 l m:=m9 rfl
end
def Ja{t:SetTable}(a:t.place=#[])(b:t.dummies=#[])(j:Nat):t.slot j=.empty:=by
 unfold SetTable.slot SetTable.has;rw[a,b];rfl
def Pg(a j:Nat):SetTable.below #[a] j=if a<j then 1 else 0:=by
 show SetTable.below.go #[a] j 1 0 1=_;rfl
theorem ng{t:SetTable}{a:Nat}(c:t.place=#[a])(e:t.dummies=#[])(j:Nat):t.slot j=if j=a then .live 0 else .empty:=by
 unfold SetTable.slot SetTable.has;rw[c,e,Pg];by_cases h:a<j
 .have b:¬j=a:=by ac_nf
  simp[h,b]
 .by_cases b:j=a
  .subst b
   simp
  .have d:¬a=j:=λz=>b z.symm
   simp[h,b,d]
theorem Jb{t:SetTable}(a:t.mask=7){p:SetTable.Probe}(h0:p.more=0):t.advance p={p with j:=(p.i*5+1+p.perturb/32)%8,more:=0,i:=(p.i*5+1+p.perturb/32)%8,perturb:=p.perturb/32}:=by
 unfold SetTable.advance;rw[if_neg ∅,a];show({p with j:=(p.i*5+1+p.perturb/32)%8,more:=SetTable.runEnd 7 ((p.i*5+1+p.perturb/32)%8)-(p.i*5+1+p.perturb/32)%8,i:=(p.i*5+1+p.perturb/32)%8,perturb:=p.perturb/32})=_
 have:SetTable.runEnd 7 ((p.i*5+1+p.perturb/32)%8)-(p.i*5+1+p.perturb/32)%8=0:=by
  unfold SetTable.runEnd
  split<;>ac_nf
 rw[this]
theorem nh{t:SetTable}{c:Nat}{hA:Nat->Int}{h:Int}(l:t.mask=7)(g:t.place=#[c])(f:t.dummies=#[])(r:c<8)(b:(hA 0==h)=false):∀(k a:Nat) (p:SetTable.Probe),p.perturb<32^k->k+2<=a->p.more=0->p.i=p.j->p.dummy=none->p.j<8->
 ∃j,SetTable.probe.go t hA h a p=some (.empty j none)/\j≠c/\j<8
 | 0,a+2,p,o,_,i,q,d,m=>by
   rw[SetTable.probe.go,ng g f];by_cases e:p.j=c
   .rw[if_pos e]
    dsimp only;rw[b,if_neg qi,SetTable.probe.go,ng g f,Jb l i]
    have n:(p.i*5+1+p.perturb/32)%8≠c:=by ac_nf
    rw[if_neg n];exact⟨_,by rw[d],n,by ac_nf⟩
   .rw[if_neg e]
    exact⟨_,by rw[d],e,m⟩
 | k+1,a+1,p,o,s,i,q,d,m=>by
   rw[SetTable.probe.go,ng g f];by_cases e:p.j=c
   .rw[if_pos e]
    dsimp only;rw[b,Jb l i];refine nh l g f r b k a _ ?_ ∅ rfl rfl d ∅;rw[Nat.div_lt_iff_lt_mul (by decide)];exact o
   .rw[if_neg e]
    exact⟨_,by rw[d],e,m⟩
 | 0,0,_,_,h,_,_,_,_=>by ac_nf
 | 0,1,_,_,h,_,_,_,_=>by ac_nf
 | _+1,0,_,_,h,_,_,_,_=>by ac_nf
theorem zX{t:SetTable}(a:t.mask=7)(h:Int):t.probeStart h={j:=SetTable.bits h%8,more:=0,i:=SetTable.bits h%8,perturb:=SetTable.bits h,dummy:=none}:=by
 unfold SetTable.probeStart;rw[a]
 have:SetTable.runEnd 7 (SetTable.bits h%(7+1))-SetTable.bits h%(7+1)=0:=by
  unfold SetTable.runEnd
  split<;>ac_nf
 dsimp only;rw[this]
def Ph{t:SetTable}(a:t.mask=7)(c:t.place=#[])(b:t.dummies=#[])(hA:Nat->Int)(h:Int):t.probe hA h (t.probeStart h)=some (.empty (SetTable.bits h%8) none):=by
 unfold SetTable.probe;rw[a,zX a];show SetTable.probe.go t hA h (219+1) _=_;rw[SetTable.probe.go,Ja c b]
theorem Pi{t:SetTable}{c:Nat}(a:t.mask=7)(f:t.place=#[c])(e:t.dummies=#[])(d:c<8){hA:Nat->Int}{h:Int}(b:(hA 0==h)=false):∃j,t.probe hA h (t.probeStart h)=some (.empty j none)/\j≠c/\j<8:=by
 unfold SetTable.probe;rw[a,zX a];refine nh a f e d b 13 _ _ ?_ (by decide) rfl rfl rfl ∅
 have:(h%(2^64)).toNat<2^64:=by ac_nf
 exact Qi this (by decide)
section
variable {w:World}{A:Around}{E:AC}{s:Shared}
def zY{u:Addr}{o:Obj}{i:Int}{tk:Tok}{b:Bool}{n:Nat}{Q:Bool->Shared->Prop}(a:s.heap.get? u=some o)(c:o.cls=.type "tuple")(d:o.data=.seq #[.int i tk,.bool b] n)(h:Q true s):wpAny (mZ prog w) A (hashByValue 8 (.ref u)) Q E s:=by
 exact wa (wpAny_specialOf (⟨o,a,c⟩) F.slot_tuple_hash.lookup (wa (wpAny_seqItems a d (wb h))))
def ni(a:Array (Int×Value))(i:Nat):Int:=(a[i]?.map (·.1)).getD 0
def Pj{S:Addr}{x:Value}{h:Int}{o:Obj}{b:Array (Int×Value)}{l:Nat}{t:SetTable}{j:Nat}{Q:SetFound->Shared->Prop}(d:s.heap.get? S=some o)(f:o.data=.set b l t)(k:t.fits b.size=true)(n:t.mask=7)(c:t.probe (ni b) h (t.probeStart h)=some (.empty j none))(g:Q (.free j false) s):wpAny (mZ prog w) A (setSearch S x h true) Q E s:=by
 refine wa (wf d f k ?_);dsimp only
 have e:t.gaveWay=false:=by unfold SetTable.gaveWay;rw[n];rfl
 rw[e];have a:t.probe (λi=>(b[i]?.map (·.1)).getD 0) h (t.probeStart h)=some (.empty j none):=c;show wpAny _ _ (match t.probe (λi=>(b[i]?.map (·.1)).getD 0) h (t.probeStart h)with|some m=>_|_=>_) _ _ _;rw[a];exact wb g
theorem zZ{S u:Addr}{h:Int}{o:Obj}{d:Array (Int×Value)}{x:Nat}{t:SetTable}{j:Nat}{q:Obj}{i:Int}{tk:Tok}{b:Bool}{n:Nat}{Q:Bool->Shared->Prop}(e:s.heap.get? S=some o)(g:o.data=.set d x t)(m:t.fits d.size=true)(C:t.mask=7)(k:t.dummies=#[])(z:d.size<=1)(r:t.probe (ni d) h (t.probeStart h)=some (.empty j none))(y:s.heap.get? u=some q)(B:q.cls=.type "tuple")(v:q.data=.seq #[.int i tk,.bool b] n)(p:Q true {s with heap:=s.heap.update S (Obj.putSet (SetTable.insertAt d (SetTable.below t.place j) (h,.ref u)) {t with place:=SetTable.insertAt t.place (SetTable.below t.place j) j})}):
 wpAny (mZ prog w) A (setAddHashed S (.ref u) h) Q E s:=by
 refine wc (wa (wf e g m ?_));dsimp only;refine wa (Pj e g m C r (wa (wf e g m ?_)))
 have l:t.put j=({t with place:=SetTable.insertAt t.place (SetTable.below t.place j) j},SetTable.below t.place j):=by
  unfold SetTable.put;rw[k];have:SetTable.has #[] j=false:=rfl;rw[this,if_neg qi]
 rw[l];dsimp only
 have a:({t with place:=SetTable.insertAt t.place (SetTable.below t.place j) j}).tooFull=false:=by
  have F:=by
   simp only[SetTable.fits,Qe]at m;exact m.1
  have D:(SetTable.insertAt t.place (SetTable.below t.place j) j).size<=2:=by
   rw[<-qj,gQ];simp;ac_nf
  unfold SetTable.tooFull SetTable.fill;rw[k];simp;ac_nf
 have c:(SetTable.insertAt d (SetTable.below t.place j) (h,Value.ref u)).size<=sizeLine:=by
  rw[<-qj,gQ,je];simp;ac_nf
 cases f:t.plain with
 | true=>
   refine wa (zY y B v ?_);rw[if_pos rfl];refine wa (wpAny_storeSet_of e g ?_ c);rw[f]at a p;rw[a];exact wb p
 | false=>
   refine wa (wb ?_);rw[if_pos rfl];refine wa (wpAny_storeSet_of e g ?_ c);rw[f]at a p;rw[a];exact wb p
def PairV(h:Heap)(u:Addr)(p:Int×Bool):Prop:=∃o tk n,h.get? u=some o/\o.cls=.type "tuple"/\o.data=.seq #[.int p.1 tk,.bool p.2] n
def pH(p:Int×Bool):Int:=gS [p.1,if p.2 then 1 else 0]
def PairV.keep{h h':Heap}{u:Addr}{p:Int×Bool}(x:PairV h u p)(k:∀o,h.get? u=some o->h'.get? u=some o):PairV h' u p:=by
 obtain⟨o,tk,n,a,r⟩:=x;exact⟨o,tk,n,k o a,r⟩
def PairV.key{h:Heap}{u:Addr}{p:Int×Bool}(x:PairV h u p):IsTupleKey (ew prog w) h [p.1,if p.2 then 1 else 0] u:=by
 obtain⟨o,tk,n,a,c,b⟩:=x;exact⟨o,_,n,a,c,b,(.cons (by simp[ew,fy]) (.cons (by simp[ew,fy]) .nil))⟩
theorem z4{l I S u:Addr}{a:Array Value}{i:Nat}{p:Int×Bool}{R:Result->Shared->Prop}(q:A.units+2<cLine)(h:s.heap.IsListIter I l i)(n:s.heap.IsList l a)(m:a[i]?=some (.ref u))(j:PairV s.heap u p)(f:u≠I)(k:∀d tk,d.IsListIter I l (i+1)->Heap.SameBut I s.heap d->wpAny (mZ prog w) A.in1 (setAddHashed S (.ref u) (pH p)) (λ_ s'=>codeAny (mZ prog w) A (.builtin "set.update.loop" ⟨[.ref S,.ref I],[]⟩) R s') (λe s'=>R (.error e) s') {s with heap:=d,toks:=tk}):
 codeAny (mZ prog w) A (.builtin "set.update.loop" ⟨[.ref S,.ref I],[]⟩) R s:=by
 exact wu F.entry_set_update_loop (wa (wpAny_pyNext_list_item h n m λd g c=>(wa (wc (wc (wa (wpAny_pyHash_tuple (by show A.units+1<cLine;ac_nf) (j.keep λo e=>by rw[c.2 u f];exact e).key (wv (k d _ g c) (λb s' hb=>(wb ⟨w5 F.plain_set_update_loop _,hb⟩)) λ_ _ x=>x))))))))
def rq{l I S:Addr}{a:Array Value}{i:Nat}{R:Result->Shared->Prop}(f:A.handled=none)(d:s.heap.IsListIter I l i)(e:s.heap.IsList l a)(g:a[i]?=none)(k:∀b,Heap.ExtBut I s.heap b->R (.ok (.ret .none)) {s with heap:=b}):
 codeAny (mZ prog w) A (.builtin "set.update.loop" ⟨[.ref S,.ref I],[]⟩) R s:=by
 exact wu F.entry_set_update_loop (wa (wpAny_pyNext_list_end f d e g λb c=>(wb (k b c))))
end
def eH(e:Int×Value):Value:=e.2
def SetV(w:World)(h:Heap)(a:Addr)(vs:AE):Prop:=
 ∃o b c t,h.get? a=some o/\o.ExactSet/\o.data=.set b c t/\b.toList.map eH=vs/\b.size<scanBound/\t.fits b.size=true/\Tab (dA w) t
def SetV.at{w:World}{h h':Heap}{a:Addr}{ns:AE}(x:SetV w h a ns)(e:∀o,h.get? a=some o->h'.get? a=some o):SetV w h' a ns:=
 let ⟨o,c,d,t,b,r⟩:=x
 ⟨o,c,d,t,e o b,r⟩
def SetV.len{w:World}{h:Heap}{a:Addr}{ns:AE}(x:SetV w h a ns):ns.length<scanBound:=by
 obtain⟨o,d,f,t,e,c,g,b,hb,_⟩:=x;rw[<-b,qf];exact hb
def nj(a:AE)(i:Nat)(v:Value):Prop:=a[i]?=some v
section
variable {w:World}{A:Around}{E:AC}{s:Shared}
theorem Pk{a:Addr}{ns:AE}(hS:SetV w s.heap a ns){Q:AC}(hQ:∀(h':Heap) (d':Drawn) (I:Addr) (fp:List Addr) (f:AE) (St:Nat->Heap->Prop),(∀b o,s.heap.get? b=some o->h'.get? b=some o)->(~~~s)<=I->I∈fp->
  (∀b∈fp,b<h'.objs.size/\(b=a\/(~~~s)<=b))->f.Perm ns->(∀y:Around,y.handled=none->Walks prog w y I fp [I] ns.length (nj f) St)->St 0 h'->
  (∀(i:Nat) (s':Shared),St i s'.heap->s'.TypeIs (.ref I) "set_iterator")->Q (.ref I) {s with heap:=h',drawn:=d' }):
 wpAny (mZ prog w) A (pyIter (.ref a)) Q E s:=by
 obtain⟨o,d,u,t,Y,X,hd,M,hb,P,ht⟩:=hS
 have hT:s.TypeIs (.ref a) "set":=⟨o,Y,X.1⟩
 have O:ns.length=d.size:=by rw[<-M,qf,qj]
 have C:a< ~~~s:=ql Y
 have hsa:SAt s.heap a d u t:=⟨o,Y,X,hd,P⟩
 have hps:t.place.size=d.size:=by
  simp only[SetTable.fits,Qe,beq_iff_eq]at P;exact P.1
 refine wpAny_pyIter_slot hT F.slot_set_iter (wd F.slot_set_iter hT HN ?_ (F.args_set_iter_1 _));unfold Builtin.«frozenset.__iter__»;show wpAny _ _ (Builtin.Frozenset.sizeOf a>>=_) _ _ s;unfold Builtin.Frozenset.sizeOf;refine wa (wa (wpAny_setEntries_of Y hd P (wb ?_)));refine wa ?_;unfold setDrawn;refine wa (wf Y hd P ?_);dsimp only;refine wa (ix (wb ?_))
 have plain:∀(f:AE) (st:Nat->Nat) (xv:Nat->Value),f.Perm ns->st 0=0->(∀i,i<d.size->nj f i (xv i))->
  (∀(s':Shared) (y:Around) (i:Nat) (q:AC),SAt s'.heap a d u t->i<d.size->∀l:Option (Value×Nat)->Shared->Prop,l (some (xv i,st (i+1))) s'->wpAny (mZ prog w) y (setNext a (st i) i u) l q s')->
  (∀(s':Shared) (y:Around) (q:AC),SAt s'.heap a d u t->∀l:Option (Value×Nat)->Shared->Prop,l none s'->wpAny (mZ prog w) y (setNext a (st d.size) d.size u) l q s')->
  wpAny (mZ prog w) A.in1 (do
   let x <-newFields "set_iterator" [rawInt 0,rawInt 0,.ref a,rawInt d.size,rawInt (<-setEpoch a)]
   ret x) (λU s'=>∃v,U=.done (.ret v)/\∃T' r,s'.TypeIs v T'/\typeLookup (.type T') "__next__"=pure (some r)/\Q v s') E s:=by
  intro f st xv hp h0 hx m hn;refine wa (wpAny_setEpoch_of Y hd P ?_);refine wa (we ?_);refine wb ⟨_,rfl,"set_iterator",_,⟨_,qp _ rfl,rfl⟩,slot_si_next.lookup,?_⟩
  have key:=hQ (s.heap.push {cls:=.type "set_iterator",data:=.fields #[rawInt 0,rawInt 0,.ref a,rawInt d.size,rawInt u]}) s.drawn (~~~s) [~~~s,a] f
   (λi h=>SIt h (~~~s) (.int (st i) 0) i a d.size u/\SAt h a d u t) (λb o e=>qe _ e) (qv _) nofun (λb hb=>by
    rw[wq];rcases qu hb with rfl|hb
    .exact⟨Qa _,.inr (qv _)⟩
    .rw[List.mem_singleton]at hb
     subst hb
     exact⟨qx C,.inl rfl⟩) hp (λy W=>{
    sub:=λb hb=>by simp at hb;simp[hb]
    frame:=λi h h' c hk=>⟨c.1.at λo e=>hk _ nofun o e,c.2.at λo e=>hk a nofun o e⟩
    item:=λi s' l q hlt' c g=>by
     refine HP c.1 c.2 (x:=xv i) (nx:=st (i+1)) (λA2 Q2 E2 n=>m s' A2 i E2 c.2 ∅ Q2 n) λh' J p=>?_;exact g _ h' s'.toks (hx i ∅) ⟨J,c.2.at λo e=>p.extBut a o (λz=>by subst z;exact absurd C (Nat.lt_irrefl _)) e⟩ λb o hb e=>p.extBut b o (λz=>hb (by simp[z])) e
    done:=λs' l q c g=>by
     rw[O]at c;exact HQ W c.1 c.2 (λA2 Q2 E2 n=>hn s' A2 E2 c.2 Q2 n) λh' T=>g h' s'.toks λb o hb e=>T b o (λz=>hb (by simp[z])) e
    self:=λi s' l q c g=>qE c.1 g}) ⟨⟨_,qp _ rfl,rfl,by rw[h0];rfl⟩,hsa.at λo e=>qe _ e⟩ (λi s' c=>c.1.typeIs)
  exact key
 have hdr:∀b:Bool,(!t.plain&&decide (d.size > 1))=b->wpAny (mZ prog w) A.in1 (if (!dA w&&b)=true then do
  let first <-newTuple ((<-drawOrder d.size (List.range d.size)).map fun(i:Nat)=>rawInt i)
  let x <-newFields "set_iterator" [first,rawInt 0,.ref a,rawInt d.size,rawInt (<-setEpoch a)]
  ret x
  else do
   let x <-newFields "set_iterator" [rawInt 0,rawInt 0,.ref a,rawInt d.size,rawInt (<-setEpoch a)]
   ret x) (λU s'=>∃v,U=.done (.ret v)/\∃T' r,s'.TypeIs v T'/\typeLookup (.type T') "__next__"=pure (some r)/\Q v s') E s:=by
  intro b K
  cases D:dA w with
  | true=>
    rw[if_neg nofun];generalize V:pickOrder (w.params.setOrder a u) d=k
    have hpm:k.toList.Perm d.toList:=by rw[<-V];exact yb _ _
    have hos:k.size=d.size:=by
     have:=hpm.length_eq;simpa using this
    refine plain (k.toList.map eH) (λ_=>0) (λi=>(k.getD i (0,.none)).2) (by rw[<-M];exact hpm.map eH) rfl (λi m=>?_) (λs' y i q R m l n=>?_) (λs' y q R l n=>?_)
    .have L:i<k.size:=by ac_nf
     show(k.toList.map eH)[i]?=some _;simp[L,eH,Array.getD]
    .have L:i<k.size:=by ac_nf
     refine qF D R ?_;rw[V,Array.getElem?_eq_getElem L];simp only[Array.getD,L,dite_true]at n;exact n
    .refine qF D R ?_
     rw[V,Array.getElem?_eq_none ∅];exact n
  | false=>
    have N:=ht.1 D
    cases b with
    | false=>
      rw[if_neg nofun]
      have G:cb t.place:=by
       cases hpl:t.plain with
       | true=>exact ht.2 hpl
       | false=>
         rw[hpl]at K
         have h1:t.place.toList.length<=1:=by
          simp at K;rw[qj];ac_nf
         unfold cb
         match t.place.toList,h1 with
         | [],_=>exact .nil
         | [x],_=>simp
      refine plain ns (fN t.place) (λi=>(d.getD i (0,.none)).2) .rfl rfl (λi m=>?_) (λs' y i q R m l n=>?_) (λs' y q R l n=>?_)
      .show ns[i]?=some _
       rw[<-M];simp[m,eH,Array.getD]
      .refine qG D K N R (qH G ∅) ?_
       have hi2:i<t.place.size:=by ac_nf
       rw[Array.getElem?_eq_getElem m,Array.getElem?_eq_getElem hi2];simp only[Array.getD,m,hi2,dite_true,fN]at n;exact n
      .refine qG D K N R (qH G ∅) ?_
       rw[Array.getElem?_eq_none (qv _)];exact n
    | true=>
      rw[if_pos nofun];refine wa (qB d.size (List.range d.size) s _ nofun λys d' hp=>?_);simp only[newTuple]
      have hyl:ys.length=d.size:=by rw[hp.length_eq];simp
      refine wa (we ?_ (by show(ys.map fun(i:Nat)=>rawInt i).toArray.size<=sizeLine;rw[qk,qf,hyl];exact fits_of_scanBound hb));have S:((s.heap.push {cls:=.type "tuple",data:=.seq (ys.map fun(i:Nat)=>rawInt i).toArray})).get? a=some o:=qe _ Y;refine wa (wpAny_setEpoch_of (s:={s with heap:=s.heap.push {cls:=.type "tuple",data:=.seq (ys.map fun(i:Nat)=>rawInt i).toArray},drawn:=d' }) S hd P ?_);refine wa (we ?_);refine wb ⟨_,rfl,"set_iterator",_,⟨_,qp _ rfl,rfl⟩,slot_si_next.lookup,?_⟩
      have hmem:∀j∈ys,j<d.size:=λj hj=>by simpa using hp.mem_iff.mp hj
      have hvp:(ys.map λj=>eH (d.getD j (0,.none))).Perm ns:=by
       rw[<-M];refine(hp.map _).trans ?_
       have:(List.range d.size).map (λj=>eH (d.getD j (0,.none)))=d.toList.map eH:=by
        refine List.ext_getElem nofun λi h1 h2=>?_
        have m:i<d.size:=by simpa using h1
        simp[Array.getD,m]
       rw[this]
      generalize hH:s.heap.push {cls:=.type "tuple",data:=.seq (ys.map fun(i:Nat)=>rawInt i).toArray}=H at S ⊢
      have B:H.objs.size= ~~~s+1:=by rw[<-hH,wq]
      have hT0:H.IsTuple (~~~s) (ys.map fun(i:Nat)=>rawInt i).toArray:=⟨_,by rw[<-hH];exact qp _ rfl,rfl,_,rfl⟩
      have Z:∀b o,s.heap.get? b=some o->H.get? b=some o:=λb o e=>by rw[<-hH];exact qe _ e
      have haI:a≠H.objs.size:=λz=>by rw[z,B]at C;exact absurd C (Nat.not_lt.mpr (Nat.le_succ _))
      have hTI:(~~~s)≠H.objs.size:=by rw[B];exact qm (Qa _)
      exact hQ (H.push {cls:=.type "set_iterator",data:=.fields #[.ref (~~~s),rawInt 0,.ref a,rawInt d.size,rawInt u]}) d' H.objs.size [H.objs.size,a,~~~s] (ys.map λj=>eH (d.getD j (0,.none)))
       (λi h=>SIt h H.objs.size (.ref (~~~s)) i a d.size u/\SAt h a d u t/\h.IsTuple (~~~s) (ys.map fun(i:Nat)=>rawInt i).toArray) (λb o e=>qe _ (Z b o e)) ∅ nofun (λb hb=>by
        rw[wq];simp only[List.mem_cons,List.not_mem_nil,or_false]at hb;rcases hb with rfl|rfl|rfl
        .exact⟨Qa _,.inr (by rw[B];exact Nat.le_succ _)⟩
        .exact⟨qx (by rw[B];exact qx C),.inl rfl⟩
        .exact⟨qx (by rw[B];exact Qa _),.inr (qv _)⟩) hvp (λy W=>{
        sub:=λb hb=>by simp at hb;simp[hb]
        frame:=λi h h' c hk=>⟨c.1.at λo e=>hk _ nofun o e,c.2.1.at λo e=>hk a nofun o e,c.2.2.at λo e=>hk _ nofun o e⟩
        item:=λi s' l q hlt' c g=>by
         have m:i<ys.length:=by ac_nf
         have hj:=hmem ys[i] (List.getElem_mem m);refine HR c.1 c.2.1 c.2.2 (j:=ys[i]) (tk:=0) (e:=d[ys[i]]) (by simp[m,rawInt]) (Array.getElem?_eq_getElem hj) λh' J p=>?_;refine g _ h' s'.toks ?_ ⟨J,c.2.1.at λo e=>p.extBut a o haI e,c.2.2.at λo e=>p.extBut _ o hTI e⟩ λb o hb e=>p.extBut b o (λz=>hb (by simp[z])) e;show(ys.map λj=>eH (d.getD j (0,.none)))[i]?=some d[ys[i]].2;simp[m,Array.getD,hj,eH]
        done:=λs' l q c g=>by
         rw[O]at c;exact HS W c.1 c.2.1 c.2.2 (by simp[hyl]) λh' T=>g h' s'.toks λb o hb e=>T b o (λz=>hb (by simp[z])) e
        self:=λi s' l q c g=>qE c.1 g}) ⟨⟨_,qp _ rfl,rfl,rfl⟩,⟨o,qe _ S,X,hd,P⟩,hT0.push _⟩ (λi s' c=>c.1.typeIs)
 exact hdr _ rfl
theorem Pl{a:Addr}{ns:AE}(hh:A.handled=none)(S:SetV w s.heap a ns){Q:AE->Shared->Prop}(hQ:∀(h':Heap) (d':Drawn) (tk:Nat) (B:AE),~~~s<=h'.objs.size->(∀b o,s.heap.get? b=some o->h'.get? b=some o)->B.Perm ns->Q B {s with heap:=h',drawn:=d',toks:=tk}):
 wpAny (mZ prog w) A (collect (.ref a)) Q E s:=by
 obtain⟨o,es,ep,t,ho,v,hd,_⟩:=id S;have x:a< ~~~s:=ql ho;have J:=S.len;unfold collect;refine wa (wpAny_runValue (wu F.entry_proto_collect ?_));rw[ja F.plain_proto_collect _];show wpAny _ A.in1 (newList []>>=λl=>again (.builtin "list.__iadd__" ⟨[l,.ref a],[]⟩)) _ _ s;refine wa (we ?_);refine wb ⟨w5 F.plain_list_iadd _,wu F.entry_list_iadd ?_⟩;rw[ja F.plain_list_iadd _];generalize V:s.heap.push {cls:=.type "list",data:=.seq ([]:AE).toArray}=H
 have r:H.objs.size= ~~~s+1:=by rw[<-V,wq]
 have c:∀b o,s.heap.get? b=some o->H.get? b=some o:=λb o e=>by rw[<-V];exact qe _ e
 have hL:H.get? (~~~s)=some {cls:=.type "list",data:=.seq ([]:AE).toArray}:=by rw[<-V];exact qp _ rfl
 have y:=c a o ho
 have hT:Shared.TypeIs {s with heap:=H} (.ref a) "set":=⟨o,y,v.1⟩
 have D:(~~~s)≠a:=λz=>by rw[<-z]at x;exact absurd x (Nat.lt_irrefl _)
 have N:Builtin.List.listSameRef (.ref (~~~s)) (.ref a)=false:=by simp[Builtin.List.listSameRef,D]
 show wpAny _ A.in1 (Builtin.List.listExtendWith (.ref (~~~s)) (.ref a) (.ref (~~~s))) _ _ _;unfold Builtin.List.listExtendWith;refine wa (wpAny_typeOf hT ?_)
 have T:(Value.type "set"==Value.type "list")=false:=by decide
 have K:(Value.type "set"==Value.type "tuple")=false:=by decide
 simp only[N,T,K,Bool.or_false,Qo,if_false];refine wa (Pk (s:={s with heap:=H}) (S.at λo e=>c a o e) λh' d' I fp k St f hI hIf X hp hW U hty=>?_);have P:=f a o y
 have n:Shared.TypeIs {s with heap:=h',drawn:=d' } (.ref a) "set":=⟨o,P,v.1⟩
 refine wa (wc ?_);unfold Builtin.List.listLengthHint;refine wa (wpAny_specialOf n F.slot_set_len.lookup ?_);refine wa (wpAny_isInstance (b:=true) n rb ?_);show wpAny _ A.in1 (typeOf (Value.ref a)>>=_) _ _ _;refine wa (wpAny_typeOf n ?_);refine wb ?_;rw[if_pos (by decide)];refine wa (wpAny_rule ?_)
 have G:(~~~s)∉fp:=λq=>by
  rcases(X _ q).2 with z|z
  .exact D z
  .rw[show({s with heap:=H}:Shared).heap.objs.size=H.objs.size from rfl,r]at z
   exact absurd z (Nat.not_le.mpr (Qa _))
 have g:h'.get? (~~~s)=some {cls:=.type "list",data:=.seq ([]:AE).toArray}:=f _ _ hL;refine wa ?_;refine wa (wpAny_updateSeq g rfl ?_);have i:=wt (Obj.mapSeq (·.push Value.none)) g rfl;refine wpAny_updateSeq i rfl ?_;have p:=wt (Obj.mapSeq (·.pop)) i rfl
 have C:∀b o,b≠(~~~s)->h'.get? b=some o->
  ((h'.update (~~~s) (Obj.mapSeq (·.push Value.none))).update (~~~s) (Obj.mapSeq (·.pop))).get? b=some o:=
  λb o hb e=>(Heap.get?_update_other _ _ (Ne.symm hb)).trans ((Heap.get?_update_other _ _ (Ne.symm hb)).trans e)
 have W:=(hW A.in1 hh).toS
 refine wb ⟨w5 F.plain_extend_loop _,codeAny_extend_loopS W (fits_of_scanBound J) _ G _ ns.length 0 _ _ _ rfl (Qh _)
  (W.frame 0 ({s with heap:=h',drawn:=d' }:Shared) _ s.toks U (qv _) λb hb o e=>C b o (λh=>G (h ▸ hb)) e) p (ItemsOf.nil _) λs' d c' q u m=>?_⟩
 show wpAny _ A (load (~~~s)>>=_) _ _ s';refine wa (wpAny_load u ?_);have Y:s'.gens=s.gens:=q.gens;have ed:s'.drawn=d':=q.drawn;have Z:s'.os=s.os:=q.os
 have O:s'={s with heap:=s'.heap,drawn:=d',toks:=s'.toks}:=by
  obtain⟨a1,a2,a3,a4,a5⟩:=s';simp only at Y ed Z;subst Y;subst ed;subst Z;rfl
 rw[O]
 have M:d.toList=k:=by
  refine List.ext_getElem (by rw[qj,m.1,hp.length_eq]) λj N T=>?_;have:=m.2 j d.toList[j] (by rw[<-Array.getElem?_toList,qr N]);have K:k[j]?=some d.toList[j]:=this;rw[qr T]at K;exact(wx K).symm
 refine wb (hQ s'.heap d' s'.toks d.toList (Nat.le_of_lt (ql u)) (λb L e=>?_) (by rw[M];exact hp));have hb:b< ~~~s:=ql e;refine q.heap b L (λR=>?_) (C b L (qm hb) (f b L (c b L e)));rcases qu R with z|z
 .rw[z]at hb;exact absurd hb (Nat.lt_irrefl _)
 .rw[List.mem_singleton.mp z]at hb
  have:H.objs.size<=I:=hI;rw[r]at this;exact absurd (Qi hb (Qg (Nat.le_succ _) this)) (Nat.lt_irrefl _)
structure SetQ(w:World)(h:Heap)(a:Addr)(us:List (Int×Addr)):Prop where
 ex:∃o es ep t,h.get? a=some o/\o.ExactSet/\o.data=.set es ep t/\es.toList=us.map (λu=>(u.1,Value.ref u.2))/\t.fits es.size=true/\t.mask=7/\t.dummies=#[]/\t.place.toList=us.map (λu=>SetTable.bits u.1%8)/\Tab (dA w) t
def SetQ.keep{h h':Heap}{a:Addr}{us:List (Int×Addr)}(x:SetQ w h a us)(k:∀o,h.get? a=some o->h'.get? a=some o):SetQ w h' a us:=by
 obtain⟨o,c,b,t,d,r⟩:=x.ex;exact⟨o,c,b,t,k o d,r⟩
theorem SetQ.vals{h:Heap}{a:Addr}{us:List (Int×Addr)}(x:SetQ w h a us)(n:us.length<=1):SetV w h a (us.map λu=>Value.ref u.2):=by
 obtain⟨o,i,f,t,j,e,g,b,c,k,m,l,d⟩:=x.ex;refine⟨o,i,f,t,j,e,g,?_,?_,c,d⟩
 .rw[b,Qf]
  rfl
 .rw[<-qj,b,qf]
  have:scanBound=4096:=rfl;ac_nf
theorem z_{S u:Addr}{us:List (Int×Addr)}{p:Int×Bool}{Q:Bool->Shared->Prop}(Y:SetQ w s.heap S us)(W:us.length<=1)(y:PairV s.heap u p)(x:∀q∈us,q.1≠pH p)(T:∀h' vs,Heap.SameBut S s.heap h'->SetV w h' S vs->vs.Perm ((us.map λu=>Value.ref u.2)++[.ref u])->(us=[]->SetQ w h' S [(pH p,u)])->Q true {s with heap:=h' }):wpAny (mZ prog w) A (setAddHashed S (.ref u) (pH p)) Q E s:=by
 obtain⟨o,a,ep,t,J,k,K,D,F,l,f,Z,I⟩:=Y.ex;obtain⟨ou,tk,n,N,P,O⟩:=y
 have e:a.size=us.length:=by rw[<-qj,D,qf]
 have v:t.place.size=a.size:=by
  simp only[SetTable.fits,Qe,beq_iff_eq]at F;exact F.1
 obtain⟨j,G,V,h,B⟩:∃j,t.probe (ni a) (pH p) (t.probeStart (pH p))=some (.empty j none)/\j<8/\(∀i,t.slot j≠.live i)/\(us=[]->j=SetTable.bits (pH p)%8):=by
  generalize pH p=y at x ⊢;rcases us with _|⟨q,_|⟨q2,r⟩⟩
  .have b:t.place=#[]:=Array.size_eq_zero_iff.mp (by rw[v,e];rfl)
   refine⟨_,Ph l b f _ _,by ac_nf,λi z=>?_,λ_=>rfl⟩;rw[Ja b f]at z;cases z
  .have b:t.place=#[SetTable.bits q.1%8]:=by
    apply Array.toList_inj.mp;rw[Z];rfl
   have g:a=#[(q.1,.ref q.2)]:=by
    apply Array.toList_inj.mp;rw[D];rfl
   have M:=x q qh
   obtain⟨j,U,L,R⟩:=Pi l b f ∅ (hA:=ni a) (h:=y) (by
    rw[g]
    simpa [ni]using M)
   refine⟨j,U,R,λi z=>?_,λz=>by cases z⟩;rw[ng b f,if_neg L]at z;cases z
  .simp at W
 refine zZ J K F l f ∅ G N P O ?_;have H:=iw J K (SetTable.insertAt a (SetTable.below t.place j) (pH p,.ref u)) {t with place:=SetTable.insertAt t.place (SetTable.below t.place j) j}
 have e1:(SetTable.insertAt a (SetTable.below t.place j) (pH p,Value.ref u)).size=us.length+1:=by
  rw[<-qj,gQ];simp;ac_nf
 have e2:(SetTable.insertAt t.place (SetTable.below t.place j) j).size=us.length+1:=by
  rw[<-qj,gQ];simp;ac_nf
 have d:({t with place:=SetTable.insertAt t.place (SetTable.below t.place j) j}).fits (us.length+1)=true:=by
  unfold SetTable.fits SetTable.fill;simp only[e2,l,f,Qe,beq_iff_eq,wg];exact⟨trivial,by simp;ac_nf⟩
 have c:Tab (dA w) {t with place:=SetTable.insertAt t.place (SetTable.below t.place j) j}:=⟨I.1,λz=>HE (I.2 z) j (HF h)⟩
 have X:scanBound=4096:=rfl;refine T _ _ (wo ..) ⟨_,_,_,_,H,⟨k.1,k.2.1,k.2.2⟩,rfl,rfl,by rw[e1];ac_nf,by rw[e1];exact d,c⟩ ?_ λb=>?_
 .have C:(a.toList.map eH).Perm (us.map λu=>Value.ref u.2):=by
   rw[D,Qf];exact .refl _
  have m:((SetTable.insertAt a (SetTable.below t.place j) (pH p,Value.ref u)).toList).Perm (a.toList++[(pH p,Value.ref u)]):=by
   rw[gQ];refine List.perm_middle.trans ?_;rw[List.take_append_drop];exact List.perm_append_comm (l₁:=[_])
  have:=m.map eH;rw[Qk]at this;exact this.trans (C.append_right _)
 .subst b
  have b:t.place=#[]:=Array.size_eq_zero_iff.mp (by rw[v,e];rfl);have g:a=#[]:=Array.size_eq_zero_iff.mp (by rw[e];rfl);refine⟨_,_,_,_,H,⟨k.1,k.2.1,k.2.2⟩,rfl,?_,by rw[e1];exact d,l,f,?_,c⟩
  .rw[gQ,g]
   simp
  .rw[gQ,b,B rfl]
   simp
def Jc{u:Addr}{p:Int×Bool}{Q:Bool->Shared->Prop}(b:PairV s.heap u p)(h:Q false s):wpAny (mZ prog w) A (ofAClassStatement 8 (.ref u)) Q E s:=by
 obtain⟨o,tk,n,a,c,d⟩:=b;unfold ofAClassStatement;exact wa (wpAny_typeOf (⟨o,a,c⟩) (wa (wb (wa (wpAny_seqItems a d (wb h))))))
def Pm{u v:Addr}{p q:Int×Bool}{Q:Bool->Shared->Prop}(b:PairV s.heap u p)(a:PairV s.heap v q)(h:Q false s):wpAny (mZ prog w) A (searchCouldBeSeen (.ref u) [.ref v]) Q E s:=by
 unfold searchCouldBeSeen;simp[carriedByValue];by_cases e:u=v
 .rw[if_pos e]
  exact wa (wb (wa (wb (wb h))))
 .rw[if_neg e]
  exact wa (wa (wpAny_eqIsQuiet_tuple b.key (wa (wpAny_eqIsQuiet_tuple a.key (wa (Jc b (wa (Jc a (wb (wa (wb (wb h))))))))))))
def Pn{t:SetTable}{h:Int}(a:t.mask=7)(d:t.place=#[SetTable.bits h%8])(c:t.dummies=#[]){hA:Nat->Int}(b:hA 0=h):∃nx,t.probe hA h (t.probeStart h)=some (.candidate (SetTable.bits h%8) 0 nx):=by
 unfold SetTable.probe;rw[a,zX a];show ∃nx,SetTable.probe.go t hA h (219+1) _=_;rw[SetTable.probe.go,ng d c,if_pos rfl];dsimp only;rw[b,if_pos nofun];exact⟨_,rfl⟩
theorem Po{S u v:Addr}{p:Int×Bool}{h:Int}{o:Obj}{a:Array (Int×Value)}{x:Nat}{t:SetTable}{nx:SetTable.Probe}{j:Nat}{Q:SetFound->Shared->Prop}(b:Nat)(q:A.units<cLine)(n:s.heap.get? S=some o)(k:o.data=.set a x t)(f:t.fits a.size=true)(z:t.mask=7)(c:a=#[(h,.ref v)])(e:t.probe (λi=>(a[i]?.map (·.1)).getD 0) h (t.probeStart h)=some (.candidate j 0 nx))(l:PairV s.heap v p)(m:PairV s.heap u p)(r:Q (.there none) s):wpAny (mZ prog w) A (setSearchFrom S (.ref u) h true (b+1) none) Q E s:=by
 refine wa (wf n k f ?_);dsimp only
 have y:t.gaveWay=false:=by unfold SetTable.gaveWay;rw[z];rfl
 rw[y];show wpAny _ _ (match t.probe (λi=>(a[i]?.map (·.1)).getD 0) h (t.probeStart h)with|some B=>_|_=>_) _ _ _;rw[e];dsimp only
 have g:((a.filter (·.1==h)).toList.map (·.2))=[Value.ref v]:=by
  rw[c];simp
 have d:a[0]?=some (h,.ref v):=by rw[c];rfl
 rw[g,d]
 cases t.led with
 | true=>
   refine wa (wc (wpAny_eqBool_tuple q l.key m.key ?_));rw[wh rfl];exact wa (wf n k f (wb r))
 | false=>
   refine wa (Pm m l (wa (wc (wpAny_eqBool_tuple q l.key m.key ?_))));rw[wh rfl];exact wa (wf n k f (wb r))
def Pp{S u:Addr}{h:Int}{o:Obj}{c:Array (Int×Value)}{f:Nat}{t:SetTable}{Q:Bool->Shared->Prop}(i:s.heap.get? S=some o)(g:o.data=.set c f t)(e:t.fits c.size=true)(a:∀b:SetFound->Shared->Prop,b (.there none) s->wpAny (mZ prog w) A (setSearch S (.ref u) h true) b E s)(d:Q false s):wpAny (mZ prog w) A (setAddHashed S (.ref u) h) Q E s:=by
 exact wc (wa (wf i g e (wa (a _ (wb d)))))
theorem Aa{S u v:Addr}{p:Int×Bool}{d:Int}{Q:Bool->Shared->Prop}(x:A.units<cLine)(l:SetQ w s.heap S [(d,v)])(r:PairV s.heap v p)(C:PairV s.heap u p)(m:Q false s):wpAny (mZ prog w) A (setAddHashed S (.ref u) d) Q E s:=by
 obtain⟨o,g,G,t,j,F,h,z,k,f,y,B,H⟩:=l.ex
 have a:g=#[(d,.ref v)]:=by
  apply Array.toList_inj.mp;rw[z];rfl
 have n:t.place=#[SetTable.bits d%8]:=by
  apply Array.toList_inj.mp;rw[B];rfl
 obtain⟨nx,e⟩:=Pn f n y (hA:=λi=>(g[i]?.map (·.1)).getD 0) (by rw[a];rfl);refine Pp j h k (λD q=>?_) m;have b:100000=99999+1:=rfl;unfold setSearch;rw[b];generalize 99999=c;exact Po c x j h k f a e r C q
def cj:List Addr->List (Int×Bool)->List Addr
 | [a,c],[b,d]=>if b=d then [a]else [a,c]
 | us,_=>us
theorem Pq{l I S:Addr}{us:List Addr}{ps:List (Int×Bool)}{R:Result->Shared->Prop}(X:A.handled=none)(hu:A.units+2<cLine)(N:s.heap.IsListIter I l 0)(J:s.heap.IsList l (us.map Value.ref).toArray)(h2:us.length<=2)(y:ps.length=us.length)(hp:∀(i:Nat) u p,us[i]?=some u->ps[i]?=some p->PairV s.heap u p)(hd:∀p q,ps=[p,q]->p=q\/pH p≠pH q)(hS:SetQ w s.heap S [])(C:l≠I)(c:S≠I)(v:l≠S)(B:∀u∈us,u≠I)(W:∀u∈us,u≠S)(hR:∀h' tk vs,SetV w h' S vs->vs.Perm ((cj us ps).map Value.ref)->(∀b o,b≠S->b≠I->s.heap.get? b=some o->h'.get? b=some o)->R (.ok (.ret .none)) {s with heap:=h',toks:=tk}):
 codeAny (mZ prog w) A (.builtin "set.update.loop" ⟨[.ref S,.ref I],[]⟩) R s:=by
 have Y:∀{h h':Heap}{its:Array Value},h.IsList l its->(∀o,h.get? l=some o->h'.get? l=some o)->h'.IsList l its:=λx k=>let ⟨o,e,r⟩:=x;⟨o,k o e,r⟩;have ik:∀{h h':Heap}{i:Nat},h.IsListIter I l i->(∀o,h.get? I=some o->h'.get? I=some o)->h'.IsListIter I l i:=λx k=>let ⟨o,e,r⟩:=x;⟨o,k o e,r⟩;rcases us with _|⟨D,_|⟨Q,_|⟨u3,ur⟩⟩⟩
 .refine rq X N J rfl λh1 d=>?_
  exact hR h1 s.toks _ ((hS.keep λo e=>d S o c e).vals nofun) (.refl _) λb o _ hb e=>d b o hb e
 .rcases ps with _|⟨P,_|⟨T,pr⟩⟩
  .simp at y
  .have j:=hp 0 D P rfl rfl
   refine z4 hu N J rfl j (B D nofun) λh1 F H d=>?_;refine z_ (hS.keep λo e=>by rw[d.2 S c];exact e) nofun (j.keep λo e=>by rw[d.2 D (B D nofun)];exact e) nofun λO vs2 m hn2 hp2 t=>?_;refine rq X (ik H λo e=>by rw[m.2 I (Ne.symm c)];exact e) (Y J λo e=>by rw[m.2 l v,d.2 l C];exact e) rfl λh3 g=>?_;refine hR h3 F _ (((t rfl).keep λo e=>g S o c e).vals nofun) (.refl _) λb o f a e=>g b o a (by rw[m.2 b f,d.2 b a];exact e)
  .simp at y
 .rcases ps with _|⟨P,_|⟨T,_|⟨p3,pr⟩⟩⟩
  .simp at y
  .simp at y
  .have j:=hp 0 D P rfl rfl
   have K:=hp 1 Q T rfl rfl;have n1:=B D nofun;have Z:=B Q nofun;have m2:=W Q nofun;refine z4 hu N J rfl j n1 λh1 F H d=>?_;refine z_ (hS.keep λo e=>by rw[d.2 S c];exact e) nofun (j.keep λo e=>by rw[d.2 D n1];exact e) nofun λO vs2 m hn2 hp2 t=>?_
   have k2:∀b o,b≠S->b≠I->s.heap.get? b=some o->O.get? b=some o:=λb o f a e=>by rw[m.2 b f,d.2 b a];exact e
   refine z4 (s:={s with heap:=O,toks:=F}) hu (ik H λo e=>by rw[m.2 I (Ne.symm c)];exact e) (Y J λo e=>k2 l o v C e) rfl (K.keep λo e=>k2 Q o m2 Z e) Z λh3 V U g=>?_
   have G:∀b o,b≠S->b≠I->s.heap.get? b=some o->h3.get? b=some o:=λb o f a e=>by rw[g.2 b a];exact k2 b o f a e
   by_cases L:P=T
   .subst L
    refine Aa ∅ ((t rfl).keep λo e=>by rw[g.2 S c];exact e) (j.keep λo e=>G D o (W D nofun) n1 e) (K.keep λo e=>G Q o m2 Z e) ?_;refine rq X U (Y J λo e=>G l o v C e) rfl λh5 n=>?_;refine hR h5 V _ (((t rfl).keep λo e=>n S o c (by rw[g.2 S c];exact e)).vals nofun) ?_ λb o f a e=>n b o a (G b o f a e);rw[cj,if_pos rfl];exact .refl _
   .have hdp:pH P≠pH T:=by
     rcases hd P T rfl with z|z
     .exact absurd z L
     .exact z
    refine z_ ((t rfl).keep λo e=>by rw[g.2 S c];exact e) nofun (K.keep λo e=>G Q o m2 Z e) (λq hq=>?_) λh4 vs4 M hn4 hp4 _=>?_
    .simp only[List.mem_singleton]at hq
     rw[hq];exact hdp
    .refine rq X (ik U λo e=>by rw[M.2 I (Ne.symm c)];exact e) (Y J λo e=>by rw[M.2 l v];exact G l o v C e) rfl λh5 n=>?_
     refine hR h5 V vs4 (hn4.at λo e=>n S o c e) ?_ λb o f a e=>n b o a (by rw[M.2 b f];exact G b o f a e);rw[cj,if_neg L];exact hp4
  .simp at y
 .simp at h2
theorem Pr{l:Addr}{us:List Addr}{ps:List (Int×Bool)}{Q:AC}(W:A.handled=none)(hu:A.units+8<cLine)(N:s.heap.IsList l (us.map Value.ref).toArray)(Y:us.length<=2)(I:ps.length=us.length)(S:∀(i:Nat) u p,us[i]?=some u->ps[i]?=some p->PairV s.heap u p)(X:∀p q,ps=[p,q]->p=q\/pH p≠pH q)(h:∀(h':Heap) (tk:Nat) vs,SetV w h' (~~~s) vs->vs.Perm ((cj us ps).map Value.ref)->(∀b o,s.heap.get? b=some o->h'.get? b=some o)->Q (.ref (~~~s)) {s with heap:=h',toks:=tk}):
 wpAny (mZ prog w) A (call (.type "set") [.ref l]) Q E s:=by
 refine x9 (Q₁:=λx f=>x=.ref (~~~s)/\f={s with heap:=s.heap.push (bY w)}) F.called_set (F.typeCall_set_1 _) F.entry_set_init (x_ _ ⟨rfl,rfl⟩) ?_;rintro x f ⟨rfl,rfl⟩;have M:(s.heap.push (bY w)).get? (~~~s)=some (bY w):=qp _ rfl
 have T:Shared.TypeIs {s with heap:=s.heap.push (bY w)} (.ref (~~~s)) "set":=⟨_,M,rfl⟩
 refine⟨T,λA' E' Q' V=>check_set_init_1 T V,?_⟩
 have r:∀u∈us,u< ~~~s:=λu y=>by
  obtain⟨i,C,e⟩:=List.getElem_of_mem y
  have L:i<ps.length:=by ac_nf
  obtain⟨o,_,_,Z,_⟩:=S i u ps[i] (by rw[qr C,e]) (qr L);exact ql Z
 generalize n:(us.map Value.ref).toArray=a at N;obtain⟨ol,t,m,U,v⟩:=N;obtain⟨O,j,H,d⟩:=ol;simp only at m v;subst m;subst v;have B:(s.heap.push (bY w)).get? l=some {cls:=.type "list",dict:=j,data:=.seq a U,slots:=d}:=qe _ t;have P:=F.sub_list_set;have R:=F.sub_list_frozenset
 have hne:(Value.type "list"==Value.type "dict")=false:=by decide
 have z:(s.heap.push (bY w)).IsList l a:=⟨_,B,rfl,U,rfl⟩
 unfold Builtin.«set.__init__» noKeywords Builtin.Frozenset.updateFrom;generalize J:pyIter=PI
 wp_walk
 subst J;refine wpAny_pyIter_list z ?_;refine wa (wpAny_runValue ?_);have k:l< ~~~s:=ql t;have c:(s.heap.push (bY w)).objs.size= ~~~s+1:=wq ..;have g:((s.heap.push (bY w)).push {cls:=.type "list_iterator",data:=.fields #[.ref l,.int 0 0]}).IsList l a:=z.push _;rw[<-n]at g;refine Pq (us:=us) (ps:=ps) (by simp[W]) (by show _+2<cLine;simp;ac_nf) ⟨_,qp _ rfl,rfl,rfl⟩ g Y I (λi u p C D=>(S i u p C D).keep λo e=>qe _ (qe _ e)) X ?_ ?_ ?_ ?_ ?_ ?_ ?_
 .exact⟨bY w,#[],0,_,qe _ M,⟨rfl,rfl,rfl⟩,rfl,rfl,rfl,rfl,rfl,rfl,.fresh⟩
 .rw[c];exact qm (qx k)
 .rw[c];exact qm (Qa _)
 .exact qm k
 .intro u y;rw[c];exact qm (qx (r u y))
 .intro u y;exact qm (r u y)
 .intro h' tk vs hN G K
  show wpAny _ _ _ _ _ _;refine wb ?_;show wpAny _ _ (ret Value.none) _ _ _;refine wb ⟨rfl,h h' tk vs hN G λb o e=>?_⟩;have hb:=ql e;exact K b o (qm hb) (by rw[c];exact qm (qx hb)) (qe _ (qe _ e))
theorem nq{L:Addr}{vs:AE}{Q:Fin->Shared->Prop}(a:s.heap.get? L=some (seqObj "list" vs.toArray 0))(l:vs.length<2)(k:∀h' e,(∀b o,b≠L->s.heap.get? b=some o->h'.get? b=some o)->h'.get? L=some (seqObj "list" vs.toArray e)->Q (.done (.ret .none)) {s with heap:=h' }):
 wpAny (mZ prog w) A (Builtin.«list.sort» ⟨[.ref L],[]⟩) Q E s:=by
 rw[list_sort_plain];have j:=ql a;refine wa (listItems_at a rfl ?_);refine wa (listUpdate_at a rfl ?_ (by rw[qk,je];ac_nf) (Qh _))
 obtain⟨e1,f⟩:∃e1,(s.heap.update L (Obj.mapSeq λ_=>#[])).get? L=some (seqObj "list" #[] e1):=⟨_,get?_update_seq a (λ_=>#[])⟩
 refine wa (seqEpoch_at f rfl ?_);refine wa (wpAny_newTuple ?_ (by rw[je];ac_nf));refine wa (wpAny_newList ?_ (Qh _));refine wc ?_
 have c:(((s.heap.update L (Obj.mapSeq λ_=>#[])).push (seqObj "tuple" vs.toArray 0)).push (seqObj "list" #[] 0)).get? L=some (seqObj "list" #[] e1):=by
  rw[Heap.get?_push_ne _ _ _ (by rw[size_push',Heap.size_update];exact qm (qx j)),Heap.get?_push_ne _ _ _ (by rw[Heap.size_update];exact qm j)];exact f
 have d:∀b o,b≠L->s.heap.get? b=some o->(((s.heap.update L (Obj.mapSeq λ_=>#[])).push (seqObj "tuple" vs.toArray 0)).push (seqObj "list" #[] 0)).get? b=some o:=λb o hb q=>by
  refine qe _ (qe _ ?_);rw[Heap.get?_update_ne _ _ _ _ hb];exact q
 have h:vs.toArray.size<2:=by exact l
 rw[if_pos h,if_pos h];refine wa (wb ?_);refine wa (wb ?_);dsimp only;refine wa (seqEpoch_at c rfl ?_);refine wa (listUpdate_at c rfl ?_ (hsz2:=by rw[Array.size_map];show(PyProof.Rows.pairsOf vs).size<=_;rw[pairsOf_size];ac_nf));simp only[bne_self_eq_false,Qo]
 have i:=by
  show(vs.toArray.zip vs.toArray).map (·.2)=vs.toArray;simp[List.map_snd_zip]
 refine wb ?_;rw[i];exact k _ _ (λb o hb q=>by rw[Heap.get?_update_ne _ _ _ _ hb];exact d b o hb q) (get?_update_seq c (λ_=>vs.toArray))
theorem nt{L b c:Addr}{i j:Int}{p q:Bool}{t u:Tok}{Q:Fin->Shared->Prop}(f:s.heap.get? L=some (seqObj "list" #[.ref b,.ref c] 0))(hb:IsTup s.heap b #[.int i t,.bool p])(Z:IsTup s.heap c #[.int j u,.bool q])(J:b≠L)(K:c≠L)(T:∀h' e,(∀b o,b≠L->s.heap.get? b=some o->h'.get? b=some o)->h'.get? L=some (seqObj "list" (if bS j q i p=true then #[.ref c,.ref b]else #[.ref b,.ref c]) e)->Q (.done (.ret .none)) {s with heap:=h' }):
 wpAny (mZ prog w) A (Builtin.«list.sort» ⟨[.ref L],[]⟩) Q E s:=by
 obtain⟨vs,g⟩:∃vs,[Value.ref b,Value.ref c]=vs:=⟨_,rfl⟩
 have G:vs.length=2:=by rw[<-g];rfl
 have f:s.heap.get? L=some (seqObj "list" vs.toArray 0):=by rw[<-g];exact f
 rw[list_sort_plain];have O:=ql f;refine wa (listItems_at f rfl ?_);refine wa (listUpdate_at f rfl ?_ (by rw[qk,je];ac_nf) (Qh _))
 obtain⟨e1,C⟩:∃e1,(s.heap.update L (Obj.mapSeq λ_=>#[])).get? L=some (seqObj "list" #[] e1):=⟨_,get?_update_seq f (λ_=>#[])⟩
 refine wa (seqEpoch_at C rfl ?_);refine wa (wpAny_newTuple ?_ (by rw[je];ac_nf));refine wa (wpAny_newList ?_ (Qh _));refine wc ?_
 have z:(((s.heap.update L (Obj.mapSeq λ_=>#[])).push (seqObj "tuple" vs.toArray 0)).push (seqObj "list" #[] 0)).get? L=some (seqObj "list" #[] e1):=by
  rw[Heap.get?_push_ne _ _ _ (by rw[size_push',Heap.size_update];exact qm (qx O)),Heap.get?_push_ne _ _ _ (by rw[Heap.size_update];exact qm O)];exact C
 have a:∀b o,b≠L->s.heap.get? b=some o->(((s.heap.update L (Obj.mapSeq λ_=>#[])).push (seqObj "tuple" vs.toArray 0)).push (seqObj "list" #[] 0)).get? b=some o:=λb o hb q=>by
  refine qe _ (qe _ ?_);rw[Heap.get?_update_ne _ _ _ _ hb];exact q
 generalize ((s.heap.update L (Obj.mapSeq λ_=>#[])).push (seqObj "tuple" vs.toArray 0)).push (seqObj "list" #[] 0)=h6 at z a ⊢;generalize l:({s with heap:=h6})=m
 have r:m.heap.get? L=some (seqObj "list" #[] e1):=by rw[<-l];exact z
 have M:IsTup m.heap b #[.int i t,.bool p]:=by
  obtain⟨o,I,D⟩:=hb;exact⟨o,by rw[<-l];exact a b o J I,D⟩
 have N:IsTup m.heap c #[.int j u,.bool q]:=by
  obtain⟨o,I,D⟩:=Z;exact⟨o,by rw[<-l];exact a c o K I,D⟩
 dsimp only
 have F:¬vs.toArray.size<2:=by rw[qk];ac_nf
 rw[if_neg F,if_neg F]
 have R:W.KatTups m.heap vs [.int i t,.int j u]:=by
  obtain⟨ob,b1,b2,n1,b3⟩:=M;obtain⟨oc,U,c2,n2,S⟩:=N;rw[<-g];exact .cons b1 b2 b3 rfl (.cons U c2 S rfl .nil)
 refine wa (W.kat_kind (T:=.type "int") R (qx (Qa 0)) (λv y=>?_) (by decide) ?_)
 .rcases qu y with rfl|y
  .exact .of_pure rfl
  .rcases qu y with rfl|y
   .exact .of_pure rfl
   .cases y
 have H:wpAny (mZ prog w) A (keyLt' (tuples' true) (vs.getD 1 Value.none) (vs.getD 0 Value.none)) (λk s'=>k=bS j q i p/\s'=m) (λ_ _=>False) m:=by
  rw[<-g];exact Ik M N ⟨rfl,rfl⟩
 refine wa (wv (W.kat_run (ks:=vs) (vs:=vs) (G:=λP s'=>s'=m/\P=if bS j q i p=true then #[1,0]else #[0,1])
  (Q:=λh s'=>s'=m/\failedOf h=none/\(arrOf h).map (·.2)=if bS j q i p=true then #[.ref c,.ref b]else #[.ref b,.ref c]) rfl ∅ ∅ (λP h s' I D V X=>?_) ?_) ?_ λ_ _ e=>e)
 .obtain⟨rfl,rfl⟩:=X
  refine⟨rfl,V,?_⟩;rw[W.kat_snds rfl D,<-g];cases bS j q i p<;>rfl
 .rw[G]
  refine Il ?_;refine wv H (λk s' Y=>?_) λ_ _ x=>x;obtain⟨rfl,rfl⟩:=Y;cases bS j q i p
  .exact⟨rfl,rfl⟩
  .exact⟨rfl,rfl⟩
 rintro⟨⟨⟩,h⟩ s' ⟨rfl,d,n⟩;dsimp only;refine wa (seqEpoch_at r rfl ?_);refine wa (listUpdate_at r rfl ?_ (Qh _) (by rw[n,je];cases bS j q i p<;>exact(by decide:2<=16777216+1)));rw[d];simp only[bne_self_eq_false,Qo,if_false];refine wb ?_;rw[n];have B:=get?_update_seq r (λ_=>if bS j q i p=true then #[Value.ref c,Value.ref b]else #[Value.ref b,Value.ref c]);subst l;exact T _ _ (λb o hb q=>by rw[Heap.get?_update_ne _ _ _ _ hb];exact a b o hb q) B
def dj:List Addr->List (Int×Bool)->List Addr
 | [b,c],[a,d]=>if bS d.1 d.2 a.1 a.2=true then [c,b]else [b,c]
 | us,_=>us
theorem Pt{d a:Int×Bool}(h:d≠a):bS d.1 d.2 a.1 a.2=!bS a.1 a.2 d.1 d.2:=by
 obtain⟨i,b⟩:=d;obtain⟨j,c⟩:=a;unfold bS;dsimp only;by_cases e:i=j
 .subst e
  have f:b≠c:=λz=>h (by rw[z]);rw[if_pos rfl,if_pos rfl]
  cases b<;>cases c<;>first|rfl|exact absurd rfl f
 .rw[if_neg e,if_neg (λz=>e z.symm)]
  by_cases k:i<j
  .have g:¬j<i:=by ac_nf
   simp[k,g]
  .have g:j<i:=by ac_nf
   simp[k,g]
def PairV.tup{h:Heap}{u:Addr}{p:Int×Bool}(x:PairV h u p):∃tk,IsTup h u #[.int p.1 tk,.bool p.2]:=by
 obtain⟨o,tk,n,a,c,b⟩:=x;exact⟨tk,o,a,c,n,b⟩
theorem Pu{L:Addr}{a:AE}{us:List Addr}{ps:List (Int×Bool)}{Q:Fin->Shared->Prop}(d:s.heap.get? L=some (seqObj "list" a.toArray 0))(c:a.Perm (us.map Value.ref))(K:us.length<=2)(h:ps.length=us.length)(J:∀(i:Nat) u p,us[i]?=some u->ps[i]?=some p->PairV s.heap u p)(D:∀p q,ps=[p,q]->p≠q)(G:∀u∈us,u≠L)(B:∀h' e,(∀b o,b≠L->s.heap.get? b=some o->h'.get? b=some o)->h'.get? L=some (seqObj "list" ((dj us ps).map Value.ref).toArray e)->Q (.done (.ret .none)) {s with heap:=h' }):
 wpAny (mZ prog w) A (Builtin.«list.sort» ⟨[.ref L],[]⟩) Q E s:=by
 rcases us with _|⟨l,_|⟨m,_|⟨R,M⟩⟩⟩
 .have e:=List.perm_nil.mp c
  subst e;refine nq d nofun λh' e f g=>B h' e f ?_;rw[g];rfl
 .have e:=List.perm_singleton.mp c
  subst e;refine nq d nofun λh' e f g=>B h' e f ?_;rw[g];rfl
 .rcases ps with _|⟨k,_|⟨j,_|⟨O,P⟩⟩⟩
  .simp at h
  .simp at h
  .obtain⟨N,n⟩:=(J 0 l k rfl rfl).tup
   obtain⟨S,v⟩:=(J 1 m j rfl rfl).tup;have F:=G l nofun;have I:=G m nofun
   have t:a=[.ref l,.ref m]\/a=[.ref m,.ref l]:=by
    have C:a.length=2:=c.length_eq
    obtain⟨x,y,rfl⟩:∃x y,a=[x,y]:=by
     rcases a with _|⟨x,_|⟨y,_|⟨z,r⟩⟩⟩
     .simp at C
     .simp at C
     .exact⟨x,y,rfl⟩
     .simp at C
    have H:x∈[Value.ref l,Value.ref m]:=c.mem_iff.mp nofun;simp [or_false]at H;rcases H with rfl|rfl
    .left
     have:=c.cons_inv;rw[List.perm_singleton.mp this]
    .right
     have:=(c.trans (.swap _ _ _)).cons_inv;rw[List.perm_singleton.mp this]
   rcases t with rfl|rfl
   .refine nt d n v F I λh' e f g=>B h' e f ?_
    rw[g,dj];cases bS j.1 j.2 k.1 k.2<;>rfl
   .refine nt d v n I F λh' e f g=>B h' e f ?_
    rw[g,dj,Pt (D k j rfl)];cases bS j.1 j.2 k.1 k.2<;>rfl
  .simp at h
 .simp at K
theorem Pv{a:Addr}{vs:AE}{us:List Addr}{ps:List (Int×Bool)}(D:A.handled=none)(H:SetV w s.heap a vs)(m:vs.Perm (us.map Value.ref))(B:us.length<=2)(v:ps.length=us.length)(z:∀(i:Nat) u p,us[i]?=some u->ps[i]?=some p->PairV s.heap u p)(k:∀p q,ps=[p,q]->p≠q){Q:AC}(G:∀(h':Heap) (d':Drawn) (tk e:Nat) (p:Addr),(∀b o,s.heap.get? b=some o->h'.get? b=some o)->(~~~s)<=p->h'.get? p=some (seqObj "list" ((dj us ps).map Value.ref).toArray e)->Q (.ref p) {s with heap:=h',drawn:=d',toks:=tk}):
 wpAny (mZ prog w) A (call (.builtin "sorted") [.ref a]) Q E s:=by
 refine Calls.call_function_entry kind_sorted plain_sorted entry_sorted (args_sorted1 _) (wa (wb (wa (Pl (A:=A.in1) D H λh' d' tk d g keep r=>?_))));have h:=r.trans m
 have J:d.length<=2:=by rw[h.length_eq,qf];exact B
 refine wa (wpAny_newList ?_ (by rw[je];ac_nf));have f:(h'.push (seqObj "list" d.toArray 0)).get? h'.objs.size=some (seqObj "list" d.toArray 0):=qp _ rfl
 have j:∀u∈us,u< ~~~s:=λu x=>by
  obtain⟨i,n,e⟩:=List.getElem_of_mem x
  have c:i<ps.length:=by ac_nf
  obtain⟨o,_,_,F,_⟩:=z i u ps[i] (by rw[qr n,e]) (qr c);exact ql F
 exact wa (wc (wd slot_list_sort ⟨_,f,rfl⟩ entry_list_sort (Pu f h B v (λi u p n c=>(z i u p n c).keep λo e=>qe _ (keep u o e)) k (λu x=>qm (Qi (j u x) g)) λt e I C=>⟨_,rfl,(wb ⟨_,rfl,G t d' tk e h'.objs.size (λb o y=>(I b o (qm (ql (keep b o y))) (qe _ (keep b o y)))) g C⟩)⟩) (args_list_sort _)))
end
def dV:AR->Option (List (Int×Bool))
 | []=>some []
 | d::l=>(kT d).bind λx=>(dV l).map (x::·)
def Ab{K:W7}{G:Hp}{d:D}{p:Int×Bool}{x:V}(h:kT d=some p)(e:Rp K G d x):∃b,x=.ref b/\G b=some (.tup [.int p.1,.bl p.2]):=by
 rw[yR h]at e;obtain⟨b,ys,rfl,hb,a⟩:=e;obtain⟨k,g,rfl,f,a⟩:=a;obtain⟨j,g,rfl,i,a⟩:=a;subst a;subst f;subst i;exact⟨b,rfl,hb⟩
def Pw{d:D}{l:AR}{ps:List (Int×Bool)}(e:dV (d::l)=some ps):∃p a,ps=p::a/\kT d=some p/\dV l=some a:=by
 obtain⟨x,b,g⟩:=qa e;obtain⟨y,f,c⟩:=qc g;exact⟨x,y,c.symm,b,f⟩
theorem ddup_len:∀(l acc:AH),(aO acc l).length<=acc.length+l.length
 | [],acc=>by simp[aO]
 | k::l,acc=>by
   rw[aO];have:=ddup_len l (if k∈acc then acc else acc++[k])
   split at this
   .rename_i h;rw[if_pos h];simp;ac_nf
   .rename_i h;rw[if_neg h];simp at this ⊢;ac_nf
def g8(w:World)(p:Addr)(vs:AE):HO:=.ext λh=>SetV w h p vs
def Ac{P:P7}{w:World}{H:Hp}{h:Heap}{p:Addr}{vs:AE}(x:SetV w h p vs):ObjOk P w H h p (g8 w p vs):=by
 refine⟨x,?_,λc b e k=>e.at k⟩;obtain⟨o,_,_,_,a,_⟩:=x;exact⟨o,a⟩
def PrsA(H:Hp)(c:List Addr)(a:List (Int×Bool)):Prop:=a.length=c.length/\∀(i:Nat) b q,c[i]?=some b->a[i]?=some q->H b=some (.tup [.int q.1,.bl q.2])
def dI:List (Int×Bool)->List (Int×Bool)
 | [a,b]=>if a=b then [a]else [a,b]
 | ps=>ps
theorem PrsA.once{H:Hp}{c:List Addr}{a:List (Int×Bool)}(x:PrsA H c a)(j:a.length<=2):PrsA H (cj c a) (dI a)/\(cj c a).length<=2/\∀p q,dI a=[p,q]->p≠q:=by
 obtain⟨d,f⟩:=x;rcases a with _|⟨k,_|⟨l,_|⟨n,o⟩⟩⟩
 .rcases c with _|⟨b1,g⟩
  .exact⟨⟨rfl,λi b q h=>by simp[cj]at h⟩,by simp[cj],λp q z=>by simp[dI]at z⟩
  .simp at d
 .rcases c with _|⟨b1,_|⟨b2,g⟩⟩
  .simp at d
  .exact⟨⟨rfl,f⟩,by simp[cj],λp q z=>by simp[dI]at z⟩
  .simp at d
 .rcases c with _|⟨b1,_|⟨b2,_|⟨b3,g⟩⟩⟩
  .simp at d
  .simp at d
  .by_cases e:k=l
   .subst e
    simp only[cj,dI,if_true];refine⟨⟨rfl,λi b q hb m=>?_⟩,by simp,λp q z=>by simp at z⟩
    cases i with
    | zero=>exact f 0 b q hb m
    | succ i=>simp at hb
   .simp only[cj,dI,if_neg e]
    refine⟨⟨rfl,f⟩,by simp,λp q z=>?_⟩;simp at z;rw[<-z.1,<-z.2];exact e
  .simp at d
 .simp at j
def Ad(K:W7)(w:World):AQ->Hp->VK->Prop:=λxs H Q=>∃a d b,xs=[.ref a]/\SqL K H a (d.map V.ref)/\PrsA H d b/\b.length<=2/\(∀p q,b=[p,q]->p=q\/pH p≠pH q)/\
 ∀p vs,H p=none->vs.Perm ((cj d b).map Value.ref)->Q (.ref p) (upd H p (g8 w p vs))
def Ae(w:World):AQ->Hp->VK->Prop:=λxs H Q=>∃a vs b c,xs=[.ref a]/\H a=some (g8 w a vs)/\vs.Perm (b.map Value.ref)/\PrsA H b c/\b.length<=2/\(∀p q,c=[p,q]->p≠q)/\
 ∀p,H p=none->Q (.ref p) (upd H p (.lst ((dj b c).map V.ref)))
def Jd{pins:AD}{s:Shared}{σ:L2.St}{H:Hp}(I:Inv X pins σ H s){a:List Addr}{c:List (Int×Bool)}(x:PrsA H a c)(i:Nat)(u:Addr)(p:Int×Bool)(h:a[i]?=some u)(d:c[i]?=some p):PairV s.heap u p:=by
 obtain⟨b,f,⟨o,e,j,n,l⟩,_⟩:=I.tuple (.of (x.2 i u p h d))
 cases f with
 | cons k q=>
   cases q with
   | cons m g=>
     cases g;obtain⟨t,rfl⟩:=k;cases m;exact⟨o,t,n,e,j,l⟩
theorem Je:∀{a:List Addr}{its:AE},Vals (a.map V.ref) its->its=a.map Value.ref
 | [],_,r=>by cases r;rfl
 | b::a,_,r=>by
   cases r with
   | cons c d=>
     cases c;rw[Je d];rfl
theorem Jf:∀a:List Addr,Vals (a.map V.ref) (a.map Value.ref)
 | []=>.nil
 | b::a=>.cons rfl (Jf a)
theorem Px(g:X.calm=true)(p:X.A.units+64<cLine):dz X (.type "set") (Ad X.K X.w):=by
 intro pins s σ H xs us Q I r h;obtain⟨a,n,o,rfl,j,b,k,i,q⟩:=h;obtain⟨u,rfl,e⟩:=eQ r;cases e;obtain⟨its,f,pl,m⟩:=I.list j;cases Je f
 exact Pr (I.ok.hd g) ∅ pl.isList (by rw[<-b.1];exact k) b.1 (Jd I b) i λh' tk vs d c l=>(⟨.ref (~~~s),_,I.laid l (qv _) (Ac d),rfl,q _ vs (I.hok.fresh (qv _)) c⟩)
theorem Py(o:X.calm=true):dz X (.builtin "sorted") (Ae X.w):=by
 intro pins s σ H xs us Q I r h;obtain⟨a,vs,g,i,rfl,l,f,c,j,d,q⟩:=h;obtain⟨u,rfl,m⟩:=eQ r;cases m
 refine Pv (I.ok.hd o) ((I.hok a _ l).1) f j c.1 (Jd I c) d λh' d' tk e p b k n=>(⟨.ref p,_,Inv.laid (I.dr d') b k (show ObjOk X.prog X.w _ _ _ (.lst ((dj g i).map V.ref)) from⟨?_,_,e,Jf _,n⟩),rfl,q _ (I.hok.fresh k)⟩)
 have:(dj g i).length<=2:=by
  unfold dj
  split
  .split<;>simp
  .exact j
 rw[qf,je];ac_nf
def iG(l:AR):Option AR:=(dV l).bind λps=>match l,ps with
 | [],[]=>some []
 | [d],[_]=>some [d]
 | [c,e],[b,a]=>if b=a then some [c]else if pH b≠pH a then some (if bS a.1 a.2 b.1 b.2=true then [e,c]else [c,e])else none
 | _,_=>none
theorem Jg{K:W7}{G H:Hp}(s:Same G H):∀{l:AR}{ps:List (Int×Bool)}{xs:AQ},dV l=some ps->RpL K G l xs->∃a,xs=a.map V.ref/\PrsA H a ps
 | [],ps,xs,e,r=>by
   cases e;subst r;exact⟨[],rfl,rfl,λi b q h=>by simp at h⟩
 | d::l,ps,xs,e,r=>by
   obtain⟨p,t,rfl,h0,u⟩:=Pw e;obtain⟨x,w,rfl,o,v⟩:=r;obtain⟨a,rfl,m,n⟩:=Jg s u v;obtain⟨b,rfl,hb⟩:=Ab h0 o;refine⟨b::a,rfl,by simp[m],λj c q g f=>?_⟩
   cases j with
   | zero=>
     simp at g f;subst g f;exact s _ _ hb
   | succ j=>exact n j c q (by simpa using g) (by simpa using f)
theorem Af{K:W7}{G:Hp}{l j:AR}{a:List Addr}{ps:List (Int×Bool)}(h:iG l=some j)(d:dV l=some ps)(r:RpL K G l (a.map V.ref)):
 ps.length<=2/\(∀p q,ps=[p,q]->p=q\/pH p≠pH q)/\RpL K G j ((dj (cj a ps) (dI ps)).map V.ref):=by
 unfold iG at h;rw[d,qd]at h
 split at h
 .cases h
  rcases a with _|⟨b1,g⟩
  .exact⟨by simp,λp q z=>by simp at z,r⟩
  .have:=r.length
   simp at this
 .cases h
  rcases a with _|⟨b1,_|⟨b2,g⟩⟩
  .have:=r.length
   simp at this
  .exact⟨by simp,λp q z=>by simp at z,r⟩
  .have:=r.length
   simp at this
 .rename_i s w o m
  rcases a with _|⟨b1,_|⟨b2,_|⟨b3,g⟩⟩⟩
  .have:=r.length
   simp at this
  .have:=r.length
   simp at this
  .have b:=r
   obtain⟨u,v,e1,c,b⟩:=b;obtain⟨t,k,e2,i,b⟩:=b;cases e1;cases e2;by_cases e:o=m
   .rw[if_pos e]at h
    cases h;refine⟨by simp,λp q z=>?_,?_⟩
    .simp at z
     exact .inl (by rw[<-z.1,<-z.2];exact e)
    .simp [cj,if_pos e]
     exact .one c
   .rw[if_neg e]at h
    split at h
    case isFalse=>cases h
    rename_i n;cases h;refine⟨by simp,λp q z=>?_,?_⟩
    .simp at z
     exact .inr (by rw[<-z.1,<-z.2];exact n)
    .simp [cj,dI,if_neg e,dj]
     split
     .exact .cons i (.one c)
     .exact .cons c (.one i)
  .have:=r.length
   simp at this
 .cases h
section
variable {e:Expr}{f:AW}{p p2:Pos}
def g9:D->Option AR
 | .lst l=>some l
 | _=>none
def Ag(f:AW):AX:=λρ=>(b1 f g9 ρ).bind iG
@[simp] theorem iH{ρ:Ro}:Ag f ρ=((f ρ).bind g9).bind iG:=m9 rfl
@[simp] theorem nu(l:AR):g9 (.lst l)=some l:=m9 rfl
end
noncomputable def Ai(mask:Nat)(p:SetTable.Probe):SetTable.Probe:=SetTable.advance {mask:=mask,place:=#[],dummies:=#[],finger:=0,led:=false,moves:=0,plain:=false} p
noncomputable def Aj(mask:Nat):Nat->SetTable.Probe->SetTable.Probe
 | 0,p=>p
 | k+1,p=>Aj mask k (Ai mask p)
noncomputable def Pz(mask i perturb:Nat):SetTable.Probe:={j:=i,more:=SetTable.runEnd mask i-i,i,perturb,dummy:=none}
def PB(mask:Nat)(a:Nat->Prop)(p:SetTable.Probe)(j:Nat):Prop:=∃k,(Aj mask k p).j=j/\∀m,m<k->a (Aj mask m p).j
abbrev PC(mask:Nat)(h:Int):SetTable.Probe:=Pz mask (SetTable.bits h%(mask+1)) (SetTable.bits h)
section
variable {t:SetTable}{hA:Nat->Int}{h:Int}
structure ny(t:SetTable)(n:Nat):Prop where
 hs:t.mask+1∈sizes
 dm:t.dummies=#[]
 rise:cb t.place
 le:∀j∈t.place.toList,j<=t.mask
 sz:t.place.size=n
 room:n<=t.mask
end
def bI(b:Bool):Int:=if b then 1 else 0
def bH(a:AJ):Int:=gS (a.map bI)
def Ak(h:Heap)(u:Addr)(a:AJ):Prop:=a.length<=4/\∃o n,h.get? u=some o/\o.cls=.type "tuple"/\o.data=.seq (a.map .bool).toArray n
structure PD(w:World)(h:Heap)(S:Addr)(us:List (Addr×AJ)):Prop where
 ex:∃o es ep t,h.get? S=some o/\o.ExactSet/\o.data=.set es ep t/\es.toList.Perm (us.map λu=>(bH u.2,Value.ref u.1))/\t.fits es.size=true/\ny t es.size/\Tab (dA w) t/\es.size*5<t.mask*3/\∀q∈es.toList.zip t.place.toList,PB t.mask (·∈t.place.toList) (PC t.mask q.1.1) q.2
 keys:(us.map (·.2)).Nodup
 tups:∀u∈us,Ak h u.1 u.2
 few:us.length<=24
section
variable {n:Nat}{key:Nat->Nat}{cmp:Nat->Nat->(Bool->Shared->Prop)->Shared->Prop}{s:Shared}
variable (hinj:∀i j,i<n->j<n->key i=key j->i=j)(hc:∀i j (C:Bool->Shared->Prop),i<n->j<n->C (decide (key i<key j)) s->cmp i j C s)
include hinj hc
omit hinj hc in
omit hinj hc in
omit hinj hc in
end
section
variable {e:Expr}{f:AW}{p p2:Pos}
def nz:D->D->Option D
 | .tup a,.tup b=>if a.length+b.length<=aK then some (.tup (a++b))else none
 | _,_=>none
def Al(K:W7):R2:=λx y H Q=>∃a b c d,x=.ref a/\y=.ref b/\SqT K H a c/\SqT K H b d/\c.length+d.length<=sizeLine/\
 (c=[]->Q (.ref b) H)/\(c≠[]->d=[]->Q (.ref a) H)/\(c≠[]->d≠[]->∀p,H p=none->Q (.ref p) (upd H p (.tup (c++d))))
def Am:bR X (binaryOp .Add) (Al X.K):=by
 intro t s J H x y v u Q I A k h;obtain⟨a,b,o,G,rfl,rfl,z,B,R,D,F,M⟩:=h;by_cases d:o=[]
 .cases A
  cases k;obtain⟨L,C,S,_⟩:=I.tuple z;obtain⟨r,U,O,_⟩:=I.tuple B;obtain⟨⟨K,E,m,N⟩,q,l,n,w⟩:=S;obtain⟨⟨p,i,data2,j⟩,f,g,T,e⟩:=O;simp at l w g e;subst l w g e
  exact concat_meets ⟨_,q,rfl⟩ ⟨_,f,rfl⟩ noFill_tuple_add seq_tuple_add PySem.F.slot_tuple_add PySem.F.entry_tuple_add (PySem.F.args_tuple_add_2 _ _)
   (tuple_addW0 a b _ _ n T E i N j (by simp[C.nil_iff.mpr d])) ⟨q,f,⟨.ref b,H,I,rfl,D d⟩⟩
 .exact xI _ s J H _ _ _ _ Q I A k ⟨a,b,o,G,rfl,rfl,z,B,d,R,F d,M d⟩
@[simp] theorem PF(a b:AR):nz (.tup a) (.tup b)=if a.length+b.length<=aK then some (.tup (a++b))else none:=m9 rfl
end
structure ZE(X:Cx)(e:Expr)(f:AW):Prop where
 un:ME X e f
structure ZC(X:Cx)(e:Expr)(f:AW):Prop where
 un:MC X e f
structure iI(X:Cx)(es:AM)(f:AX):Prop where
 un:qK X es f
structure ZF(X:Cx)(e:Expr)(f:AX):Prop where
 un:MF X e f
structure ZT(X:Cx)(e:Expr)(f:AV):Prop where
 un:MT X e f
structure ZW(X:Cx)(e:Expr)(f:AV):Prop where
 un:MW X e f
structure ZA(X:Cx)(es:AM)(f:AX):Prop where
 un:MA X es f
structure ZI(X:Cx)(tg iter:Expr)(f:AX):Prop where
 un:MI X tg iter f
structure ZS(X:Cx)(st:Stmt)(f:AT):Prop where
 un:MS X st f
structure ZB(X:Cx)(sts:List Stmt)(f:AT):Prop where
 un:MB X sts f
structure ZG(X:Cx)(tg:Expr)(gt:AU):Prop where
 un:MG X tg gt
structure fZ(X:Cx)(K:W7)(ifs:AM)(f:AV):Prop where
 un:dS X ifs (tTof K f)
structure ZO(X:Cx)(e:Option Expr)(f:Option AW):Prop where
 un:PO X e (tO X.K f)
structure ZP(X:Cx)(pos:Pos)(keys:List (Option Expr))(values:AM)(ks:AL)(fs:List AW):Prop where
 un:MP X pos keys values ks fs
section
variable {H0 G0 H G:Hp}{σ:L2.St}{ρ:Ro}{a b c e:Expr}{es:AM}{fb fc f:AW}
def Yw(h:ZE X e f):ZC X e f:=⟨ME.mc h.un⟩
theorem An(i:Nat)(n:X.N[i]?=some x:=by rfl)(k:ip X.env.scope x:=by trivial)(l:dq x:=by decide)(g:iV x:=by decide):ZE X (.Name x pos) (ab i):=⟨
 PE.imp (kA n k l g) λc H Q j=>by
  obtain⟨f,d,b,a,G,e,s,h⟩:=j;obtain⟨v,o,m⟩:=s.sh i d (N8 e)
  exact⟨v,o,h v H G (.refl s.seen) m⟩⟩
theorem Ym(i:Nat)(r:X.N[i]?=some x:=by rfl)(w:ip X.env.scope x:=by trivial)(z:dq x:=by decide)(m:iV x:=by decide):ZC X (.Name x pos) (aa i):=⟨
 PE.imp (kA r w z m) λD H Q o=>by
  obtain⟨E,d,F,B,G,e,s,h⟩:=o;unfold aa at e
  split at e
  .rename_i C k
   cases e;obtain⟨v,g,j⟩:=s.sh i _ k;exact⟨v,g,h v H G (.refl s.seen) (.of s.seen j)⟩
  .rename_i l n
   cases e;obtain⟨a,c,g,j,y,p,q⟩:=s.ow i l n;exact⟨_,g,h _ H G (.refl s.seen) (⟨a,c,rfl,.inl p,q⟩)⟩
  .rename_i t f b n
   cases e;obtain⟨a,u,A,g,j,y,p,q⟩:=s.od i t f b n;exact⟨_,g,h _ H G (.refl s.seen) (by rw[Ct];grind)⟩
  .cases e⟩
def ez{j}:ZE X (.Constant (.int i) j pos) (Zb i):=⟨mf⟩
def Ao{j}:ZE X (.Constant (.bool k) j pos) (kD (.bl k)):=⟨yh⟩
def Jh{j}:ZE X (.Constant .none j pos) (kD .non):=⟨yi⟩
theorem rA{j}(g:PyData.strOk x=true:=by decide +kernel):ZE X (.Constant (.str x) j pos) (kD (.str x)):=⟨qL vA (λ_ _ _ q=>q) λ_=>by rw[Rp];grind⟩
def nA(d:ZC X a fa)(c:ZC X b fb):ZE X (.BinOp a .Sub b pos) (b2 fa fb dD):=⟨have d:=d.un;have c:=c.un;kI wN HW d c⟩
def Ap(d:ZC X a fa)(c:ZC X b fb):ZE X (.BinOp a .Mult b pos) (b2 fa fb fP):=⟨have d:=d.un;have c:=c.un;kI wO (qN λi j h=>by
 simp only[Bool.or_eq_true,Qe,wg]at h
 exact h) d c⟩
def rB(d:ZC X a fa)(c:ZC X b fb):ZE X (.BinOp a .FloorDiv b pos) (b2 fa fb cv):=⟨have d:=d.un;have c:=c.un;kI wQ (qN λi j h=>by
 simp [wg]at h
 exact h) d c⟩
def g_(d:ZC X a fa)(c:ZC X b fb):ZE X (.BinOp a .Mod b pos) (b2 fa fb aD):=⟨have d:=d.un;have c:=c.un;kI wR (qN λi j h=>wm h) d c⟩
def Aq(d:ZC X a fa)(hb:ZC X b fb):ZE X (.Compare a [.Lt] [b] pos) (mB (b2 fa fb cZ)):=⟨have d:=d.un;have hb:=hb.un;jk i5 kJ d hb (fw _)⟩
def Ar(ha:ZC X a fa)(hb:ZC X b fb):ZE X (.Compare a [.Gt] [b] pos) (mB (b2 fa fb eS)):=⟨have ha:=ha.un;have hb:=hb.un;jk lP kJ ha hb (fw _)⟩
def As(d:ZC X a fa)(c:ZC X b fb):ZT X (.Compare a [.Lt] [b] pos) (b2 fa fb cZ):=⟨have d:=d.un;have c:=c.un;gv i5 kJ d c (fw _)⟩
def Au(d:ZC X a fa)(c:ZC X b fb):ZT X (.Compare a [.Gt] [b] pos) (b2 fa fb eS):=⟨have d:=d.un;have c:=c.un;gv lP kJ d c (fw _)⟩
def Av(g:X.A.units+64<cLine)(d:ZC X a fa)(c:ZC X b fb):ZE X (.Compare a [.Eq] [b] pos) (mB (b2 fa fb (ay false))):=⟨have d:=d.un;have c:=c.un;jk (ml g) qO d c (fw _)⟩
def Aw(g:X.A.units+64<cLine)(d:ZC X a fa)(c:ZC X b fb):ZE X (.Compare a [.NotEq] [b] pos) (mB (b2 fa fb (ay true))):=⟨have d:=d.un;have c:=c.un;jk (mm g) qO d c (fw _)⟩
def k6(g:X.A.units+64<cLine)(d:ZC X a fa)(c:ZC X b fb):ZT X (.Compare a [.Eq] [b] pos) (b2 fa fb (ay false)):=⟨have d:=d.un;have c:=c.un;gv (ml g) qO d c (fw _)⟩
def Ax(g:X.A.units+64<cLine)(d:ZC X a fa)(c:ZC X b fb):ZT X (.Compare a [.NotEq] [b] pos) (b2 fa fb (ay true)):=⟨have d:=d.un;have c:=c.un;gv (mm g) qO d c (fw _)⟩
def Ay(g:X.A.units+64<cLine)(d:ZC X a fa)(c:ZC X b fb)(h:behindInMarks .In b=false:=by with_unfolding_all rfl):ZE X (.Compare a [.In] [b] pos) (mB (b2 fa fb (bc false))):=⟨have d:=d.un;have c:=c.un;jk (mn g) yp d c h⟩
def Az(g:X.A.units+64<cLine)(d:ZC X a fa)(c:ZC X b fb)(h:behindInMarks .In b=false:=by with_unfolding_all rfl):ZT X (.Compare a [.In] [b] pos) (b2 fa fb (bc false)):=⟨have d:=d.un;have c:=c.un;gv (mn g) yp d c h⟩
def Ji(g:X.A.units+64<cLine)(d:ZC X a fa)(c:ZC X b fb)(h:behindInMarks .NotIn b=false:=by with_unfolding_all rfl):ZT X (.Compare a [.NotIn] [b] pos) (b2 fa fb (bc true)):=⟨have d:=d.un;have c:=c.un;gv (N_ g) yp d c h⟩
end
section
variable {a b c e:Expr}{es:AM}{fb f fe:AW}{fc:AV}{p:Pos}{x:Str}{id T:String}{r:AQ->Hp->VK->Prop}{g:AR->Option D}{gf:AR->Option AR}{N:AL}{src:List AN}{gt:AU}{P:P7}{w:World}
def AI(j:ZC X a fa)(o:∀i,isTrue a X.env i=(do let v <-i;standAt a.pos;holding [v] (truthy v)):=by intro _;rfl):ZT X a (b1 fa aN):=⟨have j:=j.un;
 PT.imp (Nv j o) λc H Q l=>by
  obtain⟨b,k,A,B,G,e,s,h⟩:=l;obtain⟨d,t,u⟩:=d7 e
  exact tCof.at t s λv y m n q z=>⟨k,yq u q,h y m n⟩⟩
def AO(d:ZT X a fc):ZW X (.BoolOp .And [a] pos) fc:=⟨have d:=d.un;vD d⟩
def A3(d:ZT X a fc):ZW X (.BoolOp .Or [a] pos) fc:=⟨have d:=d.un;vE d⟩
def A4(d:ZT X a fc)(c:ZW X (.BoolOp .And (b::rest) pos) fd):ZW X (.BoolOp .And (a::b::rest) pos) (aU fc fd):=⟨have d:=d.un;have c:=c.un;PW.imp (vF d c) λ_ _ _ h=>yr h⟩
def A5(d:ZT X a fc)(c:ZW X (.BoolOp .Or (b::rest) pos) fd):ZW X (.BoolOp .Or (a::b::rest) pos) (dO fc fd):=⟨have d:=d.un;have c:=c.un;PW.imp (vG d c) λ_ _ _ h=>yt h⟩
def A6(i:ZT X a fc):ZT X (.UnaryOp .Not a pos) (bG fc):=⟨have i:=i.un;PT.imp (vH i) λc H Q d=>by
 obtain⟨b,k,t,q,G,e,s,h⟩:=d;obtain⟨o,j,rfl⟩:=qc e
 exact tTof.at j s λm n l _=>h m n l⟩
def A7(d:ZE X a fa):ZE X (.BoolOp .And [a] pos) fa:=⟨have d:=d.un;lI d⟩
def A8(d:ZE X a fa):ZE X (.BoolOp .Or [a] pos) fa:=⟨have d:=d.un;lI d⟩
def A9(j:ZE X a fa)(c:ZE X (.BoolOp .And (b::rest) pos) fb):ZE X (.BoolOp .And (a::b::rest) pos) (bJ fa fb):=⟨have j:=j.un;have c:=c.un;PE.imp (vL j c) λg H Q i=>by
 obtain⟨f,d,F,I,G,e,s,h⟩:=i;obtain⟨k,A,e⟩:=qa e;obtain⟨E,y,q⟩:=d7 A;cases yu q
 refine tOf.at y s λv C m l t n=>⟨k,t,?_⟩
 cases k with
 | true=>
   exact tOf.at e n λw u B z o _=>h w u B (l.trans z) o
 | false=>
   cases e
   exact h _ C m l (by rw[Rp])⟩
def A_(j:ZE X a fa)(hb:ZE X (.BoolOp .Or (b::rest) pos) fb):ZE X (.BoolOp .Or (a::b::rest) pos) (kL fa fb):=⟨have j:=j.un;have hb:=hb.un;PE.imp (vM j hb) λσ H Q i=>by
 obtain⟨ρ,d,F,I,G,e,s,h⟩:=i;obtain⟨k,A,e⟩:=qa e;obtain⟨E,y,q⟩:=d7 A;cases yu q
 refine tOf.at y s λv C m l t n=>⟨k,t,?_⟩
 cases k with
 | false=>
   exact tOf.at e n λw u B z o _=>h w u B (l.trans z) o
 | true=>
   cases e
   exact h _ C m l (by rw[Rp])⟩
def Ba(j:ZE X a fa):ZE X (.UnaryOp .Not a pos) (fQ fa):=⟨have j:=j.un;PE.imp (vN j) λc H Q i=>by
 obtain⟨b,d,y,B,G,e,s,h⟩:=i;obtain⟨k,u,rfl⟩:=qc e;obtain⟨A,q,m⟩:=d7 u;cases yu m
 exact tOf.at q s λv t l n o z=>⟨k,o,h _ t l n (by rw[Rp])⟩⟩
def Bb(m:ZT X c fc)(i:ZE X a fa)(f:ZE X b fb):ZE X (.IfExp c a b pos) (yv fc fa fb):=⟨have m:=m.un;have i:=i.un;have f:=f.un;PE.imp (Nf m i f) λp H Q q=>by
 obtain⟨g,d,y,B,G,e,s,h⟩:=q;obtain⟨k,v,e⟩:=qa e;refine tTof.at v s λz A u t=>?_
 cases k with
 | true=>
   exact tOf.at e t λw j n o l _=>h w j n (u.trans o) l
 | false=>
   exact tOf.at e t λw j n o l _=>h w j n (u.trans o) l⟩
def Bc(d:ZC X a fa)(hb:ZC X b fb):ZE X (.Compare a [.Is] [b] pos) (mB (b2 fa fb (cT false))):=⟨have d:=d.un;have hb:=hb.un;jk lQ HZ d hb (fw _)⟩
def Bd(d:ZC X a fa)(c:ZC X b fb):ZE X (.Compare a [.IsNot] [b] pos) (mB (b2 fa fb (cT true))):=⟨have d:=d.un;have c:=c.un;jk Hc H_ d c (fw _)⟩
def Be(d:ZC X a fa)(c:ZC X b fb):ZT X (.Compare a [.Is] [b] pos) (b2 fa fb (cT false)):=⟨have d:=d.un;have c:=c.un;gv lQ HZ d c (fw _)⟩
def Bf(d:ZC X a fa)(c:ZC X b fb):ZT X (.Compare a [.IsNot] [b] pos) (b2 fa fb (cT true)):=⟨have d:=d.un;have c:=c.un;gv Hc H_ d c (fw _)⟩
def Jj(c:ZC X a fa)(d:ZC X b fb)(hs:iu b:=by intro _ _;rfl):ZE X (.Subscript a b pos) (b2 fa fb aj):=⟨Ia c.un d.un hs⟩
def Jk{lo A:Option Expr}(y:ZC X a fa)(k:ZO X lo fl)(o:ZO X A fh):ZF X (.Subscript a (.Slice lo A none p2) pos) (jn fa fl fh):=⟨have y:=y.un;have k:=k.un;have o:=o.un;
 PE.imp (Hs Hv y k o) λD H Q m=>by
  obtain⟨c,l,f,U,G,e,s,h⟩:=m;obtain⟨W,L,e⟩:=qa e;obtain⟨i,O,e⟩:=qa e;obtain⟨j,F,e⟩:=qa e;cases e;obtain⟨d,J,S⟩:=d7 L;refine tCof.at J s λv w Y B R E=>qP O E λZ r t M=>qP F M λx I u C=>?_;obtain⟨p,b,rfl,g,z⟩:=Oa S ((R.grow t).grow u);refine⟨p,b,rfl,g,λq n=>h q _ _ I (((B.trans t).trans u).trans (.hid C.seen n _)) (B.h.free (t.h.free (u.h.free n))) (C.seen.free n) Yh ?_⟩;unfold cf ef;rw[z.length]
  exact(z.drop _).take _⟩
def nB :ZO X none none:=⟨yy⟩
def nC(h:ZC X e f):ZO X (some e) (some f):=⟨have h:=h.un;xE h⟩
def jE{g:AX}(h:ZF X e g):ZE X e (lF g):=⟨MF.me h.un⟩
def hC :ZA X [] ae:=⟨yz⟩
def eY(d:ZE X e f)(h:ZA X es ga)(hs:Zc X e es:=by rfl):ZA X (e::es) (Yb f ga):=⟨yA d.un h.un hs⟩
def f7 :iI X [] ae:=⟨kN⟩
def fB(d:ZC X e f)(h:iI X es ga)(hs:Zc X e es:=by rfl):iI X (e::es) (Yb f ga):=⟨kO d.un h.un hs⟩
theorem nE{x1}(h:ZA X es ga):ZE X (.Tuple es x1 pos) (aw ga):=⟨have h:=h.un;PE.imp (xh h) λb H Q i=>by
 obtain⟨c,d,u,t,G,e,s,h⟩:=i;obtain⟨l,n,e⟩:=qa e
 split at e
 .cases e
  exact tAof.at n s λa q v o j k=>⟨by rw[j.length];exact gy (by assumption),λp m=>h _ _ _ (o.trans (.new k.seen m _)) (⟨p,a,rfl,Yh,j.mono (Gr.new k.seen m _).g⟩)⟩
 .cases e⟩
def Jl(h:ZA X es ga):ZF X (.List es pos) (aV ga):=⟨mq h.un⟩
theorem k7(l:dz X (.builtin id) r)(q:dC X.K r g)(m:Gl X x)(n:X.mg x=none)(k:bootBuiltins x=some (.builtin id))(j:iI X (e::es) ga)(o:x≠"__name__":=by decide)(d:dq x:=by decide)(s:Zc X e es:=by rfl)(i:Zd X pos es:=by rfl):ZE X (.Call (.Name x p) (e::es) [] pos) (cC ga g):=⟨have j:=j.un;
 PE.imp (kF l m n k j o d s i) λ_ _ _ h=>mu q h⟩
theorem nF(l:dz X (.builtin id) r)(q:fO X.K r gf)(m:Gl X x)(n:X.mg x=none)(k:bootBuiltins x=some (.builtin id))(j:iI X (e::es) ga)(o:x≠"__name__":=by decide)(d:dq x:=by decide)(s:Zc X e es:=by rfl)(i:Zd X pos es:=by rfl):ZF X (.Call (.Name x p) (e::es) [] pos) (cF ga gf):=⟨have j:=j.un;
 PE.imp (kF l m n k j o d s i) λ_ _ _ h=>Ib q h⟩
theorem nG(l:dz X (.type T) r)(q:dC X.K r g)(m:Gl X x)(n:X.mg x=none)(k:bootBuiltins x=some (.type T))(j:iI X (e::es) ga)(o:x≠"__name__":=by decide)(d:dq x:=by decide)(s:Zc X e es:=by rfl)(i:Zd X pos es:=by rfl):ZE X (.Call (.Name x p) (e::es) [] pos) (cC ga g):=⟨have j:=j.un;
 PE.imp (i7 l m n k j o d s i) λ_ _ _ h=>mu q h⟩
theorem PH(l:dz X (.type T) r)(q:fO X.K r gf)(m:Gl X x)(n:X.mg x=none)(k:bootBuiltins x=some (.type T))(j:iI X (e::es) ga)(o:x≠"__name__":=by decide)(d:dq x:=by decide)(s:Zc X e es:=by rfl)(i:Zd X pos es:=by rfl):ZF X (.Call (.Name x p) (e::es) [] pos) (cF ga gf):=⟨have j:=j.un;
 PE.imp (i7 l m n k j o d s i) λ_ _ _ h=>Ib q h⟩
def jF :ZB X [] ar:=⟨yC⟩
def fC(l:ZS X st fs)(m:ZB X sts gs):ZB X (st::sts) (ag fs gs):=⟨have l:=l.un;have m:=m.un;PSs.imp (Ng l m) λF r H n=>by
 obtain⟨b,c,i,j,G,e,s,h⟩:=n;obtain⟨o,k,e⟩:=qa e
 cases o with
 | nx a=>exact⟨b,.nx a,i,j,G,k,s,λf q p g=>⟨a,c,i,j,p,e,g,h⟩⟩
 | rt d=>cases e;exact⟨b,.rt d,i,j,G,k,s,h⟩
 | bk a=>cases e;exact⟨b,.bk a,i,j,G,k,s,h⟩
 | ct a=>cases e;exact⟨b,.ct a,i,j,G,k,s,h⟩⟩
def hE(d:ZS X st fs):ZB X [st] fs:=⟨have d:=d.un;vS d⟩
def Jm(i:AG)(h:ZS X st fs):ZS X st (wF i fs):=⟨have h:=h.un;PS.imp h λF g H d=>by
 obtain⟨b,a,k,j,G,e,s,h⟩:=d;obtain⟨f,c⟩:=SR.frz i s
 exact⟨frz i b,a,k,j,f,e,c,h⟩⟩
theorem nH(i:Nat)(a:X.N.Nodup)(g:ZE X e f)(c:X.N[i]?=some x:=by rfl)(b:ec X.env.scope x:=by trivial)(hs:swapsWith e (some (.Name x pos')) pos.line X.env=pure false:=by rfl)(d:Zf X x:=by trivial):ZS X (.Assign [.Name x pos'] e pos) (ao i f):=⟨mx i a g.un c b hs d⟩
theorem Bg(i:Nat)(j:X.N.Nodup)(d:ZF X e gl)(k:X.N[i]?=some x:=by rfl)(m:ec X.env.scope x:=by trivial)(hs:swapsWith e (some (.Name x pos')) pos.line X.env=pure false:=by rfl)(l:Zf X x:=by trivial):ZS X (.Assign [.Name x pos'] e pos) (aF i gl):=⟨have d:=d.un;PS.imp (wA j k m d hs l) λ_ _ _ h=>yE h⟩
def nI(j:ZE X e f):ZS X (.Return (some e) pos) (ah f):=⟨have j:=j.un;PS.imp (vV j) λF c H i=>by
 obtain⟨b,a,q,u,G,e,s,h⟩:=i;obtain⟨d,l,rfl⟩:=qc e
 exact tOf.at l s λv o k t n m=>h v o k m.gr n⟩
def jG{a b:List Stmt}(d:ZT X c fc)(i:ZB X a fs)(g:ZB X b gs):ZS X (.If c a b pos) (aG fc fs gs):=⟨have d:=d.un;have i:=i.un;have g:=g.un;PS.imp (vX d i g) λF r H j=>by
 obtain⟨p,f,l,n,G,e,s,h⟩:=j;obtain⟨k,q,e⟩:=qa e;refine tTof.at q s λt o u m=>?_
 cases k with
 | true=>
   exact⟨p,f,l,n,o,e,m,h⟩
 | false=>
   exact⟨p,f,l,n,o,e,m,h⟩⟩
abbrev Bi(X:Cx)(c:Pos)(l:AM):Prop:=((backTo c (starEach l X.env)).all (λx=>!x.1)&&(backToKw c (keywordEach [] X.env)).all (λx=>x.1.isSome)&&decide (l.length+([]:List Keyword).length+(if ([]:List Keyword).isEmpty then 0 else 1)<30))=true
theorem Jn(i:Nat){o k j:Pos}(y:ZE X e f)(W:X.N[i]?=some x:=by rfl)(S:ip X.env.scope x:=by trivial)(Q:dq x:=by decide)(A:iV x:=by decide)(z:swapsWith (.Call (.Attribute (.Name x o) "append" k) [e] [] j) none pos.line X.env=pure false:=by rfl)(hs:Ze X e:=by rfl)(q:Bi X j [e]:=by rfl)(n:(k.endLine==j.line)=true:=by rfl)(m:attributeBase (.Name x o) "append" X.env (eval (.Name x o) X.env)=eval (.Name x o) X.env:=by rfl):ZS X (.Expr (.Call (.Attribute (.Name x o) "append" k) [e] [] j) pos) (bp i f aT):=⟨have y:=y.un;
 PS.imp (GZ (i9 PySem.F.plainAttrs_list PySem.F.slot_list_append PySem.F.type_list_append Hy (kA W S Q A) (fL y gO hs) m q n hs rfl) z) λF g H u=>by
  obtain⟨K,p,D,r,G,e,s,h⟩:=u;obtain⟨l,C,e⟩:=qa e;obtain⟨d,R,e⟩:=qa e;obtain⟨w,t,rfl⟩:=qc e;unfold aT at t
  split at t
  .rename_i U
   cases t;obtain⟨a,c,E,I,B,Y⟩:=my s C;refine⟨_,E,.inl ⟨rfl,c,.of I⟩,tOf.at R s λv Z O J M L=>⟨a,c,v,rfl,rfl,J.h _ _ I,?_,h g _ O (L.mut (yg C) E ((B.mono J.g).append (.one M)))⟩⟩;rw[B.length];exact Qi U (gy (qv _))
  .cases t⟩
theorem Bj(C:ZE X l f):ZI X tg l (b1 f Yc):=⟨have C:=C.un;PI.imp (yG C) λK H R F=>by
 obtain⟨D,N,Q,S,G,e,s,h⟩:=F;obtain⟨c,M,O⟩:=d7 e;refine tOf.at M s λv B o z A E=>?_;rcases gW O with rfl|rfl|⟨w,rfl,rfl⟩
 .obtain⟨p,r,rfl,g,j⟩:=A
  refine⟨p,r,rfl,.inr ⟨.inl (.inl (E.seen _ _ g)),λu=>h _ B o z (mz (by rwa [<-j.length]) λi L J a b=>⟨λd n=>?_,λt=>⟨r,.inl (.inl (b _ _ (a _ _ g))),by rwa [j.length]⟩⟩)⟩⟩;obtain⟨x,k,m⟩:=j.get n;refine⟨⟨r,x,.inl (.inl (b _ _ (a _ _ g))),k⟩,λy I q=>⟨q.1,?_⟩⟩;have:=q.2 r (.inl (.inl (b _ _ (a _ _ g))));rw[k]at this;cases this;exact m.mono a
 .obtain⟨p,r,rfl,g,j⟩:=A
  refine⟨p,r,rfl,.inl ⟨.inl (dU E.seen g),λu=>h _ B o z (mz (by rwa [<-j.length]) λi L J a b=>⟨λd n=>?_,λt=>⟨r,.inl (dU b (dU a g)),by rwa [j.length]⟩⟩)⟩⟩;obtain⟨x,k,m⟩:=j.get n;refine⟨⟨r,x,.inl (dU b (dU a g)),k⟩,λy I q=>⟨q.1,?_⟩⟩;have:=q.2 r (.inl (dU b (dU a g)));rw[k]at this;cases this;exact m.mono a
 .obtain⟨p,rfl,g⟩:=A
  have j:RpL X.K o _ _:=.ints w;refine⟨p,_,rfl,.inl ⟨E.seen.seq g,λu=>h _ B o z (mz (by ext) λi L J a b=>⟨λd n=>?_,λt=>⟨_,b.seq (a.seq g),by ext⟩⟩)⟩⟩;obtain⟨x,k,m⟩:=j.get n;refine⟨⟨_,x,b.seq (a.seq g),k⟩,λy I q=>⟨q.1,?_⟩⟩;have:=q.2 _ (b.seq (a.seq g));rw[k]at this;cases this
  exact m.mono a⟩
theorem Bm(q:Gl X "range")(z:X.mg "range"=none)(i:ZA X [a] ga)(hs:Ze X a:=by rfl):ZI X tg (.Call (.Name "range" p) [a] [] pos) (cF ga bx):=⟨have i:=i.un;
 PI.imp (Nl q z i hs) λg H R d=>by
  obtain⟨b,c,F,E,G,e,s,h⟩:=d;obtain⟨l,t,y⟩:=qa e;refine tAof.at t s λf k j o u C=>?_;obtain⟨n,rfl,A,B,rfl⟩:=Od y;obtain⟨v,rfl,m⟩:=kQ u;subst m;have:=h _ k j o (mC (gy (by unfold aK;ext)))
  ext<;>ac_nf⟩
theorem PJ(v:Gl X "range")(A:X.mg "range"=none)(i:ZA X [a,b] ga)(hs:starEach [a,b] X.env=[(false,eval a X.env),(false,eval b X.env)]:=by rfl)(d:Ze X b:=by rfl):ZI X tg (.Call (.Name "range" p) [a,b] [] pos) (cF ga dg):=⟨have i:=i.un;
 PI.imp (Nm v A i hs d) λw H R k=>by
  obtain⟨c,f,J,I,G,e,s,h⟩:=k;obtain⟨l,u,m⟩:=qa e;refine tAof.at u s λg o z t j L=>?_;obtain⟨a,n,rfl,E,M,F,C,rfl⟩:=Oe m;obtain⟨x,r,rfl,q,j⟩:=j;obtain⟨y,rfl,B⟩:=kQ j;subst q B
  exact⟨a,n,rfl,⟨by ac_nf,by ac_nf,by ac_nf,by ac_nf⟩,h _ o z t (mC (Qg (by ext<;>lia:(n-a).toNat<=2000000) (by decide)))⟩⟩
theorem Bn(i:Nat)(m:X.N.Nodup)(l:X.N[i]?=some x:=by rfl)(n:ec X.env.scope x:=by trivial)(k:Zf X x:=by trivial):ZG X (.Name x pos) (ai i):=⟨
 PG.imp (vY m l n k) λv c H Q j=>by
  obtain⟨d,b,a,q,o,G,e,s,r,h⟩:=j;cases e
  exact h _ (s.set_sh i r)⟩
theorem Bp(i j:Nat){x y:Str}{px B:Pos}{k:Nat}(E:X.calm=true)(q:X.N.Nodup)(I:X.N[i]?=some x:=by rfl)(C:X.N[j]?=some y:=by rfl)(z:ec X.env.scope x:=by trivial)(t:ec X.env.scope y:=by trivial)(A:Zf X x:=by trivial)(n:Zf X y:=by trivial):ZG X (.Tuple [.Name x px,.Name y B] k pos) (mD i j):=⟨
 PG.imp (v9 (n:=2) E (G6 (vY q I z A) (G6 (vY q C t n) v7))) λv M H Q o=>by
  obtain⟨d,f,c,J,L,G,e,s,r,h⟩:=o
  match d,e,r with
  | .tup [a,b],e,r=>
    cases e;obtain⟨p,D,rfl,g,l⟩:=r;obtain⟨u,K,rfl,F,l⟩:=l;obtain⟨w,rfl,m⟩:=kQ l
    exact⟨p,[u,w],rfl,.inl (.inl (s.seen _ _ g)),rfl,u,[w],rfl,w,[],rfl,rfl,h _ ((s.set_sh i F).set_sh j m)⟩⟩
theorem Jo(K:PassesOwn (mZ X.prog X.w) X.A X.env X.xe)(hc:X.calm=true)(O:ZI X tg iter gl)(R:ZG X tg gt)(w:ZB X C fs)(hs:∀x,foldedSetIterable iter X.env x=pure x:=by intro _;rfl):ZS X (.For tg iter C [] pos) (aY gl gt fs):=⟨have O:=O.un;have R:=R.un;have w:=w.un;
 PS.imp (wH K hc O R w hs) λF σ H Q=>by
  obtain⟨D,p,H0,G0,G,e,s,h⟩:=Q;obtain⟨c,N,h2⟩:=qa e;refine⟨D,c,H0,G0,G,N,s,λJ H1 E g1 wk=>?_⟩;obtain⟨M,Z,k⟩:=(s.grow g1).rebase;refine⟨λi m b f=>m=c.length-i/\i<=c.length/\∃a g,SR X.K M E b f g a/\forM gt fs (c.drop i) a=some p,⟨_,rfl,Qh _,D,E,Z,h2⟩,?_⟩;rintro i m b f ⟨rfl,O,a,g,r,j⟩;have W:=wk.2 i f g r.gr.g r.seen;by_cases u:i<c.length
  .obtain⟨go,T⟩:=W.1 _ (qr u)
   rw[List.drop_eq_getElem_cons u]at j;obtain⟨L,e1,j⟩:=qa j;obtain⟨o,e2,j⟩:=qa j;refine .inr ⟨go,λb f=>i+1<=c.length/\∃a g,SR X.K M E b f g a/\forM gt fs _ a=some p,λY U q=>⟨c.length-(i+1),by symm,rfl,q.1,q.2⟩,λx U y=>?_⟩;obtain⟨S,g2,r2⟩:=T x U y;refine⟨_,a,L,M,E,S,e1,r.grow g2,r2,λσ3 s3=>⟨L,o,M,E,S,e2,s3,?_⟩⟩
   cases o with
   | nx n=>exact λA B z I=>⟨u,n,z,I,j⟩
   | ct n=>exact λA B z I=>⟨u,n,z,I,j⟩
   | bk n=>
     cases j;exact λA B z I=>h A B z (k _ _ _ _ I)
   | rt d=>
     cases j;refine λv B z g4 V=>h v B z ?_ V;have:=(k [] B z [] (.mkSh g4 rfl (λi d e=>by simp at e) (λi l e=>by simp at e) (λi t ks vs e=>by simp at e))).gr;exact this
  .have ei:i=c.length:=by ac_nf
   subst ei;rw[List.drop_length]at j;cases j
   exact .inl ⟨W.2 (qv _),h b f g (k _ _ _ _ r)⟩⟩
def PL(n:Nat)(M:PassesOwn (mZ X.prog X.w) X.A X.env X.xe)(u:ZT X c fc)(y:ZB X j fs):ZS X (.While c j [] pos) (gA fc fs n):=⟨have u:=u.un;have y:=y.un;
 PS.imp (Nh M u y) λF N H w=>by
  obtain⟨D,i,t,z,G,e,s,h⟩:=w;refine⟨λm b p=>∃a l,SR X.K t z b p l a/\gA fc fs m a=some i,⟨n,D,G,s,e⟩,?_⟩;rintro m b p ⟨a,l,K,f⟩
  cases m with
  | zero=>cases f
  | succ m=>
    obtain⟨k,C,f⟩:=qa f;refine tTof.at C K λJ B O A=>?_
    cases k with
    | false=>
      cases f;exact h b J B A
    | true=>
      obtain⟨o,L,f⟩:=qa f;refine⟨λb p=>∃a l,SR X.K t z b p l a/\gA fc fs m a=some i,λE Q q=>⟨m,Qa m,q⟩,⟨a,o,t,z,B,L,A,?_⟩⟩
      cases o with
      | nx g=>exact λr I x v=>⟨g,x,v,f⟩
      | ct g=>exact λr I x v=>⟨g,x,v,f⟩
      | bk g=>cases f;exact h
      | rt d=>cases f;exact h⟩
def Jp :fZ X X.K [] tY:=⟨yI⟩
def Jq(S:gu X.N X.env.scope N src scope)(o:X.calm=true)(l:ZI X tg iter gl)(m:∀h C i s H,ZG (cJ X scope N h C i s H) tg gt)(q:∀h C i s H,fZ (cJ X scope N h C i s H) X.K ifs fc)(n:∀h C i s H,ZE (cJ X scope N h C i s H) elt fe)(k:∀ρ d j,gt d (aq src ρ)=some j->Le (aq src ρ) j)(hs:∀x,foldedSetIterable iter X.env x=pure x:=by intro _;rfl):ZF X (.ListComp elt [⟨tg,iter,ifs,0⟩] scope pos) (Yo gl src gt fc fe):=⟨yJ S o l.un (λh C i s H=>(m h C i s H).un) (λh C i s H=>(q h C i s H).un) (λh C i s H=>(n h C i s H).un) k hs⟩
theorem Bq(i:Nat){q k:Pos}(F:X.N.Nodup)(S:gu X.N X.env.scope N src scope)(v:X.calm=true)(n:ZI X tg iter gl)(z:∀j C h s H,ZG (cJ X scope N j C h s H) tg gt)(B:∀j C h s H,fZ (cJ X scope N j C h s H) X.K ifs fc)(A:∀j C h s H,ZE (cJ X scope N j C h s H) elt fe)(o:∀ρ d l,gt d (aq src ρ)=some l->Le (aq src ρ) l)(m:swapsWith (.ListComp elt [⟨tg,iter,ifs,0⟩] scope pos) (some (.Name y q)) k.line X.env=pure true:=by rfl)(u:X.N[i]?=some y:=by rfl)(t:ec X.env.scope y:=by trivial)(E:Zf X y:=by trivial)(hs:∀x,foldedSetIterable iter X.env x=pure x:=by intro _;rfl):ZS X (.Assign [.Name y q] (.ListComp elt [⟨tg,iter,ifs,0⟩] scope pos) k) (aF i (Yo gl src gt fc fe)):=⟨yK i F S v n.un (λj C h s H=>(z j C h s H).un) (λj C h s H=>(B j C h s H).un) (λj C h s H=>(A j C h s H).un) o m u t E hs⟩
def Jr{f:Addr}{fd:FuncData}{fb:AT}(F:Fun K x i st f fd)(S:ir N ps (aCa st))(l:N.length=n)(o:ps.length=m)(b:∀(h:Value) (A:Around) (d:List Env) (s:Shared) (H:Hp) (E:XK),Room k (A.deeper (envOfC i (aCa st) (~~~s) f h))->ZB (dQ eh P w K mg base N i (aCa st) f h A d s H E).nox (aEa st) fb):cA P w K mg base eh (k+1) f fd ps (de K m (au m n fb)):=Og F S l o (λh A d s H E j=>(b h A d s H E j).un)
theorem Br(c:aJ X.prog X.w X.K X.mg X.base j n x ps v)(s:Room k X.A)(q:Gl X x)(h:ZA X (e::es) ga)(u:∀ρ l,ga ρ=some l->l.length=n)(o:j<=k:=by first|exact qv _|ac_nf)(d:dq x:=by decide)(m:Zc X e es:=by rfl)(i:Zd X pos es:=by rfl):ZE X (.Call (.Name x p) (e::es) [] pos) (cC ga v):=⟨have h:=h.un;by
 obtain⟨a,g,F,b,t,y⟩:=c
 exact yB F (s.mono o) q y t b h d m i u⟩
def rC(d:ZC X a fa)(c:ZC X b fb):ZE X (.BinOp a .Add b pos) (b2 fa fb cN):=⟨have d:=d.un;have c:=c.un;kI wM HW d c⟩
def Bt(j:ZC X a fa):ZE X (.UnaryOp .USub a pos) (b1 fa bU):=⟨have j:=j.un;PE.imp (wK wV j) λc H Q i=>by
 obtain⟨b,d,u,y,G,e,s,h⟩:=i;obtain⟨x,o,k⟩:=d7 e;refine tCof.at o s λv n l q m t=>?_;cases x<;>simp[bU]at k;subst k
 exact⟨_,m,h _ n l q (by rw[Rp])⟩⟩
def Bu(n:ZC X a fa)(c:ZC X b fb):ZF X (.BinOp a .Add b pos) (b2 fa fb bV):=⟨have n:=n.un;have c:=c.un;PE.imp (pU yN n c) λr H Q k=>by
 obtain⟨g,l,W,Z,G,e,s,h⟩:=k;obtain⟨R,S,L,J,d⟩:=md e;refine tCof.at L s λv w Y z E A=>tCof.at J A λu U M j B y=>?_;unfold bV at d
 split at d
 .split at d
  .rename_i C
   cases d;obtain⟨p,f,rfl,F,t⟩:=E.grow j;obtain⟨q,O,rfl,I,o⟩:=B;exact⟨p,q,f,O,rfl,rfl,F,I,by rw[t.length,o.length];exact gy C,λm i=>h m _ _ M ((z.trans j).trans (.hid y.seen i _)) (z.h.free (j.h.free i)) (y.seen.free i) Yh (t.append o)⟩
  .cases d
 .cases d⟩
theorem Bv(A:ZC X a fa)(J:Gl X "isinstance")(t:Gl X i)(b:X.mg "isinstance"=none)(u:X.mg i=none)(y:bootBuiltins i=some (.type T))(I:yP T)(S:bootBuiltins "isinstance"=some (.builtin "isinstance"):=by decide +kernel)(o:i≠"__name__":=by decide)(q:(i==("__debug__":Str))=false:=by decide)(hs:starEach [a,.Name i j] X.env=(false,eval a X.env)::starEach [.Name i j] X.env:=by rfl)(B:starEach [.Name i j] X.env=(false,eval (.Name i j) X.env)::starEach [] X.env:=by rfl)(z:(backTo pos (starEach [.Name i j] X.env)).any (·.1)=false:=by rfl):ZE X (.Call (.Name "isinstance" p) [a,.Name i j] [] pos) (mB (b1 fa (er T))):=⟨have A:=A.un;
 PE.imp (kF (Oi I) J b S (fL A (fL (vB t u y (v:=.ty T) rfl o q) gO B) hs) (by decide) (by decide) hs z) λc H Q n=>by
  obtain⟨f,d,U,Y,G,e,s,h⟩:=n;obtain⟨k,E,rfl⟩:=yk e;obtain⟨x,O,m⟩:=d7 E;unfold er at m
  split at m
  .cases m
   exact tCof.at O s λv F C R L W=>⟨v,x,C,rfl,by assumption,L,h _ F C R (by rw[Rp])⟩
  .cases m⟩
theorem PM(W:Gl X "enumerate")(D:X.mg "enumerate"=none)(L:ZE X l f)(hs:Ze X l:=by rfl):ZI X (.Tuple elts x1 pt) (.Call (.Name "enumerate" p) [l] [] pos) (b1 f jr):=⟨have L:=L.un;
 PI.imp (yX W D (yA L yz hs) hs) λσ H R F=>by
  obtain⟨V,ds,H0,G0,G,e,s,h⟩:=F;obtain⟨c,Y,K⟩:=d7 e;obtain⟨l,N,rfl⟩:=qc K;refine tAof.at (show Yb f _ V=some [c] by simp[Yb,ae,Y]) s λvs C B J Z I=>?_;obtain⟨v,rfl,E⟩:=kQ Z;rcases gW N with rfl|rfl|⟨T,rfl,rfl⟩
  .obtain⟨p,r,rfl,g,j⟩:=E
   refine⟨p,r,rfl,.inr ⟨.inl (.inl (I.seen _ _ g)),λo=>h _ C B J ⟨by rw[kW,<-j.length];exact o,λi U O b a=>⟨λd A=>?_,λt=>⟨r,.inl (.inl (a _ _ (b _ _ g))),by rw[j.length,<-kW l];exact t⟩⟩⟩⟩⟩;obtain⟨w,k,rfl⟩:=yY A;obtain⟨x,m,u⟩:=j.get k;refine⟨⟨r,x,.inl (.inl (a _ _ (b _ _ g))),m⟩,λy Q q=>?_⟩;obtain⟨M,S,z,n,rfl,rfl⟩:=q;have:=z r (.inl (.inl (a _ _ (b _ _ g))));rw[m]at this;cases this;exact Gr.newTup a n i (u.mono b)
  .obtain⟨p,r,rfl,g,j⟩:=E
   refine⟨p,r,rfl,.inl ⟨.inl (dU I.seen g),λo=>h _ C B J ⟨by rw[kW,<-j.length];exact o,λi U O b a=>⟨λd A=>?_,λt=>⟨r,.inl (dU a (dU b g)),by rw[j.length,<-kW l];exact t⟩⟩⟩⟩⟩;obtain⟨w,k,rfl⟩:=yY A;obtain⟨x,m,u⟩:=j.get k;refine⟨⟨r,x,.inl (dU a (dU b g)),m⟩,λy Q q=>?_⟩;obtain⟨M,S,z,n,rfl,rfl⟩:=q;have:=z r (.inl (dU a (dU b g)));rw[m]at this;cases this;exact Gr.newTup a n i (u.mono b)
  .obtain⟨p,rfl,g⟩:=E
   have j:RpL X.K B _ _:=.ints T;refine⟨p,_,rfl,.inl ⟨I.seen.seq g,λo=>h _ C B J ⟨by rw[kW,<-j.length];exact o,λi U O b a=>⟨λd A=>?_,λt=>⟨_,a.seq (b.seq g),by rw[j.length,<-kW];exact t⟩⟩⟩⟩⟩;obtain⟨w,k,rfl⟩:=yY A;obtain⟨x,m,u⟩:=j.get k;refine⟨⟨_,x,a.seq (b.seq g),m⟩,λy Q q=>?_⟩;obtain⟨M,S,z,n,rfl,rfl⟩:=q;have:=z _ (a.seq (b.seq g));rw[m]at this;cases this
   exact Gr.newTup a n i (u.mono b)⟩
theorem PN(i:Nat){p2 apos cpos:Pos}(hb:ZE X ie fb)(he:ZE X e f)(hN:X.N[i]?=some x:=by rfl)(hv:ip X.env.scope x:=by trivial)(hd:dq x:=by decide)(hcd:iV x:=by decide)(hse:swapsWith (.Call (.Attribute (.Name x p2) "insert" apos) [ie,e] [] cpos) none pos.line X.env=pure false:=by rfl)(hs:starEach [ie,e] X.env=(false,eval ie X.env)::starEach [e] X.env:=by rfl)(hs2:Ze X e:=by rfl)(hfew:Bi X cpos [ie,e]:=by rfl)(hline:(apos.endLine==cpos.line)=true:=by rfl)(hbase:attributeBase (.Name x p2) "insert" X.env (eval (.Name x p2) X.env)=eval (.Name x p2) X.env:=by rfl)(hpl:(backTo cpos (starEach [e] X.env)).any (·.1)=false:=by rfl):ZS X (.Expr (.Call (.Attribute (.Name x p2) "insert" apos) [ie,e] [] cpos) pos) (qR i fb f fV):=⟨have hb:=hb.un;have he:=he.un;
 PS.imp (GZ (i9 PySem.F.plainAttrs_list PySem.F.slot_list_insert PySem.F.type_list_insert OE (kA hN hv hd hcd) (fL hb (fL he gO hs2) hs) hbase hfew hline hs hpl) hse) λF σ H hx_=>by
  obtain⟨ρ,out,H0,G0,G,e,s,h⟩:=hx_;unfold qR at e;obtain⟨d,h1,e⟩:=qa e;obtain⟨l,h2,e⟩:=qa e;obtain⟨k,h3,e⟩:=qa e;obtain⟨l',h4,rfl⟩:=qc e;unfold fV at h4;obtain⟨n,h5,h4⟩:=qa h4
  split at h4
  .rename_i hc
   cases h4;simp only[Qe,wg]at hc;obtain⟨⟨hc1,hc2⟩,hc3⟩:=hc;obtain⟨a,xs,ha,hH,hr,hG⟩:=my s h2;refine⟨_,ha,.inl ⟨rfl,xs,SqL.of hH⟩,tOf.at h3 s λu H1 G1 g1 r1 s1=>tOf.at h1 s1 λv H2 G2 g2 r2 s2=>?_⟩;cases k<;>simp[eT]at h5;subst h5;rw[Rp]at r1;subst r1;have hr2:=(hr.mono g1.g).mono g2.g;refine⟨a,xs,_,v,rfl,rfl,g2.h _ _ (g1.h _ _ hH),hc1,by rw[hr.length];exact hc2,?_,h σ _ G2 (s2.mut (yg h2) ha ((hr2.take _).append (.cons r2 (hr2.drop _))))⟩;rw[hr.length];exact Qi hc3 (gy (qv _))
  .cases h4⟩
theorem PQ(g:GD X.K X.w X.mg x j)(J:Gl X x)(z:ZC X ke fk)(hs:lW ke:=by intro _ _;rfl)(Y:dq x:=by decide):ZE X (.Subscript (.Name x px) ke pos) (b1 fk (qV j)):=⟨have z:=z.un;by
 obtain⟨p,o,c,M,K,L,A,n,i⟩:=g;intro b s T H Q I ⟨ρ,d,H0,V,G,e,D,h⟩;obtain⟨dk,W,l⟩:=d7 e;refine xx PySem.F.slot_dict_getitem.lookup hs (GX I J K (aS (z _ s T H (λR f=>∃k r,R=.str k/\j.lookup k=some r/\Q (.str r) f) I (tCof.at W D λv U O N F s1=>?_)) λiv s2 S=>?_) Y)
 .unfold qV at l
  split at l
  .rename_i k
   obtain⟨r,m,rfl⟩:=qc l;exact⟨k,r,F.1,m,h _ U O N (⟨rfl,mM i m⟩)⟩
  .cases l
 .obtain⟨y,Z,C,E,k,r,rfl,m,q⟩:=S
  obtain⟨t,rfl⟩:=E;have B:=C.kIn p o L;obtain⟨e',w,f1,f2⟩:=IB (P:=X.prog) i m;refine⟨⟨o,B,A.1⟩,wpAny_getItem_of (knd:=PySem.strKind _ X.w) (k:=k) (by simp[PySem.strKind,Value.isStrOf]) ⟨o,c,M,B,A,n,?_,λ_=>rfl⟩ ?_ ⟨.str r,Z,C.tok _,⟨w,rfl⟩,q⟩⟩
  .intro u he
   exact IC i u ⋯
  .show(c.find? _).map _=_
   ext⟩
def Bw(e:X.A.units+64<cLine)(c:ZC X a fa)(d:ZC X b fb)(hs:iu b:=by intro _ _;rfl):ZE X (.Subscript a b pos) (b2 fa fb fX):=⟨have c:=c.un;have d:=d.un;qM (zf e) OF c d hs⟩
theorem Bx(hu:X.A.units+64<cLine)(i:Nat){p2 p3:Pos}(hb:ZC X ie fb)(he:ZE X e f)(hN:X.N[i]?=some x:=by rfl)(hv:ip X.env.scope x:=by trivial)(hd:dq x:=by decide)(hcd:iV x:=by decide)(ha:∀v,assign (.Subscript (.Name x p2) ie p3) X.env v=(do
 let ov <-holding [v] (eval (.Name x p2) X.env)
 let iv <-holding [v,ov] (eval ie X.env)
 standAt p3
 holding [v,ov,iv] (setItem ov iv v)
 release [v,ov,iv] []):=by intro _;rfl)(hs:swapsWithSole [.Subscript (.Name x p2) ie p3] e pos.line X.env=pure false:=by rfl)(hw:swappedStores [.Subscript (.Name x p2) ie p3] e X.env=pure none:=by rfl)(h1:(assignEach [.Subscript (.Name x p2) ie p3] X.env).map (·.2)=[assign (.Subscript (.Name x p2) ie p3) X.env]:=by rfl):ZS X (.Assign [.Subscript (.Name x p2) ie p3] e pos) (g0 i fb f):=⟨have hb:=hb.un;have he:=he.un;
 PS.imp (lM he (lL (kA hN hv hd hcd) hb (zj hu) ha) hs hw h1) λF σ H hx_=>by
  obtain⟨ρ,out,H0,G0,G,e,s,h⟩:=hx_;unfold g0 at e;obtain⟨d,h1,e⟩:=qa e;obtain⟨l,h2,e⟩:=qa e;obtain⟨k,h3,e⟩:=qa e;obtain⟨l',h4,rfl⟩:=qc e;obtain⟨ks,vs⟩:=l;unfold gZ at h4;obtain⟨kn,h5,h4⟩:=qa h4;obtain⟨z,h6,h4⟩:=qa h4
  split at h4
  case isFalse=>cases h4
  rename_i hcap;have hod:=IF h2;refine tOf.at h1 s λv H1 G1 g1 r1 s1=>?_;obtain⟨a0,_,_,ha0,_⟩:=s1.od i _ _ _ hod;refine⟨_,ha0,tCof.at h3 s1 λu H2 G2 g2 r2 s2=>?_⟩;obtain⟨a,kxs,vxs,ha,hG,hH0,dc,rk,rv⟩:=s2.od i _ _ _ hod;rw[ha0]at ha;cases ha;obtain⟨nks,dt,rfl,hk⟩:=mR h5 rk s2.seen dc;obtain⟨b,ys,rfl,b1,b2',n⟩:=mO h6 r2;have e:=ze h5 rk hk
  have hvl:vxs.length<aK:=by rw[rv.length];exact hcap
  refine⟨a0,b,nks,vxs,ys,z,rfl,rfl,dt,b1,n,hvl,λep=>?_⟩
  have hne:a0≠b:=λz=>by rw[z,b2']at hG;cases hG
  have r1':=r1.mono g2.g;injection h4 with h4;subst e;refine h _ _ G2 (s2.mutd hod ha0 (kxs:=(cO nks vxs z b v).1.map (λp=>V.ref p.2)) (vxs:=(cO nks vxs z b v).2) ?_ ?_ ?_)
  .refine .inr (.inl ⟨rfl,(cO nks vxs z b v).1,ep,Yh,?_,?_,rfl,?_⟩)
   .unfold cO
    split
    .rw[mK];exact dt.len
    .simp[dt.len]
   .unfold cO
    split
    .exact dt.nd
    .rename_i hm
     rw[Qk,List.nodup_append];refine⟨dt.nd,by simp,λx hx y hy z'=>?_⟩;simp at hy;subst z' hy;exact hm hx
   .unfold cO
    split
    .exact hk
    .intro p hp
     rcases qw hp with hp|hp
     .exact hk p hp
     .rw[List.mem_singleton.mp hp]
      exact⟨ys,b2',n⟩
  .rw[<-h4]
   unfold cO
   split
   .exact rk
   .rw[Qk]
    refine RpL.snoc ?_ rk
    cases k with
    | tup l=>
      rw[Ct]at r2;obtain⟨b',ys',e,⟨g1,g2⟩,rl⟩:=r2;rw[Rp];exact⟨b',ys',e,g2,rl⟩
    | _=>cases h6
  .rw[<-h4]
   unfold cO
   split
   .exact qU z r1' rv
   .exact RpL.snoc r1' rv⟩
def By(X:Cx)(pos' pos g p2:Pos)(x:Str)(i:Nat)(es:AM)(b:Expr)(fb:AW)(ns:AH)(c:X.N.Nodup)(h:mS es=some ns)(d:X.N[i]?=some x)(e:ec X.env.scope x)(f:X.fn x=true\/X.env.scope.names.lookup x=some .local)(hs:iu b)(a:ZC X b fb):ZS X (.Assign [.Name x pos'] (.Subscript (.List es g) b p2) pos) (ao i (b2 (lF (jw ns)) fb aj)):=⟨have a:=a.un;
 mx i c (Ia (ME.mc (MF.me (zk ns h))) a hs) d e rfl f⟩
end
section
variable {a b c e:Expr}{fb fc:AW}
theorem PR(N:bR X (compareOp E) r)(J:eG X.K r g)(A:bR X (compareOp i) T)(p:eG X.K T g')(t:ZC X a fa)(l:ZC X b fb)(q:ZC X c fc)(R:lastMarks [E,i] [b,c]=false:=by with_unfolding_all rfl):ZE X (.Compare a [E,i] [b,c] pos) (mB (qX fa fb fc g g')):=⟨have t:=t.un;have l:=l.un;have q:=q.un;
 PE.imp (Nt N A t l q R) λσ H Q h=>by
  obtain⟨ρ,d,H0,G0,G,e,s,h⟩:=h;obtain⟨k,U,rfl⟩:=yk e;obtain⟨x,y,M,Z,f⟩:=OG U;refine tCof.at M s λv H1 G1 K F L=>tCof.at Z L λu B m j n o=>?_;rcases f with⟨f,rfl⟩|⟨f,z,S,O⟩
  .exact J v u x y _ B m _ f o.seen (F.grow j) n ⟨false,rfl,h _ B m (K.trans j) (by rw[Rp])⟩
  .exact J v u x y _ B m _ f o.seen (F.grow j) n ⟨true,rfl,tCof.at S o λw D I C r3 Y=>p u w y z k D I _ O Y.seen (n.grow C) r3 (h _ D I ((K.trans j).trans C) (by rw[Rp]))⟩⟩
end
section
variable {e a b:Expr}{f fb:AW}{fc:AV}
def Bz(is:AG)(h:ZT X e fc):ZT X e (mU is fc):=⟨have h:=h.un;PT.imp h λσ H Q hx_=>by
 obtain⟨ρ,d,H0,G0,G,e,s,h⟩:=hx_;obtain⟨G',s'⟩:=SR.frz is s
 exact⟨frz is ρ,d,H0,G0,G',e,s',λH1 G1 g=>h H1 G (.back s.seen g)⟩⟩
def BA(g:X.A.units+64<cLine)(d:ZC X a fa)(c:ZC X b fb)(hs:iu b:=by intro _ _;rfl):ZE X (.Subscript a b pos) (b2 fa fb eW):=⟨have d:=d.un;have c:=c.un;qM (zp g) OJ d c hs⟩
theorem PU(hu:X.A.units+64<cLine)(t:ZC X o fa)(B:ZC X e1 fb)(g:ZE X e2 fz)(m:M2 X o "get" n e1 e2 j):ZE X (.Call (.Attribute o "get" n) [e1,e2] [] j) (b3 fa fb fz k0):=⟨have t:=t.un;have B:=B.un;have g:=g.un;
 PE.imp (NF ∅ t B g m) λσ H Q p=>by
  obtain⟨ρ,d,H0,K,G,e,s,h⟩:=p;obtain⟨x,M,e⟩:=qa e;obtain⟨y,Y,e⟩:=qa e;obtain⟨z,T,e⟩:=qa e;obtain⟨ks,f,i,b,rfl,rfl,J,rfl⟩:=ON e;refine tCof.at M s λv H1 G1 V I L=>?_;have q:=I;obtain⟨a,c,D,rfl,O,N,rv⟩:=q;refine⟨a,rfl,.inl ⟨_,.inl (mY J O N).1⟩,tCof.at Y L λu H2 G2 E R P=>tOf.at T P λw W U F Z s3=>?_⟩;subst R;obtain⟨a',C,l,S,r,A,k⟩:=I.grow (E.trans F);cases S;obtain⟨e1,e2,e3,e4⟩:=mY J r A;refine⟨bf b l i,?_,h _ W U ((V.trans E).trans F) ?_⟩
  .have:=DGet.k (k:=.inl i) e1
   rwa [qY]at this
  .cases g:bf b f i with
   | none=>
     rwa [(kY i k).2 g]
   | some d=>
     obtain⟨v,f1,f2⟩:=(kY i k).1 d g
     symm⟩
def Js(c:ZC X a fa)(d:ZC X b fb):ZE X (.BinOp a .RShift b pos) (b2 fa fb cB):=⟨have c:=c.un;have d:=d.un;kI wU (qN (λ_ _ h=>wm h)) c d⟩
def BC(g:X.A.units+64<cLine)(d:ZC X a fa)(c:ZC X b fb)(h:behindInMarks .NotIn b=false:=by with_unfolding_all rfl):ZT X (.Compare a [.NotIn] [b] pos) (b2 fa fb (eX true)):=⟨have d:=d.un;have c:=c.un;gv (zx g) zv d c h⟩
def PV{lo u:Option Expr}(r:ZC X a fa)(m:ZO X lo fl)(t:ZO X u fh):ZE X (.Subscript a (.Slice lo u none O) pos) (ra fa fl fh):=⟨have r:=r.un;have m:=m.un;have t:=t.un;
 PE.imp (Hs (.or Hv (.or xG zA)) r m t) λY H Q o=>by
  obtain⟨V,d,R,Z,G,e,s,h⟩:=o;obtain⟨M,A,e⟩:=qa e;obtain⟨i,J,e⟩:=qa e;obtain⟨j,C,e⟩:=qa e;refine tCof.at A s λv T S I B z=>qP J z λN U y K=>qP C K λE D x l=>?_;have w:=(B.grow y).grow x;have n:=(I.trans y).trans x;unfold g6 at e
  split at e
  .cases e
   obtain⟨p,b,rfl,g,c⟩:=w;refine .inl ⟨p,b,rfl,.inl g,λq f=>h _ _ _ (n.trans (.new l.seen f _)) (⟨q,_,rfl,.inl Yh,?_⟩)⟩;unfold cf ef;rw[c.length];exact((c.drop _).take _).mono (Gr.new l.seen f _).g
  .cases e
   obtain⟨p,b,rfl,⟨g,F⟩,c⟩:=w;by_cases k:HT.sIx b.length 0 i=0/\HT.sIx b.length b.length j=b.length
   .refine .inr (.inr ⟨p,b,rfl,.of g,k.1,k.2,h _ E D n (⟨p,b,rfl,F,?_⟩)⟩)
    unfold cf
    rwa [<-c.length,k.1,k.2,List.drop_zero,Nat.sub_zero,c.length,List.take_length]
   .refine .inr (.inl ⟨p,b,rfl,.of g,k,λq f=>h _ _ _ (n.trans (.new l.seen f _)) (⟨q,_,rfl,Yh,?_⟩)⟩)
    unfold cf ef;rw[c.length];exact((c.drop _).take _).mono (Gr.new l.seen f _).g
  .cases e⟩
end
def BD(h:ZT X c f):fZ X X.K [c] f:=⟨have h:=h.un;λb s d H Q I a=>wpAny_tests_one (h _ s d H Q I a)⟩
def BE(h:ZW X e f):ZT X e f:=⟨PW.pt h.un⟩
section
variable {e e2:Expr}{f:AW}{p p2:Pos}
theorem PX(A:X.calm=true)(V:Gl X "sorted")(E:X.mg "sorted"=none)(k:Gl X "set")(i:X.mg "set"=none)(t:ZC X e f)(hs:Ze X e:=by rfl)(y:starEach [.Call (.Name "set" p2) [e] [] pos2] X.env=[(false,eval (.Call (.Name "set" p2) [e] [] pos2) X.env)]:=by rfl)(g:(backTo pos2 (starEach [] X.env)).any (·.1)=false:=by rfl)(a:(backTo pos (starEach [] X.env)).any (·.1)=false:=by rfl):ZF X (.Call (.Name "sorted" p) [.Call (.Name "set" p2) [e] [] pos2] [] pos) (m8 f):=⟨have t:=t.un;
 PE.imp (kF (IU A) V E boot_sorted (fL (i7 (zF A) k i boot_set (kO t kN hs) (by decide) (by decide) hs g) gO y) (by decide) (by decide) y a) λZ H Q b=>by
  obtain⟨D,l,S,T,G,e,s,h⟩:=b;obtain⟨R,I,e⟩:=qa e;obtain⟨d,N,P⟩:=d7 I;refine tCAof.at (show Yb f _ D=some [d] by simp[Yb,ae,N]) s λY U O B L u=>?_;obtain⟨v,rfl,J⟩:=gz L;obtain⟨q,xs,rfl,F,K⟩:=mv P J;unfold iE at e
  split at e
  .rename_i M n
   split at e
   .rename_i z
    cases e;cases jo n;cases jq K;refine⟨q,M,rfl,F,z.1,λm w j C=>?_⟩;have c:=Gr.hid u.seen j (dh X.prog X.w m w);have x:=u.grow c;refine⟨m,w,rfl,Yh,by rw[C.length_eq];exact z.2,λr o=>?_⟩;rw[IV C];refine h r _ _ O ((B.trans c).trans (.hid x.seen o _)) ((B.trans c).h.free o) (x.seen.free o) Yh (.ints _)
   .cases e
  .cases e⟩
theorem PY(B:X.calm=true)(hg:Gl X "sorted")(hm:X.mg "sorted"=none)(o:Gl X "set")(t:X.mg "set"=none)(C:ZC X e f)(g:ZC X e2 f2)(hs:starEach [e] X.env=[(false,eval e X.env)]:=by rfl)(u:starEach [e2] X.env=[(false,eval e2 X.env)]:=by rfl)(W:starEach [.BinOp (.Call (.Name "set" p2) [e] [] pos2) .BitXor (.Call (.Name "set" p3) [e2] [] pos3) pos4] X.env=[(false,eval (.BinOp (.Call (.Name "set" p2) [e] [] pos2) .BitXor (.Call (.Name "set" p3) [e2] [] pos3) pos4) X.env)]:=by rfl)(N:(backTo pos2 (starEach [] X.env)).any (·.1)=false:=by rfl)(i:(backTo pos3 (starEach [] X.env)).any (·.1)=false:=by rfl)(j:(backTo pos (starEach [] X.env)).any (·.1)=false:=by rfl):ZF X (.Call (.Name "sorted" p) [.BinOp (.Call (.Name "set" p2) [e] [] pos2) .BitXor (.Call (.Name "set" p3) [e2] [] pos3) pos4] [] pos) (zW f f2):=⟨have C:=C.un;have g:=g.un;
 PE.imp (kF (IU B) hg hm boot_sorted (fL (pU op_xor (i7 (zF B) o t boot_set (kO C kN hs) (by decide) (by decide) hs N) (i7 (zF B) o t boot_set (kO g kN u) (by decide) (by decide) u i)) gO W) (by decide) (by decide) W j) λσ H Q T=>by
  obtain⟨ρ,l,H0,G0,G,e,s,h⟩:=T;obtain⟨l1,h1,e⟩:=qa e;obtain⟨l2,h2,e⟩:=qa e;obtain⟨d1,i1,j1⟩:=d7 h1;obtain⟨d2,i2,j2⟩:=d7 h2;obtain⟨a,ea,e⟩:=qa e;obtain⟨b,eb,e⟩:=qa e
  split at e
  case isFalse=>cases e
  rename_i hl;obtain⟨R,S,b3,b4,b5,b6⟩:=hl;cases e;cases jo ea;cases jo eb;refine tCAof.at (show Yb f ae ρ=some [d1] by simp[Yb,ae,i1]) s λvs H1 G1 g1 r1 U=>?_;obtain⟨v,rfl,rv⟩:=gz r1;obtain⟨q,xs,rfl,T,rl⟩:=mv j1 rv;cases jq rl;refine⟨q,a,rfl,T,R,λm ns K hp=>?_⟩;have M:=Gr.hid U.seen K (dh X.prog X.w m ns);have s2:=U.grow M;refine tCAof.at (show Yb f2 ae ρ=some [d2] by simp[Yb,ae,i2]) s2 λvs2 H3 G3 D r3 Y=>?_;obtain⟨v2,rfl,A⟩:=gz r3;obtain⟨q2,xs2,rfl,E,I⟩:=mv j2 A;cases jq I;refine⟨q2,b,rfl,E,S,λm2 ms n d=>?_⟩;have y:=Gr.hid Y.seen n (dh X.prog X.w m2 ms);have V:=Y.grow y;have O:=y.h _ _ (D.h _ _ Yh);refine⟨m,m2,ns,ms,rfl,rfl,O,Yh,λk hk=>?_,by rw[d.length_eq];exact b4,by rw[hp.length_eq];exact b3,λr Z hr L w=>?_⟩
  .have hk':k∈b:=by
    have:=d.mem_iff.mp hk;rw[ey]at this;grind
   ext
  have F:=Gr.hid V.seen hr (dh X.prog X.w r Z);have s5:=V.grow F
  have c:=(List.perm_ext_iff_of_nodup L (zV a b)).mpr λx=>by
   rw[w,I_,hp.mem_iff,d.mem_iff,ey,ey];simp
  refine⟨r,Z,rfl,Yh,by rw[c.length_eq];exact b6,λz J=>?_⟩;rw[IV c]
  exact h z _ _ G3 (((((g1.trans M).trans D).trans y).trans F).trans (.hid s5.seen J _)) (((((g1.trans M).trans D).trans y).trans F).h.free J) (s5.seen.free J) Yh (.ints _)⟩
theorem PZ(hc:X.calm=true)(S:X.A.units+64<cLine)(U:Gl X "sorted")(hm:X.mg "sorted"=none)(u:Gl X "set")(z:X.mg "set"=none)(w:ZC X e f)(hs:Ze X e:=by rfl)(L:starEach [.Call (.Name "set" p2) [e] [] pos2] X.env=[(false,eval (.Call (.Name "set" p2) [e] [] pos2) X.env)]:=by rfl)(A:(backTo pos2 (starEach [] X.env)).any (·.1)=false:=by rfl)(j:(backTo pos (starEach [] X.env)).any (·.1)=false:=by rfl):ZF X (.Call (.Name "sorted" p) [.Call (.Name "set" p2) [e] [] pos2] [] pos) (Ag f):=⟨have w:=w.un;
 PE.imp (kF (Py hc) U hm boot_sorted (fL (i7 (Px hc S) u z boot_set (kO w kN hs) (by decide) (by decide) hs A) gO L) (by decide) (by decide) L j) λσ H Q x=>by
  obtain⟨ρ,l,H0,G0,G,e,s,h⟩:=x;obtain⟨V,W,e⟩:=qa e;obtain⟨d,h2,n⟩:=d7 W;refine tCAof.at (show Yb f ae ρ=some [d] by simp[Yb,ae,h2]) s λvs H1 Z K O y=>?_;obtain⟨v,rfl,Y⟩:=gz O;unfold g9 at n
  split at n
  case h_2=>cases n
  cases n;obtain⟨a,xs,rfl,R,I⟩:=Y
  obtain⟨ps,c⟩:∃ps,dV V=some ps:=by
   obtain⟨ps,P,_⟩:=qa e;exact⟨ps,P⟩
  obtain⟨F,rfl,hA⟩:=Jg y.seen c I;obtain⟨J,k2,T⟩:=Af e c I;obtain⟨B,o2,o3⟩:=hA.once J;refine⟨a,F,ps,rfl,.inl R,hA,J,k2,λm C g N=>?_⟩;have o:=Gr.hid y.seen g (g8 X.w m C);have E:=y.grow o;refine⟨m,C,cj F ps,dI ps,rfl,Yh,N,⟨B.1,λi b q hb k=>?_⟩,o2,o3,λr t=>?_⟩
  .rw[Yj (Yi (B.2 i b q hb k) g)]
   exact B.2 i b q hb k
  .refine h r _ _ Z ((K.trans o).trans (.hid E.seen t _)) ((K.trans o).h.free t) (E.seen.free t) Yh T⟩
theorem BF(f:ZC X a F)(n:ZC X b fb):ZE X (.BinOp a .Add b pos) (b2 F fb nz):=⟨have f:=f.un;have n:=n.un;PE.imp (pU Am f n) λS H Q g=>by
 obtain⟨T,l,L,U,G,e,s,h⟩:=g;obtain⟨V,O,J,I,c⟩:=md e;refine tCof.at J s λv N R j x w=>tCof.at I w λu M r d z t=>?_;unfold nz at c
 split at c
 .split at c
  .rename_i y
   cases c;obtain⟨p,E,rfl,C,k⟩:=x.grow d;obtain⟨q,K,rfl,D,i⟩:=z;refine⟨p,q,E,K,rfl,rfl,.of C.1,.of D.1,by rw[k.length,i.length];exact gy y,λA=>?_,λ_ B=>?_,λ_ _ m o=>h _ _ _ ((j.trans d).trans (.new t.seen o _)) ?_⟩
   .subst A
    have:=List.eq_nil_of_length_eq_zero (by rw[<-k.length];rfl);refine h _ _ r (j.trans d) ?_;rw[Rp]
    ext
   .subst B
    have:=List.eq_nil_of_length_eq_zero (by rw[<-i.length];rfl);refine h _ _ r (j.trans d) ?_;rw[Rp]
    ext
   .exact⟨m,_,rfl,Yh,(k.append i).mono (Gr.new t.seen o _).g⟩
  .cases c
 .cases c⟩
end
def BG(K:W7)(j:Nat)(x:Option (Option V))(b a:Hp)(F:eP):iA->Prop
 | .nx d=>∀c e f,SR K b a c e f d->c[j]?=x->F.nx c e
 | .rt _=>False
 | .bk d=>∀c e f,SR K b a c e f d->c[j]?=x->F.bk c e
 | .ct d=>∀c e f,SR K b a c e f d->c[j]?=x->F.ct c e
def nJ(K:W7)(j:Nat)(f:AT):TS:=λF d H=>∃e c b a G,f e=some c/\SR K b a d H G e/\BG K j d[j]? b a F c
structure KS(j:Nat)(X:Cx)(st:Stmt)(f:AT):Prop where
 un:PS X st (nJ X.K j f)
structure KB(j:Nat)(X:Cx)(sts:List Stmt)(f:AT):Prop where
 un:PSs X sts (nJ X.K j f)
def BH(K:W7)(j r:Nat)(fb:AT):TS:=λF h H=>∃f c l d b a G,fb f=some (.nx c)/\cM j c=some l/\ab r (frz [r] c)=some d/\SR K b a h H G f/\
 ∀v e g i,SR K b a e g i (frz [r] c)->e[j]?=h[j]?->Rp K i d v->F.rt v g
structure KR(j r:Nat)(X:Cx)(sts:List Stmt)(f:AT):Prop where
 un:PSs X sts (BH X.K j r f)
def BI(K:W7)(c:AX)(fb:AT):TS:=λF i H=>∃g d l a b G,fb g=some (.nx d)/\c d=some l/\SR K a b i H G g/\
 ∀p h e f,Gr a b e f->a p=none->f p=none->e p=some (.lst h)->RpL K f l h->F.rt (.ref p) e
structure KL(gl:AX)(X:Cx)(sts:List Stmt)(f:AT):Prop where
 un:PSs X sts (BI X.K gl f)
def jH{us:AE}(h:us.length=1):∃a,us=[a]:=List.length_eq_one_iff.mp h
theorem jI{us:AE}(h:us.length=2):∃c b,us=[c,b]:=by
 cases us with
 | nil=>cases h
 | cons a us=>
   obtain⟨d,rfl⟩:=jH (Nat.succ.inj h);grind
theorem jJ{us:AE}(h:us.length=3):∃c b d,us=[c,b,d]:=by
 cases us with
 | nil=>cases h
 | cons a us=>
   obtain⟨e,b1,rfl⟩:=jI (Nat.succ.inj h);grind
theorem jK{us:AE}(h:us.length=4):∃c b e d,us=[c,b,e,d]:=by
 cases us with
 | nil=>cases h
 | cons a us=>
   obtain⟨f,b1,b2,rfl⟩:=jJ (Nat.succ.inj h);grind
def jL{us:AE}(h:us.length=5):∃a0 a1 a2 a3 a4,us=[a0,a1,a2,a3,a4]:=by
 cases us with
 | nil=>cases h
 | cons a us=>
   obtain⟨b0,b1,b2,b3,rfl⟩:=jK (Nat.succ.inj h);exact⟨a,b0,b1,b2,b3,rfl⟩
theorem jM{us:AE}(h:us.length=6):∃e d g f b c,us=[e,d,g,f,b,c]:=by
 cases us with
 | nil=>cases h
 | cons a us=>
   obtain⟨j,b1,b2,b3,i,rfl⟩:=jL (Nat.succ.inj h);grind
theorem nK{us:AE}(h:us.length=7):∃c g i f b e d,us=[c,g,i,f,b,e,d]:=by
 cases us with
 | nil=>cases h
 | cons a us=>
   obtain⟨l,b1,b2,b3,k,j,rfl⟩:=jM (Nat.succ.inj h);grind
end M
namespace M
variable {prog:P7}{K:W7}{X:Cx}{fa fk fz f2:AW}{ga gl:AX}{pos pos' pt px pos2 p3 pos3 pos4:Pos}{pins:AD}{fd:AV}{rest ifs elts:AM}{st:Stmt}{sts:List Stmt}{fs gs:AT}{tg elt iter ie ke f':Expr}{scope:Scope}{mg:AF}{base:Heap}{x1:Nat}
open PySem L2
def nr{c:Sort _}{a b:c}(h:a=b):a=b:=h
section
variable {ρ:Ro}
@[simp] def k8(a fb:AW)(g:D->D->Option b):b2 a fb g ρ=(a ρ).bind λx=>(fb ρ).bind λy=>g x y:=nr rfl
@[simp] def Jt(a:AW)(g:D->Option b):b1 a g ρ=(a ρ).bind g:=nr rfl
@[simp] def nL(d:D):kD d ρ=some d:=nr rfl
@[simp] def Ju(f:AV):mB f ρ=(f ρ).map D.bl:=nr rfl
@[simp] def BJ(f g:AV):aU f g ρ=(f ρ).bind λk=>if k=true then g ρ else some false:=nr rfl
@[simp] def nM(f g:AV):dO f g ρ=(f ρ).bind λk=>if k=true then some true else g ρ:=nr rfl
@[simp] def rD(f:AV):bG f ρ=(f ρ).map (!·):=nr rfl
@[simp] def rE(f g:AW):bJ f g ρ=((f ρ).bind gX).bind λk=>if k=true then g ρ else some (.bl false):=nr rfl
@[simp] def BK(f g:AW):kL f g ρ=((f ρ).bind gX).bind λk=>if k=true then some (.bl true)else g ρ:=nr rfl
@[simp] def rF(f:AW):fQ f ρ=((f ρ).bind gX).map λk=>.bl (!k):=nr rfl
@[simp] def BL(c:AV)(f g:AW):yv c f g ρ=(c ρ).bind λk=>if k=true then f ρ else g ρ:=nr rfl
@[simp] def Jv(f:AX):lF f ρ=(f ρ).map D.lst:=nr rfl
@[simp] def rG:ae ρ=some []:=nr rfl
@[simp] def nN(f:AW)(g:AX):Yb f g ρ=(f ρ).bind λd=>(g ρ).map (d::·):=nr rfl
@[simp] def rH(f:AX):aw f ρ=(f ρ).bind λl=>if l.length<=aK then some (.tup l)else none:=nr rfl
@[simp] def rJ(f:AX):aV f ρ=(f ρ).bind λl=>if l.length<=aK then some l else none:=nr rfl
@[simp] def Jw(f:AX)(g:AR->Option D):cC f g ρ=(f ρ).bind g:=nr rfl
@[simp] def Jx(f:AX)(g:AR->Option AR):cF f g ρ=(f ρ).bind g:=nr rfl
@[simp] def BM(f:AW)(a b:Option AW):jn f a b ρ=((f ρ).bind fR).bind λl=>(c4 a ρ).bind λi=>(c4 b ρ).bind λj=>some (cf l i j):=nr rfl
@[simp] def rL:c4 none ρ=some none:=nr rfl
@[simp] def rM(f:AW):c4 (some f) ρ=((f ρ).bind eT).map some:=nr rfl
@[simp] def rN:ar ρ=some (.nx ρ):=nr rfl
@[simp] def BN(i:Nat)(f:AW):ao i f ρ=(f ρ).map λd=>.nx (ρ.set i (↑d)):=nr rfl
@[simp] def rO(i:Nat)(f:AX):aF i f ρ=(f ρ).map λl=>.nx (ρ.set i (some (.ow l))):=nr rfl
@[simp] def Jy(f:AW):ah f ρ=(f ρ).map .rt:=nr rfl
@[simp] def rP(c:AV)(f g:AT):aG c f g ρ=(c ρ).bind λk=>if k=true then f ρ else g ρ:=nr rfl
@[simp] def BO(i:Nat)(f:AW)(g:AR->D->Option AR):bp i f g ρ=(cM i ρ).bind λl=>(f ρ).bind λd=>(g l d).map λa=>.nx (ρ.set i (some (.ow a))):=nr rfl
@[simp] def fD(a:AX)(gt:AU)(fb:AT):aY a gt fb ρ=(a ρ).bind λb=>forM gt fb b ρ:=nr rfl
@[simp] def nO(a:AX)(b:List AN)(gt:AU)(fc:AV)(fe:AW):Yo a b gt fc fe ρ=(a ρ).bind λc=>ej gt fc fe (aq b ρ) c:=nr rfl
@[simp] def nP(a:AG)(f:AT):wF a f ρ=f (frz a ρ):=nr rfl
@[simp] def BP(i:Nat)(d:D):ai i d ρ=some (ρ.set i (↑d)):=nr rfl
noncomputable def jN(g:AT):iA->Option iA
 | .nx a=>g a
 | o=>some o
@[simp] def eI(g:AT)(ρ':Ro):jN g (.nx ρ')=g ρ':=nr rfl
@[simp] def nQ(g:AT)(d:D):jN g (.rt d)=some (.rt d):=nr rfl
@[simp] def dW(f g:AT):ag f g ρ=(f ρ).bind (jN g):=nr rfl
noncomputable def nR:iA->Option D
 | .rt d=>some d
 | .nx _=>some .non
 | _=>none
@[simp] def rQ(d:D):nR (.rt d)=some d:=nr rfl
def Yg(h:a.length=k):au k n fb a=(fb (Yd n a)).bind nR:=by
 unfold au;rw[if_pos h];rfl
@[simp] def nS(is:AG)(f:AV):mU is f ρ=f (frz is ρ):=nr rfl
@[simp] def BQ(b fb fc:AW)(g a:D->D->Option Bool):qX b fb fc g a ρ=(b ρ).bind λx=>(fb ρ).bind λy=>(g x y).bind λk=>if k=true then (fc ρ).bind λz=>a y z else some false:=nr rfl
@[simp] def rR:frz [] ρ=ρ:=nr rfl
@[simp] def nT(i:Nat)(a:AG):frz (i::a) ρ=frz a (frz1 i ρ):=nr rfl
end
@[simp] def nU(i j:Int):cN (.int i) (.int j)=some (.int (i+j)):=nr rfl
@[simp] def nV(i j:Int):dD (.int i) (.int j)=some (.int (i-j)):=nr rfl
def BR(h:-(2^64)<i/\i<2^64):fP (.int i) (.int j)=some (.int (i*j)):=by
 simp only[fP,i2];rw[if_pos];simp only[Bool.or_eq_true,Qe,wg];exact .inl h
@[simp] theorem BS(h:0<j)(a:j<1073741824):cv (.int i) (.int j)=some (.int (i/j)):=by
 simp only[cv,i2];rw[if_pos];simp [wg];exact⟨h,a⟩
@[simp] theorem k9(h:0<j):aD (.int i) (.int j)=some (.int (i%j)):=by
 simp only[aD,i2];rw[if_pos];simp [wg];exact h
@[simp] def rS(i j:Int):cZ (.int i) (.int j)=some (decide (i<j)):=nr rfl
@[simp] def rT(i j:Int):HX (.int i) (.int j)=some (decide (i<=j)):=nr rfl
@[simp] def rV(i j:Int):eS (.int i) (.int j)=some (decide (j<i)):=nr rfl
@[simp] def BU(b:Bool):gX (.bl b)=some b:=nr rfl
@[simp] def rW(b:Bool):aN (.bl b)=some b:=nr rfl
@[simp] def nW(l:AR):aN (.lst l)=some (!l.isEmpty):=nr rfl
@[simp] def nX(l:AR):aN (.tup l)=some (!l.isEmpty):=nr rfl
@[simp] def Jz(l:AR):Yc (.tup l)=some l:=nr rfl
@[simp] def JA(l:AR):Yc (.lst l)=some l:=nr rfl
@[simp] def iJ(ns:AH):Yc (.scr ns)=some (ns.map D.int):=nr rfl
@[simp] def nY(c:D):aA [c]=(Yc c).map λl=>.int l.length:=nr rfl
@[simp] def nZ(c:D):ba [c]=(Yc c).map D.tup:=nr rfl
@[simp] def k_(c:D):df [c]=Yc c:=nr rfl
@[simp] def rX(c:D)(i:Int):aj c (.int i)=(Yc c).bind λl=>aX l i:=nr rfl
@[simp] def n0(l:AR):fR (.lst l)=some l:=nr rfl
@[simp] def n4(ns:AH):fR (.scr ns)=some (ns.map D.int):=nr rfl
@[simp] def n5(i:Int):eT (.int i)=some i:=nr rfl
@[simp] def n6(i:Int):bU (.int i)=some (.int (-i)):=nr rfl
@[simp] theorem JB(i j:Int):bg (.int i) (.int j)=(i==j):=by simp[bg,aH,PyData.eqv]
@[simp] theorem n7(i j:Bool):bg (.bl i) (.bl j)=(i==j):=by simp[bg,aH,PyData.eqv]
@[simp] theorem JC(i j:Str):bg (.str i) (.str j)=(i==j):=by simp[bg,aH,PyData.eqv]
@[simp] theorem BV(l m:AR):bg (.tup l) (.tup m)=da l m:=by simp[bg,da,aH,PyData.eqv]
@[simp] theorem BW(l m:AR):bg (.lst l) (.lst m)=da l m:=by simp[bg,da,aH,PyData.eqv]
@[simp] theorem rY:da [] []=true:=by simp[da,c8,PyData.eqvAll]
@[simp] theorem JD(a b:D)(l m:AR):da (a::l) (b::m)=(bg a b&&da l m):=by simp[da,bg,c8,PyData.eqvAll]
@[simp] theorem BX(b:D)(m:AR):da [] (b::m)=false:=by simp[da,c8,PyData.eqvAll]
@[simp] theorem BY(b:D)(m:AR):da (b::m) []=false:=by simp[da,c8,PyData.eqvAll]
@[simp] theorem rZ(i:Int):bu (.int i)=0:=by simp[bu]
@[simp] theorem BZ(i:Bool):bu (.bl i)=0:=by simp[bu]
@[simp] theorem r0(i:Str):bu (.str i)=0:=by simp[bu]
@[simp] theorem r6:bu .non=0:=by simp[bu]
@[simp] theorem r9(l:AR):bu (.tup l)=bw l+1:=by simp[bu]
@[simp] theorem r_(l:AR):bu (.lst l)=bw l+1:=by simp[bu]
@[simp] theorem n8:bw []=0:=by simp[bw]
@[simp] theorem lb(d:D)(l:AR):bw (d::l)=max (bu d) (bw l):=by simp[bw]
theorem eZ(h:bu d<=60)(b:bu e<=60):ay a d e=some (if a then !bg d e else bg d e):=by
 unfold ay;grind
theorem sd(b:Yc c=some l)(h:bu d<=60)(e:bw l<=60):bc a d c=some (if a then !gw d l else gw d l):=by
 unfold bc
 ext
theorem se{d:Type}(enc:d->D)(p:d->Bool)(f:d->D):∀(l:List d),(∀a∈l,∃c,gt (enc a) ρ=some c/\fc c=some (p a)/\(p a=true->fe c=some (f a)))->
 ej gt fc fe ρ (l.map enc)=some ((l.filter p).map f)
 | [],_=>rfl
 | a::l,h=>by
   obtain⟨c,e,i,g⟩:=h a qh;have j:=se enc p f l λb k=>h b (qg _ k);rw[Qd,ej];grind
@[simp] theorem n9(a:b)(l:List b):aX (a::l) 0=some a:=by
 have:=pZ (xs:=a::l) (j:=0) rfl;simpa using this
@[simp] theorem JE(a b:c)(l:List c):aX (a::b::l) 1=some b:=by
 have:=pZ (xs:=a::b::l) (j:=1) rfl;simpa using this
def n_{j:Nat}(a:i=(j:Int))(h:l[j]?=some v):aX l i=some v:=by
 subst a;exact pZ h
theorem Yv{g:Type}(enc:g->D)(I:List g->Ro->Prop):∀(l c:List g) (ρ:Ro),I c ρ->
 (∀q a r ρ,c++l=q++a::r->I q ρ->∃f d,gt (enc a) ρ=some f/\fb f=some (.nx d)/\I (q++[a]) d)->∃ρ',M.forM gt fb (l.map enc) ρ=some (.nx ρ')/\I (c++l) ρ'
 | [],c,ρ,n,_=>⟨ρ,rfl,by ext⟩
 | a::l,c,ρ,n,m=>by
   obtain⟨f,d,o,p,j⟩:=m c a l ρ rfl n;obtain⟨ρ',h,k⟩:=Yv enc I l _ d j λq b r ρ e i=>m q b r ρ (by ext) i;refine⟨ρ',?_,by ext⟩
   rwa [Qd,M.forM,o,qd,p]
def B0{gt:AU}{fb:AT}{α:Type}(enc:α->D)(p:α->Bool)(d:D)(I:Ro->Prop):∀(l:List α) (ρ:Ro),I ρ->
 (∀a∈l,∀ρ,I ρ->∃ρ1,gt (enc a) ρ=some ρ1/\((p a=true/\∃ρ2,fb ρ1=some (.nx ρ2)/\I ρ2)\/(p a=false/\fb ρ1=some (.rt d))))->
 (l.all p=true/\∃ρ',M.forM gt fb (l.map enc) ρ=some (.nx ρ')/\I ρ')\/(l.all p=false/\M.forM gt fb (l.map enc) ρ=some (.rt d))
 | [],ρ,h0,_=>.inl ⟨rfl,ρ,rfl,h0⟩
 | a::l,ρ,h0,hs=>by
   obtain⟨ρ1,e1,h⟩:=hs a qh ρ h0;rw[Qd,M.forM,e1,qd,List.all_cons];rcases h with⟨hp,ρ2,e2,h2⟩|⟨hp,e2⟩
   .rw[e2,qd,hp,Bool.true_and]
    exact B0 enc p d I l ρ2 h2 λb hb=>hs b (qg _ hb)
   .rw[e2,qd,hp,Bool.false_and]
    exact .inr ⟨rfl,rfl⟩
def dX(a n:Int):c5 a n=(List.range (n-a).toNat).map λi=>D.int (a+(i:Nat)):=rfl
theorem fE(h:-1000000<=n)(b:n<=1000000):bx [.int n]=some (c5 0 n):=by
 have a:aK=1000000:=by decide
 simp only[bx];rw[if_pos];simp only[Qe]
 ext
theorem oe(h:-1000000<=n)(e:n<=1000000)(d:-1000000<=a)(c:a<=1000000):dg [.int a,.int n]=some (c5 a n):=by
 have b:aK=1000000:=by decide
 simp only[dg]
 ext
theorem jO(h0:0<=i)(h:i<(l.length:Int)):∃v,v∈l/\aX l i=some v:=by
 have a:i.toNat<l.length:=by ext
 exact⟨l[i.toNat],List.getElem_mem a,n_ (by ext<;>lia) (qr a)⟩
def f_{i:Nat}(h:i<l.length):aX l (i:Int)=some l[i]:=pZ (qr h)
theorem dJ(f:a->b)(l:List a)(i:Int):aX (l.map f) i=(aX l i).map f:=by
 unfold aX;rw[qf]
 cases eR _ i with
 | none=>rfl
 | some j=>
   ext
@[simp] theorem jP(x b:Nat):((x:Int)=(b:Int))↔x=b:=by ac_nf
@[simp] theorem sf(a:Bool)(i j:Int):ay a (.int i) (.int j)=some (if a then !decide (i=j)else decide (i=j)):=by
 rfl
@[simp] theorem B4(a:Bool)(i j:Bool):ay a (.bl i) (.bl j)=some (if a then !(i==j)else i==j):=by
 rw[eZ nofun nofun,n7]
@[simp] theorem sg(a:Bool):cT a .non .non=some (if a then false else true):=by cases a<;>rfl
@[simp] theorem si(a:Bool)(i:Int):cT a (.int i) .non=some (if a then true else false):=by cases a<;>rfl
@[simp] theorem B5(a:Bool)(l:Bool):cT a (.bl l) .non=some (if a then true else false):=by cases a<;>rfl
@[simp] theorem gC{b:Type}(f:b->Bool):∀l:List b,bz (l.map λa=>.bl (f a))=some (l.map f)
 | []=>rfl
 | a::l=>by rw[Qd,bz,gC f l];rfl
@[simp] theorem sj{b:Type}(f:b->Int):∀l:List b,cw (l.map λa=>.int (f a))=some (l.map f)
 | []=>rfl
 | a::l=>by rw[Qd,cw,sj f l];rfl
@[simp] theorem sk(l:AH):cw (l.map D.int)=some l:=by simpa using sj id l
@[simp] def og(l:AR):dE [.lst l]=(bz l).map λa=>.bl (a.any id):=nr rfl
@[simp] def B6(l:AR):bW [.lst l]=(bz l).map λa=>.bl (a.all id):=nr rfl
@[simp] def B7(i:Nat)(fi f:AW)(g:AR->D->D->Option AR):qR i fi f g ρ=(f ρ).bind λd=>(cM i ρ).bind λl=>(fi ρ).bind λk=>(g l k d).map λl'=>.nx (ρ.set i (some (.ow l'))):=nr rfl
@[simp] def oi(c:D):jr c=(Yc c).map gY:=nr rfl
@[simp] def JF:aK=1000000:=nr rfl
@[simp] def Wa(d:D)(r:Ro):ab 0 (some (.sh d)::r)=some d:=nr rfl
@[simp] def sq(d:D)(r:Ro):aa 0 (some (.sh d)::r)=some d:=nr rfl
@[simp] def P0(l:AR)(r:Ro):aa 0 (some (.ow l)::r)=some (.lst l):=nr rfl
@[simp] def Wb(l:AR)(r:Ro):cM 0 (some (.ow l)::r)=some l:=nr rfl
@[simp] theorem Wc(n:Nat)(b:AS)(r:Ro):ab (n+1) (b::r)=ab n r:=by simp[ab]
@[simp] theorem sr(n:Nat)(b:AS)(r:Ro):aa (n+1) (b::r)=aa n r:=by simp[aa]
@[simp] theorem Wd(n:Nat)(b:AS)(r:Ro):cM (n+1) (b::r)=cM n r:=by simp[cM]
@[simp] def JG(l:AR)(r:Ro):frz1 0 (some (.ow l)::r)=some (.sh (.lst l))::r:=nr rfl
@[simp] def JH(d:D)(r:Ro):frz1 0 (some (.sh d)::r)=some (.sh d)::r:=nr rfl
@[simp] theorem JI(n:Nat)(b:AS)(r:Ro):frz1 (n+1) (b::r)=b::frz1 n r:=by
 unfold frz1;rw[List.getElem?_cons_succ]
 cases h:r[n]? with
 | none=>rfl
 | some o=>
   cases o with
   | none=>rfl
   | some b=>cases b<;>rfl
def gD(h:a.length+b.length<=1000000):bV (.lst a) (.lst b)=some (a++b):=if_pos h
def e_(h:l.length<1000000):aT l d=some (l++[d]):=if_pos h
def bP{r:Ro}{b:Type}{enc:b->D}(f:b->D){l:List b}(h:∀a∈l,fe (some (.sh (enc a))::r)=some (f a)):ej (ai 0) tY fe (none::r) (l.map enc)=some (l.map f):=by
 have:=se (gt:=ai 0) (fc:=tY) (ρ:=none::r) enc _ f l λa c=>⟨_,rfl,rfl,λ_=>h a c⟩
 rwa [List.filter_eq_self.mpr (λ_ _=>rfl)]at this
def dv{r:Ro}{b:Type}{enc:b->D}(p:b->Bool)(f:b->D){l:List b}(e:∀a∈l,fc (some (.sh (enc a))::r)=some (p a))(d:∀a∈l,p a=true->fe (some (.sh (enc a))::r)=some (f a)):
 ej (ai 0) fc fe (none::r) (l.map enc)=some ((l.filter p).map f):=
 se enc p f l λa c=>⟨_,rfl,e a c,d a c⟩
def B8{fc:AV}{fe:AW}{r:Ro}{b:Type}{e1 e2:b->D}(p:b->Bool)(f:b->D){l:List b}(e:∀a∈l,fc (some (.sh (e1 a))::some (.sh (e2 a))::r)=some (p a))(d:∀a∈l,p a=true->fe (some (.sh (e1 a))::some (.sh (e2 a))::r)=some (f a)):
 ej (mD 0 1) fc fe (none::none::r) (l.map λa=>.tup [e1 a,e2 a])=some ((l.filter p).map f):=
 se _ p f l λa c=>⟨_,rfl,e a c,d a c⟩
def P4{a:Type}(enc:a->D)(d:a)(l:List a):gY (l.map enc)=(List.range l.length).map λi=>.tup [.int i,enc (l.getD i d)]:=by
 unfold gY;rw[qf];refine Qq λi b=>?_;simp[Qb b]
end M
namespace Bk
open PySem L2 M
abbrev aP:=Nat×Bool
abbrev AZ:=List aP
abbrev AY:=List AZ
inductive Kd where
 | e|s|i|n
 deriving DecidableEq
inductive Rl where
 | ei (l:AZ)
 | su (b:AG) (o:Bool)
 | im (b:AG) (h:AN)
 deriving DecidableEq
noncomputable def kS:Kd->Str
 | .e=>.ofString "eithers"
 | .s=>.ofString "sums"
 | .i=>.ofString "ifs"
 | .n=>.ofString "nots"
def aC(k:Kd):D:=.str (kS k)
noncomputable abbrev nD(n:Nat):D:=.int n
noncomputable def af(s:aP):D:=.tup [.int s.1,.bl s.2]
noncomputable def ak:AN->D
 | none=>.non
 | some n=>.int n
def ax:Rl->D
 | .ei l=>.tup (l.map af)
 | .su b o=>.tup [.tup (b.map nD),.bl o]
 | .im b h=>.tup [.tup (b.map nD),ak h]
def Yt(k:Kd)(R:List Rl):D:=.tup [aC k,.tup (R.map ax)]
@[simp] theorem B9(k:Kd):bu (aC k)=0:=by simp[aC]
@[simp] theorem sv(s:aP):bu (af s)=1:=by simp[af]
@[simp] theorem sx(h:AN):bu (ak h)=0:=by cases h<;>simp[ak]
def B_:∀{k j:Kd},kS k=kS j->k=j:=by
 intro k j
 cases k<;>cases j<;>first|(intro _;rfl)|(exact λh=>absurd h (by decide +kernel))
@[simp] theorem Ca(k j:Kd):bg (aC k) (aC j)=decide (k=j):=by
 rw[aC,aC];by_cases h:k=j
 .simp[h]
 .have a:¬_:=λe=>h (B_ e)
  simp[h,a]
def sy(a:Bool)(k j:Kd):ay a (aC k) (aC j)=some (if a then !decide (k=j)else decide (k=j)):=by
 rw[eZ nofun nofun,Ca]
@[simp] theorem JJ(a:Bool)(k:Kd):ay a (aC k) (.str (Str.ofString "eithers"))=some (if a then !decide (k=.e)else decide (k=.e)):=sy a k .e
@[simp] theorem JK(a:Bool)(k:Kd):ay a (aC k) (.str (Str.ofString "sums"))=some (if a then !decide (k=.s)else decide (k=.s)):=sy a k .s
@[simp] theorem JL(a:Bool)(k:Kd):ay a (aC k) (.str (Str.ofString "ifs"))=some (if a then !decide (k=.i)else decide (k=.i)):=sy a k .i
@[simp] theorem JM(a:Bool)(k:Kd):ay a (aC k) (.str (Str.ofString "nots"))=some (if a then !decide (k=.n)else decide (k=.n)):=sy a k .n
@[simp] theorem lg(a b:Nat):bg (nD a) (nD b)=decide (a=b):=by
 rw[JB];grind
@[simp] theorem JN(s t:aP):bg (af s) (af t)=decide (s=t):=by
 obtain⟨a,p⟩:=s;obtain⟨b,q⟩:=t;have:=lg a b;simp [af,this];by_cases d:a=b<;>by_cases c:p=q<;>simp[c]
theorem sA{c:Type}[DecidableEq c]{enc:c->D}(e:∀a b,bg (enc a) (enc b)=decide (a=b))(s:c):∀l:List c,gw (enc s) (l.map enc)=decide (s∈l)
 | []=>by simp[gw]
 | t::l=>by
   have d:=sA e s l;unfold gw at d ⊢;grind
theorem oj:∀{l:AR},(∀d∈l,bu d<=n)->bw l<=n
 | [],_=>by simp
 | d::l,h=>Nat.max_le.mpr ⟨h d qh,oj λe a=>h e (qg _ a)⟩
theorem om{c:Type}[DecidableEq c]{enc:c->D}(d:∀a b,bg (enc a) (enc b)=decide (a=b)):∀l m:List c,da (l.map enc) (m.map enc)=decide (l=m)
 | [],[]=>by simp
 | [],b::m=>by simp
 | a::l,[]=>by simp
 | a::l,b::m=>by
   rw[Qd,Qd,JD,d,om d l m];by_cases e:a=b<;>by_cases f:l=m<;>simp[e]
def sC{b:Type}{enc:b->D}{n:Nat}(h:∀a,bu (enc a)<=n)(l:List b):bw (l.map enc)<=n:=oj λd c=>by
 obtain⟨x,_,rfl⟩:=qy c;exact h x
theorem oq(s:aP)(l:AZ)(a:Bool)(e:Yc c=some (l.map af)):bc a (af s) c=some (if a then !decide (s∈l)else decide (s∈l)):=by
 rw[sd e nofun (oj λd b=>by obtain⟨x,_,rfl⟩:=qy b;simp),sA JN];symm
def bK(s:Nat)(l:AG)(a:Bool)(e:Yc c=some (l.map nD)):bc a (nD s) c=some (if a then !decide (s∈l)else decide (s∈l)):=by
 rw[sd e nofun (oj λd b=>by obtain⟨x,_,rfl⟩:=qy b;simp),sA lg]
@[simp] theorem Cb(s:aP):(Yc (af s)).bind (λl=>aX l 0)=some (.int s.1):=by simp[af]
@[simp] theorem sD(s:aP):(Yc (af s)).bind (λl=>aX l 1)=some (.bl s.2):=by simp[af]
@[simp] def ot(l:AZ):Yc (ax (.ei l))=some (l.map af):=nr rfl
@[simp] def ox(b:AG)(o:Bool):Yc (ax (.su b o))=some [.tup (b.map nD),.bl o]:=nr rfl
@[simp] def oy(b:AG)(h:AN):Yc (ax (.im b h))=some [.tup (b.map nD),ak h]:=nr rfl
@[simp] def jQ(k:Kd)(R:List Rl):Yc (Yt k R)=some [aC k,.tup (R.map ax)]:=nr rfl
noncomputable def at'(ev:AJ)(n:Nat):Bool:=ev.getD n false
def iK{ev:AJ}(h:n<ev.length):aX (ev.map D.bl) (n:Int)=some (.bl (at' ev n)):=by
 rw[dJ,f_ h];simp[at',h]
def In(k:Kd)(n:Nat):Rl->Prop
 | .ei l=>k=.e/\∀s∈l,s.1<n
 | .su b _=>k=.s/\∀x∈b,x<n
 | .im b h=>(k=.i\/k=.n)/\(∀x∈b,x<n)/\∀x,h=some x->x<n
def gE(s t:aP):Prop:=s.1<t.1\/(s.1=t.1/\s.2=false/\t.2=true)
def cz:Rl->Prop
 | .ei l=>l.length<=2/\l.Pairwise gE
 | .su b _=>b.Pairwise (·<·)
 | .im b _=>b.Pairwise (·<·)
def hd(ev:AJ)(w:Bool):AN->Bool
 | none=>false
 | some x=>at' ev x==w
noncomputable def gF(R:List Rl)(i:Nat):Rl:=R.getD i (.ei [])
def JO{R:List Rl}{i:Nat}(h:i<R.length):gF R i∈R:=by simp[gF,h]
def Cc(R:List Rl):gY (R.map ax)=(List.range R.length).map λi:Nat=>.tup [.int (i:Int),ax (gF R i)]:=P4 ax _ R
def so(k:Kd)(ev:AJ):Rl->Bool
 | .ei l=>l.any λs=>at' ev s.1==s.2
 | .su b o=>decide ((b.filter (at' ev)).length%2=1)==o
 | .im b h=>(b.any λx=>at' ev x != decide (k=.i))||hd ev (decide (k=.i)) h
end Bk
namespace Bk
def brk(k:Kd)(ev:AJ)(R:List Rl):AG:=(List.range R.length).filter λi=>!so k ev (gF R i)
end Bk
namespace Bk
open PySem L2 M
def Cd(l:AZ):D.tup (l.map af)=ax (.ei l):=rfl
noncomputable def sz:Rl->Nat
 | .ei l=>l.length
 | .su b _=>b.length
 | .im b _=>b.length
theorem JP{n:Nat}:∀{l:AG}{a:Nat},l.Pairwise (·<·)->(∀x∈l,a<=x/\x<n)->l.length<=n-a
 | [],_,_,_=>Qh _
 | x::l,a,h,d=>by
   have e:=d x qh;have c:=List.pairwise_cons.mp h
   have f:=JP c.2 λy b=>⟨c.1 y b,(d y (qg _ b)).2⟩
   rw[qt];ac_nf
def Ce{n:Nat}{l:AG}(h:l.Pairwise (·<·))(a:∀x∈l,x<n):l.length<=n:=JP h λx b=>⟨Qh _,a x b⟩
theorem Cf{k:Kd}{n:Nat}{r:Rl}(a:In k n r)(hs:cz r):sz r<=n+2:=by
 cases r with
 | ei l=>exact Qg hs.1 (by lia)
 | su b o=>exact Qg (Ce hs a.2) (by lia)
 | im b o=>exact Qg (Ce hs a.2.1) (by lia)
end Bk
namespace Bk
noncomputable def eA:Rl->AG
 | .ei l=>l.map (·.1)
 | .su b _=>b
 | .im b none=>b
 | .im b (some x)=>b++[x]
end Bk
namespace Bk
open PySem L2 M
noncomputable def vd:Kd->Rl
 | .e=>.ei []
 | .s=>.su [] true
 | _=>.im [] none
end Bk
namespace M
variable {prog:P7}{K:W7}{X:Cx}{fa fk fz f2:AW}{ga gl:AX}{pos pos' pt px pos2 p3 pos3 pos4:Pos}{pins:AD}{fd:AV}{rest ifs elts:AM}{st:Stmt}{sts:List Stmt}{fs gs:AT}{tg elt iter ie ke f':Expr}{scope:Scope}{mg:AF}{base:Heap}{x1:Nat}
open PySem PySem.Spec PyProof.Rows L2
section
variable {P:P7}{w:World}
inductive ItsN (P:P7) (w:World) (h:Heap):List AH->AE->Prop
 | nil:ItsN P w h [] []
 | cons {k:AH}{b:Addr}{ks:List AH}{vs:AE}:IsTupleKey (ew P w) h k b->ItsN P w h ks vs->ItsN P w h (k::ks) (.ref b::vs)
def IsNest(P:P7)(w:World)(h:Heap)(ks:List AH)(a:Addr):Prop:=∃o items n,h.get? a=some o/\o.cls=.type "tuple"/\o.data=.seq items n/\ItsN P w h ks items.toList
def jR(ks:List AH):Nat:=(ks.map λk=>k.length+1).sum+1
theorem ItsN.inj{h:Heap}{x y:List AH}{vs:AE}(hx:ItsN P w h x vs)(hy:ItsN P w h y vs):x=y:=by
 induction hx generalizing y with
 | nil=>cases hy;rfl
 | cons h1 _ ih=>
   cases hy with
   | cons h2 t2=>rw[h1.inj h2,ih t2]
def IsNest.typeIs{s:Shared}{ks:List AH}{a:Addr}(x:IsNest P w s.heap ks a):s.TypeIs (.ref a) "tuple":=let ⟨o,_,_,ho,hc,_⟩:=x;⟨o,ho,hc⟩
def IsNest.inj{h:Heap}{a:Addr}{x y:List AH}(hx:IsNest P w h x a)(hy:IsNest P w h y a):x=y:=by
 obtain⟨o,items,n,ho,_,hd,hi⟩:=hx;obtain⟨o',items',n',ho',_,hd',hi'⟩:=hy;cases ho.symm.trans ho';rw[hd]at hd';injection hd' with h1 _;subst h1;exact hi.inj hi'
theorem IsNest.keeps{h h':Heap}{ks:List AH}{a d:Addr}{o:Obj}{es ep}(x:IsNest P w h ks a)(ho:h.get? d=some o)(hd:o.data=.dict es ep)(hs:Heap.SameBut d h h'):IsNest P w h' ks a:=by
 obtain⟨o',items,n,ho',hc,hd',hi⟩:=x
 have hne:a≠d:=by
  rintro rfl;cases ho'.symm.trans ho;rw[hd]at hd';cases hd'
 refine⟨o',items,n,(hs.2 a hne).trans ho',hc,hd',?_⟩;generalize items.toList=vs at hi
 induction hi with
 | nil=>exact .nil
 | cons h1 _ ih=>exact .cons (h1.keeps ho hd hs) ih
variable {A:Around}{E:AC}{s:Shared}
theorem P5{ks:List AH}{a:Addr}{Q:Int->Shared->Prop}(hu:A.units+8<cLine)(hk:IsNest P w s.heap ks a)(h:Q (qI ks) {s with toks:=s.toks+jR ks}):wpAny (mZ P w) A (pyHash (.ref a)) Q E s:=by
 have hT:=hk.typeIs;obtain⟨o,items,n,ho,_,hd,hi⟩:=hk;unfold pyHash
 first|unfold pyHashByItsType|skip
 first|refine wa (wpAny_cRoomFor_or (.inr ∅) ?_)|skip
 refine wa (wpAny_specialOf hT PySem.F.slot_tuple_hash.lookup ?_);show wpAny _ _ (if (some (Value.builtin "tuple.__hash__")==some Value.none)=true then _ else _) Q E s;rw[if_neg (by rw[beq_builtin_none];exact qi)];refine wa (wpAny_specialOf hT PySem.F.slot_tuple_hash.lookup ?_);show wpAny _ _ (callSpecialIfBoundUnlessNone? (.ref a) "__hash__" _>>=_) Q E s;refine wa (wpAny_callSpecialIfBoundUnlessNone?_slot hT PySem.F.slot_tuple_hash (wd PySem.F.slot_tuple_hash hT PySem.F.entry_tuple_hash ?_ (PySem.F.args_tuple_hash_1 _)));show wpAny _ _ (Builtin.Tuple.tupleItemsOf (.ref a)>>=_) _ _ s;refine wa (wpAny_tupleItemsOf ho hd ?_);refine wa ?_;rw[<-Array.forIn_toList]
 refine wpAny_forIn_list _
  (λrest (b:Array Int) s'=>∃done left,ks=done++left/\ItsN P w s.heap left rest/\b.toList=done.map gS/\s'={s with toks:=s.toks+(done.map λk=>k.length+1).sum})
  _ ?_ ?_ _ _ ⟨[],ks,rfl,hi,rfl,rfl⟩
 .rintro x rest b s' ⟨done,left,rfl,hl,hb,rfl⟩
  cases hl with
  | @cons k b' ks' _ h1 hl'=>
    refine wa (wpAny_pyHash_tuple (knd:=ew P w) (ks:=k) ?_ h1 ?_)
    .show A.units+1<cLine
     ac_nf
    .first
      | exact wb ⟨done++[k],ks',by simp,hl',by simp[hb];rfl,by simp[Nat.add_assoc]⟩
      | exact wa (wb (wb ⟨done++[k],ks',by simp,hl',by simp[hb];rfl,by simp[Nat.add_assoc]⟩))
 .rintro b s' ⟨done,left,rfl,hl,hb,rfl⟩
  cases hl;rw[wz]at h;show wpAny _ _ (retInt (Builtin.Tuple.tupleHashOf b.toList)) _ _ _;rw[hb];refine wpAny_ret_mkInt ?_;show wpAny _ _ (if (decide (-(2:Int)^63<=Builtin.Tuple.tupleHashOf (done.map gS))&&decide (Builtin.Tuple.tupleHashOf (done.map gS)<2^63))=true then _ else _) Q E _;unfold qI reduceHash jR at h;by_cases hr:(decide (-(2:Int)^63<=Builtin.Tuple.tupleHashOf (done.map gS))&&decide (Builtin.Tuple.tupleHashOf (done.map gS)<2^63))=true
  .rw[if_pos hr]
   rw[if_pos hr]at h;exact wb (by simpa [Nat.add_assoc]using h)
  .rw[if_neg hr]
   rw[if_neg hr]at h;exact wa (wpAny_rule (wb (by simpa [Nat.add_assoc]using h)))
theorem P6{x y:List AH}{a b:Addr}{R:Fin->Shared->Prop}(hu:A.units+8<cLine)(hx:IsNest P w s.heap x a)(hy:IsNest P w s.heap y b)(h:R (.done (.ret (.bool (decide (x=y))))) s):wpAny (mZ P w) A (Builtin.«tuple.__eq__» ⟨[.ref a,.ref b],[]⟩) R E s:=by
 have hTb:=hy.typeIs;obtain⟨oa,xs,na,hoa,_,hda,hia⟩:=hx;obtain⟨ob,ys,nb,hob,_,hdb,hib⟩:=hy;show wpAny _ _ (isInstance (.ref b) (.type "tuple")>>=_) _ _ s;refine wa (wpAny_isInstance hTb isSubtype_tuple_tuple ?_);simp only[Bool.not_true,Qo,if_false];refine wa (wpAny_tupleItemsOf hoa hda ?_);refine wa (wpAny_tupleItemsOf hob hdb ?_);refine wa ?_
 refine wpAny_forIn_list _
  (λrest r s'=>r.1=none/\s'=s/\∃x' y' xs' ys',rest=List.zip xs' ys'/\ItsN P w s.heap x' xs'/\ItsN P w s.heap y' ys'/\decide (x'=y')=decide (x=y)/\(xs'.length==ys'.length)=(xs.size==ys.size))
  _ ?_ ?_ _ _ ⟨rfl,rfl,x,y,xs.toList,ys.toList,rfl,hia,hib,rfl,by simp⟩
 .rintro⟨u,v⟩ rest r s' ⟨hr,rfl,x',y',xs',ys',hz,hx',hy',hdec,hlen⟩
  cases hx' with
  | nil=>simp at hz
  | @cons k1 b1 x2 xs2 h1 hx2=>
    cases hy' with
    | nil=>simp at hz
    | @cons k2 b2 y2 ys2 h2 hy2=>
      simp only[List.zip_cons_cons,List.cons.injEq,Prod.mk.injEq]at hz;obtain⟨⟨rfl,rfl⟩,rfl⟩:=hz;refine wa (wpAny_eqBool_tuple (knd:=ew P w) (x:=k1) (y:=k2) ?_ h1 h2 ?_)
      .lia
      by_cases hk:k1=k2
      .subst hk
       rw[wh rfl];simp only[Bool.not_true,Qo,if_false];refine wb ⟨rfl,rfl,x2,y2,xs2,ys2,rfl,hx2,hy2,?_,by simpa using hlen⟩;rw[<-hdec];by_cases hxy:x2=y2
       .simp[hxy]
       .simp[hxy]
      .rw[wj hk]
       simp only[Bool.not_false,if_true]
       have hf:decide (x=y)=false:=by rw[<-hdec];simp[hk]
       rw[hf]at h;exact wa (wb (wb (wb h)))
 .rintro⟨r1,r2⟩ s' ⟨hr,rfl,x',y',xs',ys',hz,hx',hy',hdec,hlen⟩
  simp only at hr;subst hr;refine wb ?_
  have hfin:(xs.size==ys.size)=decide (x=y):=by
   rw[<-hdec,<-hlen]
   cases hx' with
   | nil=>
     cases hy' with
     | nil=>simp
     | cons _ _=>simp
   | cons _ _=>
     cases hy' with
     | nil=>simp
     | cons _ _=>simp at hz
  show R (.done (.ret (.bool (xs.size==ys.size)))) s';rw[hfin];exact h
theorem Cg{x y:List AH}{a b:Addr}{Q:Bool->Shared->Prop}(hu:A.units+16<cLine)(hx:IsNest P w s.heap x a)(hy:IsNest P w s.heap y b)(h:Q (decide (x=y)) s):wpAny (mZ P w) A (eqBool (.ref a) (.ref b)) Q E s:=by
 unfold eqBool
 try with_reducible refine wc ?_
 show wpAny _ _ (if (Value.ref a==Value.ref b)=true then _ else _) Q E s;by_cases hab:(Value.ref a==Value.ref b)=true
 .rw[if_pos hab]
  have e:a=b:=by have:=eq_of_beq hab;injection this
  subst e;obtain rfl:=hx.inj hy;exact wa (wpAny_rule (wb (by simpa using h)))
 .rw[if_neg hab]
  refine wa (wpAny_richCompare_same_room (op:=.Eq) hx.typeIs hy.typeIs PySem.F.slot_tuple_eq
   (wd PySem.F.slot_tuple_eq hx.typeIs PySem.F.entry_tuple_eq (P6 ?_ hx hy ⟨_,rfl,(λe=>nomatch e),wpAny_truthy_bool h⟩) (PySem.F.args_tuple_eq_2 _ _)) ∅)
  show A.units+1+8<cLine;ac_nf
def P8{ks:List AH}{a:Addr}{Q:Bool->Shared->Prop}(hk:IsNest P w s.heap ks a)(h:Q true s):wpAny (mZ P w) A (eqIsQuiet 8 (.ref a)) Q E s:=by
 have hT:=hk.typeIs;obtain⟨o,items,n,ho,_,hd,hi⟩:=hk;unfold eqIsQuiet;refine wa (wpAny_specialOf hT PySem.F.slot_tuple_eq.lookup ?_);show wpAny _ _ (isInstance (.ref a) (.type "tuple")>>=_) _ _ s;refine wa (wpAny_isInstance hT isSubtype_tuple_tuple ?_);simp only[Bool.not_true,Qo,if_false];refine wa (wpAny_seqItems ho hd ?_);refine wa ?_;show wpAny _ _ (forIn items _ _) _ _ s;rw[<-Array.forIn_toList];refine wpAny_forIn_list _ (λrest r s'=>r.1=none/\s'=s/\∃ks',ItsN P w s.heap ks' rest) _ ?_ ?_ _ _ ⟨rfl,rfl,ks,hi⟩
 .rintro v rest r s' ⟨hr,rfl,ks',hall⟩
  cases hall with
  | @cons k b ks2 _ h1 h2=>
    have hT1:=h1.typeIs;obtain⟨o1,its,n1,ho1,_,hd1,hi1⟩:=h1;refine wa ?_;unfold eqIsQuiet;refine wa (wpAny_specialOf hT1 PySem.F.slot_tuple_eq.lookup ?_);show wpAny _ _ (isInstance (.ref b) (.type "tuple")>>=_) _ _ s';refine wa (wpAny_isInstance hT1 isSubtype_tuple_tuple ?_);simp only[Bool.not_true,Qo,if_false];refine wa (wpAny_seqItems ho1 hd1 ?_);refine wa ?_;show wpAny _ _ (forIn its _ _) _ _ s';rw[<-Array.forIn_toList];refine wpAny_forIn_list _ (λrest r s2=>r.1=none/\s2=s'/\∀v∈rest,carriedByValue v=true) _ ?_ ?_ _ _ ⟨rfl,rfl,hi1.byValue⟩
    .rintro v rest r s2 ⟨hr,rfl,hall⟩
     rw[eqIsQuiet_byValue _ (hall v qh)];refine wa (wb ?_);simp only[Bool.not_true,Qo,if_false];exact wb ⟨rfl,rfl,λu hu'=>hall u (qg _ hu')⟩
    .rintro⟨r1,r2⟩ s2 ⟨hr,rfl,_⟩
     simp only at hr;subst hr;refine wb ?_;simp only[Bool.not_true,Qo,if_false];exact wb ⟨rfl,rfl,ks2,h2⟩
 .rintro⟨r1,r2⟩ s' ⟨hr,rfl,_⟩
  simp only at hr;subst hr;exact wb h
end
def jS(P:P7)(w:World):HeapKind P w (List AH) where
 is:=IsNest P w
 hash:=qI
 draws:=jR
 room:=λA=>A.units+16<cLine
 inj:=λhx hy=>hx.inj hy
 keeps:=λx ho hd hs=>x.keeps ho hd hs
 pyHash:=λhu hk h=>P5 ∅ hk h
 eqBool:=λhu hx hy h=>Cg hu hx hy h
 quiet:=λhk h=>P8 hk h
def iL:D->Option (List AH)
 | .tup (d::l)=>fA (d::l)
 | _=>none
def fg:AR->Option (List (List AH))
 | []=>some []
 | d::l=>(iL d).bind λk=>(fg l).map (k::·)
theorem NVs.inj{G:Hp}{ys:AQ}{k k':List AH}(h:NVs G ys k)(h':NVs G ys k'):k=k':=by
 induction h generalizing k' with
 | nil=>cases h';rfl
 | cons g1 n1 _ ih=>
   cases h' with
   | cons g2 n2 t=>
     rw[g1]at g2;cases g2;rw[n1]at n2;cases n2;rw[ih t]
def NKey.inj{G:Hp}{b:Addr}{k k':List AH}(h:NKey G b k)(h':NKey G b k'):k=k':=by
 obtain⟨ys,_,g,n⟩:=h;obtain⟨ys',_,g',n'⟩:=h';rw[g]at g';cases g';exact n.inj n'
theorem Ci{G:Hp}:∀{l:AR}{xs:AQ}{k:List AH},fA l=some k->RpL K G l xs->NVs G xs k
 | [],_,_,h,r=>by
   cases h;rw[RpL]at r;subst r;exact .nil
 | d::l,_,_,h,r=>by
   rw[fA]at h;obtain⟨k,h1,h⟩:=qa h;obtain⟨ks,h2,rfl⟩:=qc h;rw[RpL]at r;obtain⟨x,q,rfl,r1,r2⟩:=r
   cases d with
   | tup m=>
     rw[Rp]at r1;obtain⟨a,ys,rfl,g,rl⟩:=r1;exact .cons g (mN h1 rl) (Ci h2 r2)
   | _=>cases h1
def JQ{G:Hp}{d:D}{v:V}{k:List AH}(h:iL d=some k)(r:Rp K G d v):∃b,v=.ref b/\NKey G b k:=by
 unfold iL at h
 split at h
 .rw[Rp]at r
  obtain⟨b,xs,rfl,g,rl⟩:=r;refine⟨b,rfl,xs,λz=>?_,g,Ci h rl⟩;subst z;have:=rl.length;simp at this
 .cases h
def Cj{G H:Hp}{d:D}{v:V}{k:List AH}(h:iL d=some k)(s:Same G H)(r:Ct K G H d v):∃b,v=.ref b/\NKey H b k/\NKey G b k/\∃ys,G b=some (.tup ys):=by
 unfold iL at h
 split at h
 .rw[Ct]at r
  obtain⟨b,xs,rfl,⟨_,g⟩,rl⟩:=r
  have n:NKey G b k:=⟨xs,λz=>by subst z;have:=rl.length;simp at this,g,Ci h rl⟩
  exact⟨b,rfl,n.mono s,n,xs,g⟩
 .cases h
theorem sE{G:Hp}:∀{ks:AR}{kn:List (List AH)}{nks:List (List AH×Addr)},fg ks=some kn->RpL K G ks (nks.map λp=>V.ref p.2)->(∀p∈nks,NKey G p.2 p.1)->nks.map (·.1)=kn
 | [],_,nks,h,r,_=>by
   cases h;rw[RpL]at r
   cases nks with
   | nil=>rfl
   | cons _ _=>cases r
 | d::l,_,nks,h,r,hk=>by
   rw[fg]at h;obtain⟨k,h1,h⟩:=qa h;obtain⟨kn,h2,rfl⟩:=qc h;rw[RpL]at r;obtain⟨x,q,e,r1,r2⟩:=r
   cases nks with
   | nil=>cases e
   | cons p nks=>
     rw[Qd]at e;injection e with e1 e2;subst e1 e2;obtain⟨b,e3,n⟩:=JQ h1 r1;cases e3;rw[Qd,sE h2 r2 λp hp=>hk p (qg _ hp),(hk p qh).inj n]
theorem sF{P:P7}{w:World}{H:Hp}{h:Heap}{b:Addr}{k:List AH}(ok:HOk P w H h)(n:NKey H b k):(jS P w).is h k b:=by
 obtain⟨ys,hne,e,n⟩:=n;clear hne
 obtain⟨hz,its,r,o,h1,h2,m,h3⟩:=(show ObjOk P w H h b (.tup ys) from ok b _ e)
 refine⟨o,its.toArray,m,h1,h2,h3,?_⟩;show ItsN P w h k its;clear h3 e hz
 induction n generalizing its with
 | nil=>cases r;exact .nil
 | cons g1 n1 _ ih=>
   cases r with
   | cons r1 r2=>
     cases r1;exact .cons (qS ok g1 n1) (ih _ r2)
def Ck{P:P7}{w:World}{H:Hp}{h:Heap}{a:Addr}{nks:List (List AH×Addr)}{vxs:AQ}{ep:Nat}(ok:HOk P w H h)(e:H a=some (fx a nks vxs ep))(hl:nks.length=vxs.length)(hn:(nks.map (·.1)).Nodup)(hk:∀p∈nks,NKey H p.2 p.1):(a==sysModules)=false/\∃us,Vals vxs us/\us.length=nks.length/\h.DictOfH (jS P w) a (aM nks us):=by
 obtain⟨⟨hs,us,o,es,r,h1,h2,h3,h4⟩,_⟩:=(show ObjOk P w H h a (fx a nks vxs ep) from ok a _ e)
 have hu:us.length=nks.length:=by rw[hl,r.length]
 refine⟨hs,us,r,hu,o,es,ep,h1,h2,h3,?_,λx hx=>?_,by rw[Iz hu];exact hn⟩
 .rw[h4]
  unfold aM;rw[Qf];rfl
 .obtain⟨p,hp,rfl⟩:=qy hx
  exact sF ok (hk p.1 (List.of_mem_zip hp).1)
structure oz(H:Hp)(a:Addr)(nks:List (List AH×Addr))(vxs:AQ):Prop where
 at':∃ep,H a=some (fx a nks vxs ep)
 len:nks.length=vxs.length
 nd:(nks.map (·.1)).Nodup
 keys:∀p∈nks,NKey H p.2 p.1
def Cm{pins:AD}{s:Shared}{σ:L2.St}{H:Hp}{a:Addr}{nks:List (List AH×Addr)}{vxs:AQ}(I:Inv X pins σ H s)(d:oz H a nks vxs):
 (a==sysModules)=false/\∃us,Vals vxs us/\us.length=nks.length/\s.heap.DictOfH (jS X.prog X.w) a (aM nks us):=by
 obtain⟨ep,e⟩:=d.at';exact Ck I.hok e d.len d.nd d.keys
def oA:R2:=λx y H Q=>∃a b nks vxs k v,x=.ref a/\y=.ref b/\oz H a nks vxs/\NKey H b k/\bf (nks.map (·.1)) vxs k=some v/\Q v H
theorem Cn(hu:X.A.units+64<cLine):IxR X oA:=by
 intro value slice pins s σ H x y v u Q I rx ry h hs;obtain⟨a,b,nks,vxs,k,z,rfl,rfl,dt,nk,hf,q⟩:=h;cases rx;cases ry;obtain⟨hsm,us,r,hl,dd⟩:=Cm I dt;have key:=sF (P:=X.prog) (w:=X.w) I.hok nk;obtain⟨p,hp,rz⟩:=ID r hf;exact tail_any dd.typeIs PySem.F.slot_dict_getitem.lookup (wpAny_getItem_heap (knd:=jS X.prog X.w) (by show X.A.in1.units+16<cLine;have:X.A.in1.units=X.A.units+1:=rfl;ac_nf) key dd hp ⟨z,H,I.tok _,rz,q⟩) hs
def JR{nks:List (List AH×Addr)}{us:AE}{k:List AH}(hl:us.length=nks.length):(atKey (aM nks us) k).isSome=decide (k∈nks.map (·.1)):=by
 have h1:=qT k nks us;have h2:=mL (x:=k) (ks:=nks.map (·.1)) (vs:=us) (by simpa using hl)
 cases h:atKey (aM nks us) k with
 | none=>
   rw[h]at h1;have:=h2.mp h1.symm;simp at this ⊢;exact this
 | some p=>
   rw[h]at h1
   have:k∈nks.map (·.1):=Classical.byContradiction λz=>by
    rw[h2.mpr z]at h1;cases h1
   simp only[Option.isSome_some];exact(wh this).symm
def oB(neg:Bool):R2:=λx y H Q=>∃a b nks vxs k,x=.ref b/\y=.ref a/\oz H a nks vxs/\NKey H b k/\Q (.bl (decide (k∈nks.map (·.1))!=neg)) H
theorem Co(hu:X.A.units+64<cLine):bR X (compareOp .In) (oB false):=by
 intro pins s σ H x y v u Q I rx ry h;obtain⟨a,b,nks,vxs,k,rfl,rfl,dt,nk,q⟩:=h;cases rx;cases ry;obtain⟨hsm,us,r,hl,dd⟩:=Cm I dt;have key:=sF (P:=X.prog) (w:=X.w) I.hok nk;refine wpAny_in_heap (knd:=jS X.prog X.w) (by show X.A.in1.units+16<cLine;have:X.A.in1.units=X.A.units+1:=rfl;ac_nf) key hsm dd ⟨.bl (decide (k∈nks.map (·.1))!=false),H,I.tok _,?_,q⟩;rw[JR hl,Bool.bne_false];rfl
def oD{P:P7}{w:World}{h':Heap}{a:Addr}{nks:List (List AH×Addr)}{vxs:AQ}{us:AE}(hd:(a==sysModules)=false)(r:Vals vxs us)(dd:h'.DictOfH (jS P w) a (aM nks us)):
 ∃ep,∀H',ObjOk P w H' h' a (fx a nks vxs ep):=by
 obtain⟨o,es,ep,h1,h2,h3,h4,_⟩:=dd;refine⟨ep,λH'=>⟨⟨hd,us,o,es,r,h1,h2,h3,?_⟩,⟨o,h1⟩,λh1 h2 f k=>?_⟩⟩
 .rw[h4]
  unfold aM;rw[Qf];rfl
 .obtain⟨hd,us,o,es,r,e1,e2⟩:=f
  exact⟨hd,us,o,es,r,k o e1,e2⟩
def cD(nks:List (List AH×Addr))(vxs:AQ)(k:List AH)(b:Addr)(v:V):List (List AH×Addr)×AQ:=
 if k∈nks.map (·.1)then (nks,aZ (nks.map (·.1)) vxs k v)else (nks++[(k,b)],vxs++[v])
def Cp:V->V->V->Hp->(Hp->Prop)->Prop:=λo i v H Q=>∃a b nks vxs k,o=.ref a/\i=.ref b/\oz H a nks vxs/\NKey H b k/\vxs.length<aK/\∀ep,Q (upd H a (fx a (cD nks vxs k b v).1 (cD nks vxs k b v).2 ep))
theorem Cq(hu:X.A.units+64<cLine):iW X Cp:=by
 intro pins s σ H o i v ov iv u Q I ro ri rv h;obtain⟨a,b,nks,vxs,k,rfl,rfl,dt,nk,hl,q⟩:=h;cases ro;cases ri;obtain⟨hsm,us,r,hl',dd⟩:=Cm I dt;have key:=sF (P:=X.prog) (w:=X.w) I.hok nk
 have hz:(aM nks us).length<=sizeLine:=by
  have:(aM nks us).length<=nks.length:=by simp[aM];ac_nf
  have h6:=gy (n:=nks.length) (by rw[dt.len];ac_nf);ac_nf
 refine wpAny_setItem_heap (knd:=jS X.prog X.w) (hsz:=hz) (by show X.A.in1.units+16<cLine;have:X.A.in1.units=X.A.units+1:=rfl;ac_nf) key dd λh' dd' same=>?_;have hs:=JR (k:=k) hl';obtain⟨ep0,e0⟩:=dt.at'
 have new:∃ep,∀H',ObjOk X.prog X.w H' h' a (fx a (cD nks vxs k b v).1 (cD nks vxs k b v).2 ep):=by
  unfold cD;by_cases hm:k∈nks.map (·.1)
  .rw[if_pos hm]
   rw[wh hm]at hs
   have e:storedH (aM nks us) k b u=aM nks (aZ (nks.map (·.1)) us k u):=by
    unfold storedH;rw[if_pos hs];exact zb (b:=b) hl' dt.nd hm
   rw[e]at dd';exact oD hsm (za k rv r) dd'
  .rw[if_neg hm]
   rw[wj hm]at hs
   have e:storedH (aM nks us) k b u=aM (nks++[(k,b)]) (us++[u]):=by
    unfold storedH;rw[if_neg (by rw[hs];exact qi)];unfold aM;rw[List.zip_append hl'.symm,Qk];rfl
   rw[e]at dd';exact oD hsm (IE r rv) dd'
 obtain⟨ep,new⟩:=new;exact⟨_,Hm I (by rw[e0];exact True.intro) same (let ⟨q,_,_,hq,_⟩:=dd';⟨q,hq⟩) (new _),q ep⟩
def hJ{G H:Hp}{a:Addr}{kxs vxs:AQ}{ks:AR}{kn:List (List AH)}(hn:fg ks=some kn)(rk:RpL K G ks kxs)(sm:Same G H)(d:Dc true G H a kxs vxs):∃nks,oz H a nks vxs/\kxs=nks.map (λp=>V.ref p.2)/\∀p∈nks,NKey G p.2 p.1:=by
 rcases d with⟨h,_⟩|⟨_,nks,ep,h1,h2,h3,h4,h5⟩|⟨_,nks,ep,h0,h1,h2,h3,h4,h5⟩
 .cases h
 .subst h4
  cases nks with
  | nil=>
    refine⟨[],⟨⟨ep,h1⟩,h2,.nil,λp hp=>nomatch hp⟩,rfl,λp hp=>nomatch hp⟩
  | cons p nks=>
    obtain⟨ys,y1,y2⟩:=h5 p qh
    cases ks with
    | nil=>
      rw[RpL]at rk;cases rk
    | cons d ks=>
      rw[RpL]at rk;obtain⟨x,q,e,r1,_⟩:=rk;rw[Qd]at e;injection e with e1 e2;subst e1;rw[fg]at hn;obtain⟨k,z1,_⟩:=qa hn;obtain⟨b,e3,zs,z0,z2,z3⟩:=JQ z1 r1;cases e3;rw[y1]at z2;cases z2
      cases z3 with
      | nil=>exact absurd rfl z0
      | cons _ _ _=>cases y2
 .exact⟨nks,⟨⟨ep,h1⟩,h2,h3,λp hp=>(h5 p hp).mono sm⟩,h4,h5⟩
def bq:D->D->Option D
 | .dct true ks vs,k=>(fg ks).bind λkn=>(iL k).bind λx=>bf kn vs x
 | _,_=>none
def Cr:dB K oA bq:=by
 intro x y dx dy d H G Q h s rx ry q;unfold bq at h
 split at h
 .rename_i ks vs k
  obtain⟨kn,h1,h⟩:=qa h;obtain⟨z,h2,h3⟩:=qa h;rw[Ct]at rx;obtain⟨a,kxs,vxs,rfl,dc,r1,r2⟩:=rx;obtain⟨nks,dt,rfl,hk⟩:=hJ h1 r1 s dc;obtain⟨b,rfl,g1,g2,_⟩:=Cj h2 s ry;have e:=sE h1 r1 hk;subst e;obtain⟨v,f1,f2⟩:=(kY z r2).1 d h3;exact⟨a,b,nks,vxs,z,v,rfl,rfl,dt,g1,f1,q v H G (.refl s) f2⟩
 .cases h
def dM(neg:Bool):D->D->Option Bool
 | k,.dct true ks _=>(fg ks).bind λkn=>(iL k).map λx=>decide (x∈kn)!=neg
 | _,_=>none
def Cu{neg:Bool}:eG K (oB neg) (dM neg):=by
 intro x y dx dy b H G Q h s rx ry q;unfold dM at h
 split at h
 .rename_i k ks vs
  obtain⟨kn,h1,h⟩:=qa h;obtain⟨z,h2,rfl⟩:=qc h;rw[Ct]at ry;obtain⟨a,kxs,vxs,rfl,dc,r1,r2⟩:=ry;obtain⟨nks,dt,rfl,hk⟩:=hJ h1 r1 s dc;obtain⟨b,rfl,g1,g2,_⟩:=Cj h2 s rx;have e:=sE h1 r1 hk;subst e;exact⟨a,b,nks,vxs,z,rfl,rfl,dt,g1,q⟩
 .cases h
section
variable {a b e:Expr}{fb f:AW}
def lh(ks vs:AR)(k d:D):Option (List D×AR):=(fg ks).bind λkn=>(iL k).bind λx=>if vs.length<aK then some (if x∈kn then (ks,aZ kn vs x d)else (ks++[k],vs++[d]))else none
def hO(i:Nat)(fi f:AW):AT:=λρ=>(f ρ).bind λd=>(jv i ρ).bind λl=>(fi ρ).bind λk=>(lh l.1 l.2 k d).map λl'=>.nx (ρ.set i (some (.od true l'.1 l'.2)))
end
section
variable {w:World}{A:Around}{E:AC}{s:Shared}
def DRaw(h:Heap)(d:Addr)(b:Array DictEntry)(a:Nat):Prop:=∃o,h.get? d=some o/\o.ExactDict/\o.data=.dict b a
def DRaw.typeIs(b:DRaw s.heap d f e):s.TypeIs (.ref d) "dict":=by
 obtain⟨o,a,c,_⟩:=b;exact⟨o,a,c.1⟩
theorem P9(j:(d==sysModules)=false)(e:DRaw s.heap d f h)(g:Q (.ref (~~~s)) {s with heap:=s.heap.push {cls:=.type "dict_keyiterator",data:=.fields #[.ref d,.int 0 0,.int f.size 0,.int h 0]} }):wpAny (mZ prog w) A (pyIter (.ref d)) Q E s:=by
 have b:=e.typeIs;obtain⟨o,c,i,a⟩:=e;refine wpAny_pyIter_slot b F.slot_dict_iter (wd F.slot_dict_iter b F.entry_dict_iter (wa (wa (wpAny_notOrdered_dict b ?_))) (F.args_dict_iter_1 _));show wpAny _ _ (pure (Value.ref d)) _ _ s;refine wb ?_;show wpAny _ _ (Builtin.Dict.showsAll d>>=_) _ _ s;unfold Builtin.Dict.showsAll;rw[if_neg (by grind)];refine wa (wb (wa (wpAny_dictEntries c a (wa (wpAny_dictEpoch c a (wa (we (wb ⟨_,rfl,"dict_keyiterator",_,⟨_,qp _ rfl,rfl⟩,F.slot_dict_keyiterator_next.lookup,?_⟩))))))));simpa [rawInt]using g
theorem P_(a:s.heap.IsKeyIter c d i f.size k)(q:DRaw s.heap d f k)(n:i<f.size)(m:∀h':Heap,h'.IsKeyIter c d (i+1) f.size k->Heap.SameBut c s.heap h'->Q (some f[i].key) {s with heap:=h' }):wpAny (mZ prog w) A (pyNext (.ref c)) Q E s:=by
 obtain⟨o,j,r,h⟩:=id a;obtain⟨t,g,p,e⟩:=q;unfold pyNext
 refine wa (jd (wpAny_callSpecial?_slot a.typeIs F.slot_dict_keyiterator_next
  (wd F.slot_dict_keyiterator_next a.typeIs F.entry_dict_keyiterator_next ?_ (F.args_dict_keyiterator_next_1 _))))
 refine wa (wb ?_);refine wa ?_;refine wa ?_
 first|refine wa (wpAny_typeNameOfWhole_keyiter a.typeIs (wb ?_))|refine wa (wpAny_typeNameOf_keyiter a.typeIs (wb ?_))
 refine wa (wpAny_fieldsOf j h ?_)
 have l:Builtin.Dict_items.ownsTuple "dict_keyiterator"=false:=by decide
 show wpAny _ _ _ _ _ s;refine wa (wb ?_);refine wa (wpAny_dictEntries g e ?_);rw[if_neg nofun];refine wa (wb ?_);refine wa (wpAny_dictEpoch g e ?_);rw[if_neg nofun];refine wb ?_;simp only[if_false,wy,Array.getElem?_eq_getElem n];refine wa ?_
 first|refine wa (wpAny_typeNameOfWhole_keyiter a.typeIs (wb ?_))|refine wa (wpAny_typeNameOf_keyiter a.typeIs (wb ?_))
 refine wa (wpAny_isOneOf_keyiter a.typeIs ?_);show wpAny _ _ (setField (.ref c) 1 _>>=_) _ _ s;refine wa (wpAny_setField j h nofun ?_)
 have b:(s.heap.update c (Obj.mapFields (·.setIfInBounds 1 (rawInt ((i:Int)+1))))).IsKeyIter c d (i+1) f.size k:=
  ⟨_,wt _ j (Obj.isFreed_of_fields (jc h _)),(Obj.cls_mapFields ..).trans r,by rw[jc h];simp[rawInt]⟩
 refine wa (wc ?_);refine wa (wpAny_isOneOf_keyiter b.typeIs ?_);exact wb (wb ⟨_,rfl,wb (m _ b (wo ..))⟩)
theorem Qt(p:A.handled=none)(a:s.heap.IsKeyIter e d i h.size n)(q:DRaw s.heap d h n)(f:h.size<=i)(m:∀h',Heap.ExtBut e s.heap h'->Q none {s with heap:=h' }):wpAny (mZ prog w) A (pyNext (.ref e)) Q E s:=by
 obtain⟨o,k,r,j⟩:=id a;obtain⟨t,c,l,b⟩:=q;unfold pyNext
 refine wa (jd (wpAny_callSpecial?_slot a.typeIs F.slot_dict_keyiterator_next
  (wd F.slot_dict_keyiterator_next a.typeIs F.entry_dict_keyiterator_next ?_ (F.args_dict_keyiterator_next_1 _))))
 refine wa (wb ?_);refine wa ?_;refine wa ?_
 first|refine wa (wpAny_typeNameOfWhole_keyiter a.typeIs (wb ?_))|refine wa (wpAny_typeNameOf_keyiter a.typeIs (wb ?_))
 refine wa (wpAny_fieldsOf k j ?_)
 have g:Builtin.Dict_items.ownsTuple "dict_keyiterator"=false:=by decide
 show _;refine wa (wb ?_);refine wa (wpAny_dictEntries c b ?_);rw[if_neg nofun];refine wa (wb ?_);refine wa (wpAny_dictEpoch c b ?_);rw[if_neg nofun];refine wb ?_;simp only[show ¬((i:Int)<0) from by lia,if_false,wy,Array.getElem?_eq_none f];refine wa ?_
 first|refine wa (wpAny_typeNameOfWhole_keyiter a.typeIs (wb ?_))|refine wa (wpAny_typeNameOf_keyiter a.typeIs (wb ?_))
 show wpAny _ _ (setField (.ref e) 0 .none>>=_) _ _ s;refine wa (wpAny_setField k j nofun ?_);refine wa ?_;refine wa (m:=firstArgMember _ _) (wpAny_of_eq (a:=Value.none) (by first|rfl|(rfl)) ?_);refine we ?_ (by size_fits);simp only[raiseNew];refine wa (wpAny_handled ?_);rw[p];refine wa (wb (wpAny_throw ?_));refine wa (wpAny_isInstance (T:="StopIteration") (b:=true) ⟨_,qp _ rfl,rfl⟩ isSubtype_stop ?_);exact wb (m _ (((wo ..).extBut.push _).push _))
end
def JS(a:Addr)(nks:List (List AH×Addr))(vxs:AQ)(ep:Nat):It:=
 ⟨λi H=>H a=some (fx a nks vxs ep)/\i<nks.length,λi H x H'=>H'=H/\∃p,nks[i]?=some p/\x=.ref p.2,λi H=>H a=some (fx a nks vxs ep)/\nks.length<=i⟩
theorem Cv{P:P7}{w:World}{H:Hp}{h:Heap}{a:Addr}{nks:List (List AH×Addr)}{vxs:AQ}{ep:Nat}(ok:HOk P w H h)(e:H a=some (fx a nks vxs ep))(hl:nks.length=vxs.length):
 (a==sysModules)=false/\∃es:Array DictEntry,DRaw h a es ep/\es.size=nks.length/\∀(i:Nat) (hi:i<es.size) p,nks[i]?=some p->es[i].key=.ref p.2:=by
 obtain⟨⟨hs,us,o,es,r,h1,h2,h3,h4⟩,_⟩:=(show ObjOk P w H h a (fx a nks vxs ep) from ok a _ e)
 have hu:us.length=nks.length:=by rw[hl,r.length]
 have hsz:es.size=nks.length:=by
  have:=congrArg List.length h4;simp at this;ac_nf
 refine⟨hs,es,⟨o,h1,h2,h3⟩,hsz,λi hi p hp=>?_⟩
 have hz:es.toList[i]?=some es[i]:=by simp[hi]
 rw[h4,Qm]at hz;obtain⟨hi2,hp2⟩:=qo hp
 have hui:i<us.length:=by ac_nf
 have hzip:(nks.zip us)[i]?=some (p,us[i]):=by
  rw[List.getElem?_zip_eq_some];exact⟨hp,qr hui⟩
 rw[hzip]at hz;have:=wx hz;rw[<-this]
theorem Qu{P:P7}{w:World}{K:W7}{tg:Expr}{nks:List (List AH×Addr)}{vxs:AQ}{ep:Nat}(hl:nks.length=vxs.length)(a it:Addr):dP P w K tg (JS a nks vxs ep) [it] it (λi h=>h.IsKeyIter it a i nks.length ep) where
 mem:=by simp
 obj:=λi h st b hb=>by
  have e:b=it:=by simpa using hb
  subst e;obtain⟨o,e,c,d⟩:=st;exact⟨o,e,λv z=>by rw[d]at z;cases z⟩
 keep:=λi h h' st k=>by
  obtain⟨o,e,r⟩:=st;exact⟨o,k it nofun o e,r⟩
 item:=by
  intro X hP hw hK hc i pins s σ H E I hf st hg;subst hP hw hK;obtain⟨hq,hx⟩:=hg;obtain⟨hsm,es,dr,hsz,hkey⟩:=Cv I.hok hq hl;obtain⟨f0,f1,f2,f3,f4,f5⟩:=hf it nofun;have hp:nks[i]?=some nks[i]:=qr hx;rw[<-hsz]at st;refine P_ st dr ∅ λh' st' sb=>?_;have I1:Inv X pins σ H {s with heap:=h' }:=I.turned (t':=s.toks) (λb o hb e=>(sb.2 b hb).trans e) f0 f1 f3 f4 f5;obtain⟨o,e,c,d⟩:=id st';rw[hkey i ∅ _ hp];rw[hsz]at st';exact⟨.ref nks[i].2,rfl,pR (s:={s with heap:=h' }) e c d (by decide) ⟨.ref nks[i].2,H,I1,rfl,⟨rfl,_,hp,rfl⟩,st',λb hb=>(hf b hb).1⟩⟩
 done:=by
  intro X hP hw hK hc i pins s σ H E I hf st hg;subst hP hw hK;obtain⟨hq,hx⟩:=hg;obtain⟨hsm,es,dr,hsz,hkey⟩:=Cv I.hok hq hl;obtain⟨f0,f1,f2,f3,f4,f5⟩:=hf it nofun;rw[<-hsz]at st
  exact Qt (I.ok.hd hc) st dr ∅ λh' eb=>⟨rfl,I.turned (t':=s.toks) (λb o hb e=>eb b o hb e) f0 f1 f3 f4 f5⟩
 self:=λ_ _ _ _ _ st h=>wpAny_pyIter_keyiter st h
section
variable {f:AW}
def Cw(tl:TE):TI:=λσ H R=>tl σ H λx H1=>∃a nks vxs ep,x=.ref a/\H1 a=some (fx a nks vxs ep)/\nks.length=vxs.length/\R (JS a nks vxs ep) H1
def Cy{l:Expr}{tl:TE}(hl:PE X l tl):PI X tg l (Cw tl):=by
 intro pins s σ H R I h;refine aS (hl pins s σ H _ I h) λv s1 hx_=>?_;obtain⟨x,H1,I1,r1,q1⟩:=hx_;obtain⟨a,nks,vxs,ep,e,hq,hlen,q⟩:=q1;subst e;cases r1;obtain⟨hsm,es,dr,hsz,hkey⟩:=Cv I1.hok hq hlen;refine P9 hsm dr ?_;rw[hsz];refine⟨~~~s1,[~~~s1],_,_,H1,rfl,I1.kept (t':=s1.toks) λb o e=>qe _ e,Qu hlen a _,⟨_,qp _ rfl,rfl,rfl⟩,λb hb=>?_,q⟩
 have e:b= ~~~s1:=by simpa using hb
 subst e;exact I1.fpOk (qv _) (I1.hok.fresh (qv _))
def sG:D->Option AR
 | .dct true (k::ks) _=>if (k::ks).length<=aK then (fg (k::ks)).map λ_=>k::ks else none
 | _=>none
theorem Qv{l:Expr}(hl:ZE X l f):ZI X tg l (b1 f sG):=⟨have hl:=hl.un;PI.imp (Cy hl) λσ H R hx_=>by
 obtain⟨ρ,ds,H0,G0,G,e,s,h⟩:=hx_;obtain⟨c,h1,h2⟩:=d7 e;refine tOf.at h1 s λv H1 G1 g1 r1 s1=>?_;unfold sG at h2
 split at h2
 case h_2=>cases h2
 rename_i k ks vs
 split at h2
 case isFalse=>cases h2
 rename_i hcap;obtain⟨kn,hk,rfl⟩:=qc h2;generalize k::ks=ks at *;rw[Rp]at r1;obtain⟨a,kxs,vxs,rfl,dc,rk,rv⟩:=r1;obtain⟨nks,⟨⟨ep,d1⟩,d2,d3,d4⟩,rfl,d5⟩:=hJ hk rk (Same.refl G1) dc;refine⟨a,nks,vxs,ep,rfl,s1.seen _ _ d1,d2,h _ H1 G1 g1 (mz (gy hcap) λi H2 G2 e1 e2=>⟨λd hd=>?_,λhi=>⟨e2 _ _ (e1 _ _ d1),?_⟩⟩)⟩
 .obtain⟨x,hx,rx⟩:=rk.get hd
  have hlt:i<nks.length:=by
   have:=(qo hx).1;simpa using this
  refine⟨⟨e2 _ _ (e1 _ _ d1),hlt⟩,λy H3 q=>⟨q.1,?_⟩⟩;obtain⟨p,hp,rfl⟩:=q.2;rw[Qm,hp]at hx;cases hx;exact rx.mono e1
 .have:=rk.length
  simp at this
  ac_nf⟩
def Cz:TE:=λ_ H Q=>∀p ep,H p=none->Q (.ref p) (upd H p (iy p [] [] ep))
def CA{dpos:Pos}:PE X (.Dict [] [] dpos) Cz:=by
 intro pins s σ H Q I q;have hd:(~~~s==sysModules)=false:=beq_eq_false_iff_ne.mpr (Ne.symm (qm I.big));obtain⟨ep0,new0⟩:=zh (P:=X.prog) (w:=X.w) (h':=s.heap.push {cls:=.type "dict",data:=.dict #[]}) (nks:=[]) (vxs:=[]) (us:=[]) hd .nil (Heap.DictOfH.new s.heap);exact wpAny_Dict_empty ⟨.ref (~~~s),_,I.laid (o:=iy (~~~s) [] [] ep0) (t':=s.toks) (λ_ _ q=>qe _ q) (qv _) (new0 _),rfl,q _ _ (I.hok.fresh (qv _))⟩
def hU(i:Nat):AT:=λρ=>some (.nx (ρ.set i (some (.od true [] []))))
end
section
variable {a b e:Expr}{fb f:AW}
def CB(hu:X.A.units+64<cLine)(ha:ZC X a fa)(hb:ZC X b fb)(hs:iu b:=by intro _ _;rfl):ZE X (.Subscript a b pos) (b2 fa fb bq):=⟨have ha:=ha.un;have hb:=hb.un;qM (Cn hu) Cr ha hb hs⟩
def CD(hu:X.A.units+64<cLine)(ha:ZC X a fa)(hb:ZC X b fb)(hm:behindInMarks .In b=false:=by with_unfolding_all rfl):ZT X (.Compare a [.In] [b] pos) (b2 fa fb (dM false)):=⟨have ha:=ha.un;have hb:=hb.un;gv (Co hu) Cu ha hb hm⟩
theorem CF(hu:X.A.units+64<cLine)(i:Nat){x:Str}{ie:Expr}{p2 p3:Pos}(hb:ZC X ie fb)(he:ZE X e f)(hN:X.N[i]?=some x:=by rfl)(hv:ip X.env.scope x:=by trivial)(hd:dq x:=by decide)(hcd:iV x:=by decide)(ha:∀v,assign (.Subscript (.Name x p2) ie p3) X.env v=(do
  let ov <-holding [v] (eval (.Name x p2) X.env)
  let iv <-holding [v,ov] (eval ie X.env)
  standAt p3
  holding [v,ov,iv] (setItem ov iv v)
  release [v,ov,iv] []):=by intro _;rfl)(hs:swapsWithSole [.Subscript (.Name x p2) ie p3] e pos.line X.env=pure false:=by rfl)(hw:swappedStores [.Subscript (.Name x p2) ie p3] e X.env=pure none:=by rfl)(h1:(assignEach [.Subscript (.Name x p2) ie p3] X.env).map (·.2)=[assign (.Subscript (.Name x p2) ie p3) X.env]:=by rfl):ZS X (.Assign [.Subscript (.Name x p2) ie p3] e pos) (hO i fb f):=⟨have hb:=hb.un;have he:=he.un;
 PS.imp (lM he (lL (kA hN hv hd hcd) hb (Cq hu) ha) hs hw h1) λF σ H ⟨ρ,out,H0,G0,G,e,s,h⟩=>by
  unfold hO at e;obtain⟨d,h1,e⟩:=qa e;obtain⟨l,h2,e⟩:=qa e;obtain⟨k,h3,e⟩:=qa e;obtain⟨l',h4,rfl⟩:=qc e;obtain⟨ks,vs⟩:=l;unfold lh at h4;obtain⟨kn,h5,h4⟩:=qa h4;obtain⟨z,h6,h4⟩:=qa h4
  split at h4
  case isFalse=>cases h4
  rename_i hcap;have hod:=IF h2;refine tOf.at h1 s λv H1 G1 g1 r1 s1=>?_;obtain⟨a0,_,_,ha0,_⟩:=s1.od i _ _ _ hod;refine⟨_,ha0,tCof.at h3 s1 λu H2 G2 g2 r2 s2=>?_⟩;obtain⟨a,kxs,vxs,ha,hG,hH0,dc,rk,rv⟩:=s2.od i _ _ _ hod;rw[ha0]at ha;cases ha;obtain⟨nks,dt,rfl,hk⟩:=hJ h5 rk s2.seen dc;obtain⟨b,rfl,b1,n,ys,b2'⟩:=Cj h6 s2.seen r2;have e:=sE h5 rk hk
  have hvl:vxs.length<aK:=by rw[rv.length];exact hcap
  refine⟨a0,b,nks,vxs,z,rfl,rfl,dt,b1,hvl,λep=>?_⟩
  have hne:a0≠b:=λz=>by rw[z,b2']at hG;cases hG
  have r1':=r1.mono g2.g;injection h4 with h4;subst e;refine h _ _ G2 (s2.mutd hod ha0 (kxs:=(cD nks vxs z b v).1.map (λp=>V.ref p.2)) (vxs:=(cD nks vxs z b v).2) ?_ ?_ ?_)
  .refine .inr (.inr ⟨rfl,(cD nks vxs z b v).1,ep,?_,Yh,?_,?_,rfl,?_⟩)
   .unfold cD
    split
    .rename_i hm
     intro z';have z':nks=[]:=z';rw[z']at hm;cases hm
    .simp
   .unfold cD
    split
    .rw[mK];exact dt.len
    .simp[dt.len]
   .unfold cD
    split
    .exact dt.nd
    .rename_i hm
     rw[Qk,List.nodup_append];refine⟨dt.nd,by simp,λx hx y hy z'=>?_⟩;simp at hy;subst z' hy;exact hm hx
   .unfold cD
    split
    .exact hk
    .intro p hp
     rcases qw hp with hp|hp
     .exact hk p hp
     .rw[List.mem_singleton.mp hp]
      exact n
  .rw[<-h4]
   unfold cD
   split
   .exact rk
   .rw[Qk]
    refine RpL.snoc ?_ rk
    cases k with
    | tup l=>
      rw[Ct]at r2;obtain⟨b',ys',e,⟨g1,g2⟩,rl⟩:=r2;rw[Rp];exact⟨b',ys',e,g2,rl⟩
    | _=>cases h6
  .rw[<-h4]
   unfold cD
   split
   .exact qU z r1' rv
   .exact RpL.snoc r1' rv⟩
theorem CG(i:Nat){x:Str}{pos' dpos:Pos}(hN:X.N.Nodup)(hi:X.N[i]?=some x:=by rfl)(hx:ec X.env.scope x:=by trivial)(hs:swapsWith (.Dict [] [] dpos) (some (.Name x pos')) pos.line X.env=pure false:=by rfl)(hf:Zf X x:=by trivial):ZS X (.Assign [.Name x pos'] (.Dict [] [] dpos) pos) (hU i):=⟨
 PS.imp (wA hN hi hx CA hs hf) λF σ H ⟨ρ,out,H0,G0,G,e,s,h⟩=>by
  cases e;intro p ep hp
  exact h _ _ G (s.set_od i (.hid s.seen hp _) hp (s.seen.free hp) (kxs:=[]) (vxs:=[]) (.inr (.inl ⟨rfl,[],ep,Yh,rfl,.nil,rfl,λp hp=>nomatch hp⟩)) .nil .nil)⟩
@[simp] def oE{ρ:Ro}(i:Nat)(fi f:AW):hO i fi f ρ=(f ρ).bind λd=>(jv i ρ).bind λl=>(fi ρ).bind λk=>(lh l.1 l.2 k d).map λl'=>.nx (ρ.set i (some (.od true l'.1 l'.2))):=nr rfl
@[simp] def oG{ρ:Ro}(i:Nat):hU i ρ=some (.nx (ρ.set i (some (.od true [] [])))):=nr rfl
end
section
variable {e:Expr}{f:AW}
def jT(f:AW):AW:=λb=>((f b).bind pairsOf).bind λa=>if a.length<aK then some (.dct false ((cg [] [] a).1.map .int) (cg [] [] a).2)else none
@[simp] theorem JT:jT f ρ=((f ρ).bind pairsOf).bind λa=>if a.length<aK then some (.dct false ((cg [] [] a).1.map D.int) (cg [] [] a).2)else none:=iC rfl
end
section
variable {e:Expr}{f:AW}
theorem CH(B:X.calm=true){E b:Pos}(C:Gl X "dict")(w:X.mg "dict"=none)(j:ZC X e f)(g:Ze X e:=by rfl)(n:(backTo b (starEach [] X.env)).any (·.1)=false:=by rfl):
 ZE X (.Call (.Name "dict" E) [e] [] b) (jT f):=⟨have j:=j.un;
 PE.imp (i7 (OY B) C w (by decide +kernel) (kO j kN g) (by decide) (by decide) g n) λσ H Q k=>by
  obtain⟨i,V,P,S,G,e,s,h⟩:=k;obtain⟨Y,O,e⟩:=qa e;obtain⟨d,T,o⟩:=qa O
  split at e
  case isFalse=>cases e
  rename_i c;cases e;refine tCAof.at (show Yb f _ i=some [d] by ext) s λZ U R K y u=>?_;obtain⟨v,rfl,x⟩:=gz y
  cases d with
  | lst l=>
    obtain⟨a,D,rfl,J,I⟩:=x;obtain⟨r,L,t⟩:=IR u.seen (o) I;refine⟨a,D,r,rfl,.inl J,L,by rwa [t.length],λp M=>?_⟩;obtain⟨m,z,A,N,F⟩:=IS t List.nodup_nil rfl .nil;have q:=Gr.new u.seen M (.dK (gB [] r));exact h _ _ _ (K.trans q) (⟨p,(cg [] [] Y).1.map _,m,rfl,zo (by rw[<-z];exact Yh) A N,.ints _,F.mono q.g⟩)
  | _=>cases o⟩
end
section
variable {a e:Expr}{f:AW}
def CI(K:W7):V->AQ->Hp->VK->Prop:=λx vs H Q=>∃(l:Addr) (ns:AH) (k:Int),x=.ref l/\vs=[.int k]/\SqL K H l (ns.map V.int)/\Q (.int (ns.count k:Nat)) H
def CJ:xR X "list.count" (CI X.K):=by
 intro pins s σ H x vs v us Q I rx rv h;obtain⟨l,ns,k,rfl,rfl,hH,q⟩:=h;cases rx;obtain⟨u,rfl,⟨t,rfl⟩⟩:=eQ rv;obtain⟨its,r,pl,_⟩:=I.list hH;exact count_list_ints pl.isList (pY r) ⟨.int (ns.count k:Nat),H,I.tok _,⟨_,rfl⟩,q⟩
def hV:D->D->Option D
 | .lst l,.int k=>(cw l).map λns=>.int (ns.count k:Nat)
 | _,_=>none
end
section
variable {a e:Expr}{f:AW}
theorem Qw{apos cpos:Pos}(ha:ZC X a fa)(he:ZE X e f)(hs:Ze X e:=by rfl)(hfew:Bi X cpos [e]:=by rfl)(hline:(apos.endLine==cpos.line)=true:=by rfl)(hbase:attributeBase a "count" X.env (eval a X.env)=eval a X.env:=by rfl):
 ZE X (.Call (.Attribute a "count" apos) [e] [] cpos) (b2 fa f hV):=⟨have ha:=ha.un;have he:=he.un;
 PE.imp (i9 PySem.F.plainAttrs_list PySem.F.slot_list_count PySem.F.type_list_count CJ ha (fL he gO hs) hbase hfew hline hs rfl) λσ H Q hx_=>by
  obtain⟨ρ,d,H0,G0,G,e,s,h⟩:=hx_;obtain⟨dx,h1,e⟩:=qa e;obtain⟨dy,h2,h3⟩:=qa e
  cases dx<;>try cases h3
  rename_i l
  cases dy<;>try cases h3
  rename_i k;obtain⟨ns,h4,rfl⟩:=qc h3;have:=jo h4;subst this;refine tCof.at h1 s λv H1 G1 g1 r1 s1=>?_;rw[Ct]at r1;obtain⟨p,xs,rfl,g,rl⟩:=r1;have:=jq rl;subst this;refine⟨.inl ⟨rfl,_,.inl g⟩,tOf.at h2 s1 λu H2 G2 g2 r2 s2=>?_⟩;rw[Rp]at r2;subst r2;refine⟨p,ns,k,rfl,rfl,.inl (g.imp (g2.h _ _) λq=>q.imp λo q=>g2.h _ _ q),?_⟩
  exact h _ H2 G2 (g1.trans g2) (by rw[Rp])⟩
@[simp] theorem CK(l:AH)(k:Int):hV (.lst (l.map D.int)) (.int k)=some (.int (l.count k:Nat)):=by
 show(cw (l.map D.int)).map _=_;rw[sk];rfl
end
end M
namespace Lw
variable {SL:AZ}
open PySem PySem.Spec PyProof.Rows L2 M
noncomputable def top(i:Nat):Stmt:=PySem.Challenge.pw_duskbook_k33_whole_never_both.main.body.getD i (.Pass ⟨0,0,0,0⟩)
noncomputable def gt_EXCHANGED_KINDS:List (Str×Str):=[((.ofString "eithers"),.ofString "eithers"),((.ofString "sums"),.ofString "sums"),((.ofString "ifs"),.ofString "nots"),((.ofString "nots"),.ofString "ifs")]
set_option maxHeartbeats 4000000
def Fq(K:W7)(c:AF)(x:Str)(i:Nat):Prop:=∃a d,Fun K x x (top i) a d/\c x=some (.ref a)
def Fk(K:W7)(x:Str)(i:Nat):Prop:=∃a c,W.nsIn K mainGlobals x=some (some (.ref a))/\Fun K x x (top i) a c
def Fk.on{K:W7}(F:Fk K x i)(X:K.In h)(G:h.Ns mainGlobals c):Fq K c x i:=by
 obtain⟨a,d,n,f⟩:=F;exact⟨a,d,f,W.mg_of X G n⟩
def fk_mk{K:W7}{kV e h d j:Value}(a:W.nsIn K mainGlobals x=some (some (.ref f)))(l:K.lookup f=some ⟨m,n,.func (W.fnOf x x (aFa (top i)) (aEa (top i)) (aCa (top i)) .none kV e h o d j),g⟩)(c:W.codeIn K d x=true)(k:W.keepIn K (.ref f)=true):Fk K x i:=⟨_,_,a,l6 l c k⟩
abbrev Fs(n i:Nat)(N:AL):Prop:=ir N (N.take n) (aCa (top i))
noncomputable abbrev kq:Nat->NameKind
 | 0=>.local
 | 1=>.free
 | 2=>.globalImplicit
 | _=>.cell
abbrev Cs(A:AL)(i:Nat)(L:AL)(s:List AN)(n:List (Str×Nat)):Prop:=gu A (aCa (top i)) L s (GT ((".0",.local)::n.map λp=>(p.1,kq p.2)))
def a_{A:AL}{i:Nat}{L:AL}{s:List AN}{n:List (Str×Nat)}(h:jf A (aCa (top i)) L s (GT ((".0",.local)::n.map λp=>(p.1,kq p.2)))=true:=by decide +kernel):Cs A i L s n:=NT h
theorem aQ{N h:AL}{i:Scope}(a:i.kind=.function:=by rfl)(b:i.isCoroutine=false:=by rfl)(c:i.isGenerator=false:=by rfl)(d:N.Nodup:=by decide +kernel)(e:N.take h.length=h:=by rfl)(f:∀x∈h,i.names.lookup x=some .local\/i.names.lookup x=some .cell:=by decide +kernel)(g:∀y∈i.names,y.2≠.free:=by decide +kernel):ir N h i:=⟨a,b,c,d,e,f,g⟩
def JU(x:Str)(i:Nat)(h:AL):Prop:=∀(kV a e:Value) (d:Option _) (c f:Value) (b:List _),b.length=h.length->bindArgs (W.fnOf x x (aFa (top i)) (aEa (top i)) (aCa (top i)) .none kV a e d c f) ⟨b,[]⟩=pure (h.zip b)
theorem bQ{K:W7}{i k n m:Nat}(F:Fq K j x i)(S:ir N r (aCa (top i)))(t:∀{f:Addr}{e:Value}{A:Around}{c:List Env}{s:Shared}{H:Hp}{E:XK},Room k (A.deeper (envOfC x (aCa (top i)) (~~~s) f e))->ZB (dQ eh P w K j d N x (aCa (top i)) f e A c s H E).nox (aEa (top i)) fb)(o:N.length=n:=by rfl)(l:r.length=m:=by rfl)(B:JU x i r:=by and_intros):aJ P w K j d (k+1) m x r (au m n fb):=by
 obtain⟨a,q,f,h⟩:=F;exact yL f (f.binds B) h (Jr f S o l λ_ _ _ _ _ _ p=>t p)
theorem jU{P:P7}{w:World}{K:W7}{d:AF}{b:Heap}{x:Str}{i m L:Nat}{ps:AL}{mr:Nat->AR->Option D}(F:Fq K d x i)(h0:mr 0=λ_=>none)(hs:∀{k j:Nat},aJ P w K d b k m x ps (mr j)->L<=k->aJ P w K d b (k+1) m x ps (mr (j+1)))(g:ps.length=m:=by rfl)(B:JU x i ps:=by and_intros):∀j,aJ P w K d b (L+j) m x ps (mr j)
 | 0=>by
   obtain⟨a,l,f,h⟩:=F;rw[h0];exact On f (f.binds B) h g
 | j+1=>hs (jU F h0 hs g B j) (Nat.le_add_right _ _)
def JV:∀ρ l,Yb a ae ρ=some l->l.length=1:=kP λ_ _ h=>Ob h
def CL:∀ρ l,Yb a (Yb b ae) ρ=some l->l.length=2:=kP JV
def JW:∀ρ l,Yb a (Yb c (Yb b ae)) ρ=some l->l.length=3:=kP CL
def JX:∀ρ l,Yb a (Yb d (Yb b (Yb c ae))) ρ=some l->l.length=4:=kP JW
def JY:∀ρ l,Yb a (Yb e (Yb b (Yb d (Yb c ae)))) ρ=some l->l.length=5:=kP JX
def Qx:∀ρ l,Yb a (Yb f (Yb b (Yb d (Yb c (Yb e ae))))) ρ=some l->l.length=6:=kP JY
structure Bl(K:W7)(w:World)(mg:AF):Prop where
 Len:mg "len"=none
 Range:mg "range"=none
 List:mg "list"=none
 Tuple:mg "tuple"=none
 Bool:mg "bool"=none
 Sorted:mg "sorted"=none
 Any:mg "any"=none
 All:mg "all"=none
 Isinstance:mg "isinstance"=none
 Enumerate:mg "enumerate"=none
 Set:mg "set"=none
 Min:mg "min"=none
 Dict:mg "dict"=none
 g_EXCHANGED_KINDS:GD K w mg "EXCHANGED_KINDS" gt_EXCHANGED_KINDS
 f1:Fq K mg "both_added" 1
 f2:Fq K mg "added" 2
 f4:Fq K mg "contrary" 4
 f5:Fq K mg "led_to" 5
 f6:Fq K mg "is_road" 6
 f9:Fq K mg "exchanged_rule" 9
 f10:Fq K mg "exchanged" 10
 f12:Fq K mg "either_holds" 12
 f13:Fq K mg "sum_holds" 13
 f14:Fq K mg "if_holds" 14
 f15:Fq K mg "rule_holds" 15
 f16:Fq K mg "broken_rules" 16
 f17:Fq K mg "holds" 17
 f18:Fq K mg "beacons_in" 18
 f19:Fq K mg "is_void" 19
 f20:Fq K mg "without" 20
 f22:Fq K mg "beacons_with" 22
 f23:Fq K mg "is_rising" 23
 f25:Fq K mg "rows_by_beacon" 25
 f26:Fq K mg "is_plan_row" 26
 f27:Fq K mg "come_to" 27
 f28:Fq K mg "either_is_kept" 28
 f29:Fq K mg "plan_good" 29
 f30:Fq K mg "is_sum_row" 30
 f31:Fq K mg "replaced" 31
 f32:Fq K mg "sums_good" 32
 f33:Fq K mg "are_some_of" 33
 f34:Fq K mg "ahead_of" 34
 f35:Fq K mg "is_row" 35
 f36:Fq K mg "holds_where_lit" 36
 f37:Fq K mg "rows_good" 37
 f38:Fq K mg "keeper_good" 38
 f40:Fq K mg "is_place" 40
 f41:Fq K mg "body_is_known" 41
 f42:Fq K mg "is_step" 42
 f43:Fq K mg "is_derivation" 43
 f44:Fq K mg "derived" 44
 f46:Fq K mg "is_broken" 46
 f47:Fq K mg "lead_there_and_back" 47
 f48:Fq K mg "clash_good" 48
 f49:Fq K mg "cross_good" 49
 f50:Fq K mg "late_good" 50
 f51:Fq K mg "odd_good" 51
 f52:Fq K mg "first_ones" 52
 f53:Fq K mg "is_first_part" 53
 f54:Fq K mg "is_last_part" 54
 f55:Fq K mg "lone_good" 55
 f56:Fq K mg "either_paper_good" 56
 f57:Fq K mg "storm_good" 57
 f59:Fq K mg "good" 59
 f61:Fq K mg "_law_cell" 61
 f62:Fq K mg "_law_mixed" 62
 f63:Fq K mg "_law_hands" 63
 f64:Fq K mg "_law_own" 64
 f65:Fq K mg "_law_rule" 65
 f66:Fq K mg "_law_kept" 66
 f67:Fq K mg "_law_contrary" 67
 f68:Fq K mg "_law_step" 68
 f70:Fq K mg "_law_plan" 70
 f71:Fq K mg "_law_planted_either" 71
 f72:Fq K mg "_law_sum_rows" 72
 f73:Fq K mg "_law_odd_ones" 73
 f74:Fq K mg "_law_planted_sum" 74
 f75:Fq K mg "_law_rows" 75
 f76:Fq K mg "_law_evenings" 76
 f77:Fq K mg "_law_full" 77
 f78:Fq K mg "_law_lone" 78
 f79:Fq K mg "_law_paths" 79
 f80:Fq K mg "_law_either_papers" 80
 f81:Fq K mg "_law_sum_papers" 81
 f82:Fq K mg "_law_if_papers" 82
 f83:Fq K mg "_law_keepers" 83
 f84:Fq K mg "_law_kept_rule" 84
 f85:Fq K mg "_law_holds_all" 85
 f86:Fq K mg "_law_book" 86
section
variable {P:P7}{w:World}{K:W7}{mg:AF}{base:Heap}
def Qy:Fs 2 1 ["rule","other"]:=aQ
def JZ:AT:=ah (aw (Yb (cC (Yb (lF (zW (b2 (aa 0) (Zb 0) aj) (b2 (aa 1) (Zb 0) aj))) ae) ba) (Yb (mB (b2 (b2 (aa 0) (Zb 1) aj) (b2 (aa 1) (Zb 1) aj) (ay true))) ae)))
def jV:AR->Option D:=au 2 2 JZ
open Lean in
abbrev tUU:=TSyntax `Lean.Parser.Tactic.tacticSeq
open Lean in
def tVV(n:String):=mkIdent n.toName
open Lean in
def tA(h:Array Term)(s:List String):MacroM (Array tUU):=do
 let go (l:List String) (x:Term):MacroM tUU:=do
  let a <-l.tail.toArray.mapM λn=>if n=="q" then `(?_)else if n=="u" then `(_)else if n=="f" then `(λ_ _ _ _ _=>?_)else if n=="h" then pure x else pure (tVV n)
  `(tacticSeq| refine $(tVV l.head!) $a*)
 return (<-s.toArray.mapM λs=>do
  let l:=s.splitOn " "
  if l.contains "h" then h.mapM (go l)else return #[<-go l (<-`(_))]).flatten
set_option hygiene false in
open Lean in
local macro_rules | `(tactic| exists $xs,*)=>do
 let h:=xs.getElems
 let t <-("ZC/1 Name|Ym u/0 u|Yw q;ZA/0 u|eY q q|hC;ZE/3 lF|jE q/1 Name|An u/1 Constant|ez|rA|Ao|Jh/1 Subscript|Jj q q|CB hr.units q q|PV q q q|PQ bl.g_EXCHANGED_KINDS rfl q|BA hr.units q q|Bw hr.units q q/1 Call|Br h hr rfl q q|k7 Hw Ic rfl bl.Len PySem.boot_len q|nG l5 mw rfl bl.Tuple boot_tuple q|k7 q yV rfl bl.All boot_all q|k7 q yU rfl bl.Any boot_any q|Br rc hr rfl q q|Bv q rfl rfl bl.Isinstance bl.Bool boot_bool Oh|CH rfl rfl bl.Dict q|PU hr.units q q q q|Qw q q|k7 q IJ rfl bl.Min boot_min q/1 Tuple|nE q/1 BinOp|g_ q q|rB q q|Js q q|rC q q|nA q q|Ap q q|BF q q/1 Compare|Av hr.units q q|Ay hr.units q q|Aw hr.units q q|Bd q q|Aq q q|Ar q q|Bc q q|PR wW kJ i5 kJ q q q/1 BoolOp|A9 q q|A7 q|A8 q|A_ q q/1 UnaryOp|Bt q|Ba q/1 IfExp|Bb q q q/0 u|jE q;ZB/0 u|hE q|fC q q|jF;ZS/4 wF|Jm u q/1 Return|nI q/1 If|jG q q q/1 Assign|Bq u q h rfl q f f f q|nH u q q|Bg u q q|CG u q|Bx hr.units u q q|CF hr.units u q q/1 For|Jo jb rfl q q q/1 Expr|Jn u q|PN u q q/1 While|PL u jb q q;iI/0 u|fB q q|f7;ZG/1 Name|Bn u q/1 Tuple|Bp u u rfl q;ZI/0 u|Bj q|Bm rfl bl.Range q|PJ rfl bl.Range q|PM rfl bl.Enumerate q|Qv q;ZT/4 mU|Bz u q/1 Compare|k6 hr.units q q|As q q|Ax hr.units q q|Az hr.units q q|Be q q|Au q q|Ji hr.units q q|CD hr.units q q|BC hr.units q q|Bf q q/1 UnaryOp|A6 q/0 u|AI q|BE q;ZF/1 ListComp|Jq h rfl q f f f q/1 List|Jl q/1 Call|PH NN Oc rfl bl.List boot_list q|PX rfl rfl bl.Sorted rfl bl.Set q|nF mG mH rfl bl.Sorted boot_sorted q|PY rfl rfl bl.Sorted rfl bl.Set q q|PZ rfl hr.units rfl bl.Sorted rfl bl.Set q/1 BinOp|Bu q q/1 Subscript|Jk q q q;fZ/0 u|Jp|BD q;ZW/1 BoolOp|A4 q q|AO q|A5 q q|A3 q;ZO/0 u|nC q|nB".splitOn ";").toArray.mapM λj=>do
  let g:=j.splitOn "/"
  let J:=tVV g.head!
  let s <-g.tail.toArray.mapM λg=>do
   let r:=g.splitOn "|"
   let w:=r.head!.splitOn " "
   let c:=tVV w.tail.head!
   let k:=w.head!.toNat!
   let a <-tA h r.tail
   if k==0 then `(tacticSeq| first $[| $a]*)else if k==1 then `(tacticSeq| (with_reducible show $J _ (.$c ..) ..);first $[| $a]*)else
    let u <-(List.replicate (k-2) J).toArray.mapM λ_=>`(_)
    `(tacticSeq| (with_reducible show $J _ _ ($c $u*));first $[| $a]*)
  `(tacticSeq| (with_reducible show $J ..);first $[| $s]*)
 let r:Array Term:=("CL JW JX JV JY Qx".splitOn " ").toArray.map λn=>tVV n
 let b <-tA h ("Ih rfl|Of rfl rfl|Ot rfl|Os rfl|He rfl".splitOn "|")
 `(tactic| ((try refine bQ $(h[0]!) $(h[1]?.getD h[0]!) λhr=>?_);repeat' first $[| $t]* $[| with_reducible exact $r]* $[| exact($h).nd]* | exact⟨rfl,rfl,rfl,rfl⟩ $[| $b]* $[| exact $h]* | fail))
variable (bl:Bl K w mg)
def J0:aJ P w K mg base 1 2 "both_added" ["rule","other"] jV:=by
 exists bl.f1,Qy
def CM:Fs 2 2 ["book","places","whole","place"]:=aQ
def CN:AT:=(ao 2 (cC (Yb (ab 2) (Yb (b2 (b2 (aa 0) (Zb 1) aj) (aa 3) aj) ae)) jV))
@[simp] def Qz:AT:=(ah (ab 2))
@[simp] def QA:AT:=(ag (aY (b1 (ab 1) Yc) (ai 3) CN) Qz)
def J1:AT:=(ag (ao 2 (aw (Yb (aw ae) (Yb (kD (.bl false)) ae)))) QA)
def oH:AR->Option D:=au 2 4 J1
def CO:aJ P w K mg base 2 2 "added" ["book","places"] oH:=by
 exists bl.f2,CM,J0 bl
def QB:Fs 1 4 ["saying"]:=aQ
def J2:AT:=ah (aw (Yb (b2 (aa 0) (Zb 0) aj) (Yb (fQ (b2 (aa 0) (Zb 1) aj)) ae)))
def hZ:AR->Option D:=au 1 1 J2
def sH:aJ P w K mg base 1 1 "contrary" ["saying"] hZ:=by
 exists bl.f4,QB
def J3:Fs 2 5 ["book","saying","against","led","rule","others"]:=aQ
def QC:Cs ["book","saying","against","led","rule","others"] 5 ["other","against"] [none,some 2] [("other",0),("against",1)]:=a_
def CP:AV:=b2 (aa 0) (aa 1) (ay true)
def CQ:AW:=ab 0
def oI:AT:=aG (b2 (aa 2) (aa 4) (bc false)) (ag (aF 5 (Yo (b1 (ab 4) Yc) [none,some 2] (ai 0) (CP) (CQ))) (bp 3 (yv (b1 (aa 5) aN) (b2 (aa 5) (Zb 0) aj) (ab 2)) aT)) ar
@[simp] def J4:AT:=(wF [3] (ah (ab 3)))
@[simp] def J5:AT:=ag (aY (b1 (b2 (aa 0) (Zb 1) aj) Yc) (ai 4) oI) J4
@[simp] def J6:AT:=ag (aF 3 (aV ae)) J5
def CS:AT:=ag (ao 2 (cC (Yb (ab 1) ae) hZ)) J6
def sI:AR->Option D:=au 2 6 CS
def QD:aJ P w K mg base 2 2 "led_to" ["book","saying"] sI:=by
 refine bQ bl.f5 J3 λhr=>?_;unfold CS J6 J5 J4
 exists J3,sH bl,QC
def QE:Fs 2 6 ["book","road","place"]:=aQ
def sJ:AT:=(aG (b2 (b2 (aa 1) (aa 2) aj) (cC (Yb (ab 0) (Yb (b2 (aa 1) (b2 (aa 2) (Zb 1) dD) aj) ae)) sI) (bc true)) (ah (kD (.bl false))) ar)
def CT:AT:=(ag (aY (cF (Yb (Zb 1) (Yb (cC (Yb (aa 1) ae) aA) ae)) dg) (ai 2) sJ) (ah (mB (b2 (cC (Yb (aa 1) ae) aA) (Zb 0) eS))))
def lj:AR->Option D:=au 2 3 CT
def J7:aJ P w K mg base 3 2 "is_road" ["book","road"] lj:=by
 exists bl.f6,QE,QD bl
def QF:Fs 2 9 ["kind","rule"]:=aQ
def QG:Cs ["kind","rule"] 9 ["saying"] [none] [("saying",0),("contrary",2)]:=a_
def CU:AW:=cC (Yb (ab 0) ae) hZ
@[simp] def QH:AT:=ah (ab 1)
@[simp] def QI:AT:=ag (aG (b2 (aa 0) (kD (.str "sums")) (ay false)) (ah (aw (Yb (b2 (aa 1) (Zb 0) aj) (Yb (mB (b2 (b2 (aa 1) (Zb 1) aj) (mB (b2 (b2 (cC (Yb (b2 (aa 1) (Zb 0) aj) ae) aA) (Zb 2) aD) (Zb 1) (ay false))) (ay true))) ae)))) ar) QH
def sL:AT:=ag (aG (b2 (aa 0) (kD (.str "eithers")) (ay false)) (ah (cC (Yb (lF (cF (Yb (lF (Yo (b1 (ab 1) Yc) [none] (ai 0) tY (CU))) ae) eU)) ae) ba)) ar) QI
def sM:AR->Option D:=au 2 2 sL
def QJ:aJ P w K mg base 2 2 "exchanged_rule" ["kind","rule"] sM:=by
 exists bl.f9,QF,QG,sH bl
def QK:Fs 1 10 ["book","kind"]:=aQ
def QL:Cs ["book","kind"] 10 ["rule","kind"] [none,some 1] [("rule",0),("exchanged_rule",2),("kind",1)]:=a_
def CV:AW:=cC (Yb (ab 1) (Yb (ab 0) ae)) sM
def J8:AT:=ag (ao 1 (b2 (aa 0) (Zb 0) aj)) (ah (aw (Yb (b1 (aa 1) (qV gt_EXCHANGED_KINDS)) (Yb (cC (Yb (lF (Yo (b1 (b2 (aa 0) (Zb 1) aj) Yc) [none,some 1] (ai 0) tY (CV))) ae) ba) ae))))
def lk:AR->Option D:=au 1 2 J8
def J9:aJ P w K mg base 3 1 "exchanged" ["book"] lk:=by
 exists bl.f10,QK,QL,QJ bl
def QM:Fs 2 12 ["rule","evening"]:=aQ
def QN:Cs ["rule","evening"] 12 ["saying","evening"] [none,some 1] [("saying",0),("evening",1)]:=a_
def CW:AW:=mB (b2 (b2 (aa 1) (b2 (aa 0) (Zb 0) aj) aj) (b2 (aa 0) (Zb 1) aj) (ay false))
def J_:AT:=ah (cC (Yb (lF (Yo (b1 (ab 0) Yc) [none,some 1] (ai 0) tY (CW))) ae) dE)
def sN:AR->Option D:=au 2 2 J_
def QO:aJ P w K mg base 1 2 "either_holds" ["rule","evening"] sN:=by
 exists bl.f12,QM,QN
def QR:Fs 2 13 ["rule","evening","lit_ones"]:=aQ
def QS:Cs ["rule","evening","lit_ones"] 13 ["beacon","evening"] [none,some 1] [("beacon",0),("evening",1)]:=a_
def CY:AV:=b1 (b2 (aa 1) (aa 0) aj) aN
def CZ:AW:=ab 0
def Ka:AT:=ag (aF 2 (Yo (b1 (b2 (aa 0) (Zb 0) aj) Yc) [none,some 1] (ai 0) (CY) (CZ))) (ah (mB (b2 (mB (b2 (b2 (cC (Yb (aa 2) ae) aA) (Zb 2) aD) (Zb 1) (ay false))) (b2 (aa 0) (Zb 1) aj) (ay false))))
def sO:AR->Option D:=au 2 3 Ka
def QT:aJ P w K mg base 1 2 "sum_holds" ["rule","evening"] sO:=by
 exists bl.f13,QR,QS
def QU:Fs 3 14 ["rule","evening","lit"]:=aQ
def QV:Cs ["rule","evening","lit"] 14 ["beacon","evening","lit"] [none,some 1,some 2] [("beacon",0),("evening",1),("lit",1)]:=a_
def C0:AW:=mB (b2 (b2 (aa 1) (aa 0) aj) (aa 2) (ay true))
def sP:AT:=ag (aG (b1 (cC (Yb (lF (Yo (b1 (b2 (aa 0) (Zb 0) aj) Yc) [none,some 1,some 2] (ai 0) tY (C0))) ae) dE) aN) (ah (kD (.bl true))) ar) (ah (bJ (mB (b2 (b2 (aa 0) (Zb 1) aj) (kD .non) (cT true))) (mB (b2 (b2 (aa 1) (b2 (aa 0) (Zb 1) aj) aj) (aa 2) (ay false)))))
def sQ:AR->Option D:=au 3 3 sP
def QW:aJ P w K mg base 1 3 "if_holds" ["rule","evening","lit"] sQ:=by
 exists bl.f14,QU,QV
def QX:Fs 3 15 ["kind","rule","evening"]:=aQ
@[simp] def QY:AT:=ah (cC (Yb (ab 1) (Yb (ab 2) (Yb (mB (b2 (aa 0) (kD (.str "ifs")) (ay false))) ae))) sQ)
@[simp] def QZ:AT:=ag (aG (b2 (aa 0) (kD (.str "sums")) (ay false)) (ah (cC (Yb (ab 1) (Yb (ab 2) ae)) sO)) ar) QY
def oJ:AT:=ag (aG (b2 (aa 0) (kD (.str "eithers")) (ay false)) (ah (cC (Yb (ab 1) (Yb (ab 2) ae)) sN)) ar) QZ
def oK:AR->Option D:=au 3 3 oJ
def Kb:aJ P w K mg base 2 3 "rule_holds" ["kind","rule","evening"] oK:=by
 exists bl.f15,QX,QO bl,QT bl,QW bl
def Q0:Fs 2 16 ["book","evening"]:=aQ
def Q5:Cs ["book","evening"] 16 ["place","rule","book","evening"] [none,none,some 0,some 1] [("place",0),("rule",0),("rule_holds",2),("book",1),("evening",1)]:=a_
def C1:AV:=bG (b1 (cC (Yb (b2 (aa 2) (Zb 0) aj) (Yb (ab 1) (Yb (ab 3) ae))) oK) aN)
def C2:AW:=ab 0
def Kc:AT:=ah (lF (Yo (b1 (b2 (aa 0) (Zb 1) aj) jr) [none,none,some 0,some 1] (mD 0 1) (C1) (C2)))
def sR:AR->Option D:=au 2 2 Kc
def Q6:aJ P w K mg base 3 2 "broken_rules" ["book","evening"] sR:=by
 exists bl.f16,Q0,Q5,Kb bl
def C3:Fs 2 17 ["book","evening"]:=aQ
def Ke:AT:=ah (mB (b2 (cC (Yb (cC (Yb (ab 0) (Yb (ab 1) ae)) sR) ae) aA) (Zb 0) (ay false)))
def sS:AR->Option D:=au 2 2 Ke
def C4:aJ P w K mg base 4 2 "holds" ["book","evening"] sS:=by
 exists bl.f17,C3,Q6 bl
def Q7:Fs 2 18 ["kind","rule"]:=aQ
def Q8:Cs ["kind","rule"] 18 ["saying"] [none] [("saying",0)]:=a_
def C5:AW:=b2 (aa 0) (Zb 0) aj
@[simp] def Q9:AT:=ah (lF (b2 (lF (cF (Yb (b2 (aa 1) (Zb 0) aj) ae) df)) (lF (aV (Yb (b2 (aa 1) (Zb 1) aj) ae))) bV))
@[simp] def Q_:AT:=ag (aG (dO (b2 (aa 0) (kD (.str "sums")) (ay false)) (b2 (b2 (aa 1) (Zb 1) aj) (kD .non) (cT false))) (ah (lF (cF (Yb (b2 (aa 1) (Zb 0) aj) ae) df))) ar) Q9
def sT:AT:=ag (aG (b2 (aa 0) (kD (.str "eithers")) (ay false)) (ah (lF (Yo (b1 (ab 1) Yc) [none] (ai 0) tY (C5)))) ar) Q_
def sU:AR->Option D:=au 2 2 sT
def Ra:aJ P w K mg base 1 2 "beacons_in" ["kind","rule"] sU:=by
 exists bl.f18,Q7,Q8
def Rb:Fs 2 19 ["kind","rule"]:=aQ
def C6:AT:=ah (bJ (mB (b2 (cC (Yb (cC (Yb (ab 0) (Yb (ab 1) ae)) sU) ae) aA) (Zb 0) (ay false))) (fQ (cC (Yb (ab 0) (Yb (ab 1) (Yb (aw ae) ae))) oK)))
def lp:AR->Option D:=au 2 2 C6
def Kf:aJ P w K mg base 3 2 "is_void" ["kind","rule"] lp:=by
 exists bl.f19,Rb,Ra bl,Kb bl
def Rc:Fs 2 20 ["beacons","beacon"]:=aQ
def Re:Cs ["beacons","beacon"] 20 ["other","beacon"] [none,some 1] [("other",0),("beacon",1)]:=a_
def oM:AV:=b2 (aa 0) (aa 1) (ay true)
def oN:AW:=ab 0
def C7:AT:=ah (cC (Yb (lF (Yo (b1 (ab 0) Yc) [none,some 1] (ai 0) (oM) (oN))) ae) ba)
def jW:AR->Option D:=au 2 2 C7
def Kg:aJ P w K mg base 1 2 "without" ["beacons","beacon"] jW:=by
 exists bl.f20,Rc,Re
def Rf:Fs 3 22 ["hands","start","hand"]:=aQ
def Rg:Cs ["hands","start","hand"] 22 ["beacon","hands","hand"] [none,some 0,some 2] [("beacon",0),("hand",1),("hands",1)]:=a_
def C8:AV:=b2 (b2 (aa 1) (aa 0) aj) (aa 2) (ay false)
def C9:AW:=ab 0
def Kh:AT:=ah (lF (Yo (cF (Yb (ab 1) (Yb (cC (Yb (aa 0) ae) aA) ae)) dg) [none,some 0,some 2] (ai 0) (C8) (C9)))
def jX:AR->Option D:=au 3 3 Kh
def Ki:aJ P w K mg base 1 3 "beacons_with" ["hands","start","hand"] jX:=by
 exists bl.f22,Rf,Rg
def Rh:Fs 1 23 ["numbers"]:=aQ
def C_:AT:=(ah (mB (b2 (lF (cF (Yb (aa 0) ae) df)) (lF (m8 (aa 0))) (ay false))))
def iM:AR->Option D:=au 1 1 C_
def Da:aJ P w K mg base 1 1 "is_rising" ["numbers"] iM:=by
 exists bl.f23,Rh
def Ri:Fs 1 25 ["rows"]:=aQ
def Rj:Cs ["rows"] 25 ["row"] [none] [("row",0)]:=a_
def Yq:AW:=(aw (Yb (b2 (aa 0) (Zb 0) aj) (Yb (ab 0) ae)))
def De:AT:=(ah (jT (lF (Yo (b1 (ab 0) Yc) [none] (ai 0) tY (Yq)))))
def jY:AR->Option D:=au 1 1 De
def Kj:aJ P w K mg base 1 1 "rows_by_beacon" ["rows"] jY:=by
 exists bl.f25,Ri,Rj
def Rk:Fs 2 26 ["row","storms"]:=aQ
def sV:AT:=(ah (kL (mB (b2 (b2 (aa 0) (Zb 1) aj) (kD .non) (cT false))) (bJ (mB (b2 (b2 (aa 0) (Zb 1) aj) (aa 1) (bc false))) (mB (b2 (b2 (aa 0) (Zb 1) aj) (b2 (aa 0) (Zb 0) aj) cZ)))))
def sW:AR->Option D:=au 2 2 sV
def Rm:aJ P w K mg base 1 2 "is_plan_row" ["row","storms"] sW:=by
 exists bl.f26,Rk
def Rn:Fs 2 27 ["saying","plan","row"]:=aQ
@[simp] def Rq:AT:=(ah (aw (Yb (b2 (aa 2) (Zb 1) aj) (Yb (mB (b2 (b2 (aa 0) (Zb 1) aj) (b2 (aa 2) (Zb 2) aj) (ay false))) ae))))
@[simp] def Rr:AT:=(ag (ao 2 (b2 (aa 1) (b2 (aa 0) (Zb 0) aj) eW)) Rq)
def Df:AT:=(ag (aG (b2 (b2 (aa 0) (Zb 0) aj) (aa 1) (eX true)) (ah (ab 0)) ar) Rr)
def sX:AR->Option D:=au 2 3 Df
def Rt:aJ P w K mg base 1 2 "come_to" ["saying","plan"] sX:=by
 exists bl.f27,Rn
def Ru:Fs 2 28 ["rule","plan","ends"]:=aQ
def Rw:Cs ["rule","plan","ends"] 28 ["saying","plan"] [none,some 1] [("saying",0),("come_to",2),("plan",1)]:=a_
def Rx:Cs ["rule","plan","ends"] 28 ["end","ends"] [none,some 2] [("end",0),("contrary",2),("ends",1)]:=a_
def Dg:AW:=(cC (Yb (ab 0) (Yb (ab 1) ae)) sX)
def sY:AW:=(kL (mB (b2 (aa 0) (aw (Yb (kD .non) (Yb (kD (.bl true)) ae))) (ay false))) (mB (b2 (cC (Yb (ab 0) ae) hZ) (aa 1) (bc false))))
def Kk:AT:=(ag (aF 2 (Yo (b1 (ab 0) Yc) [none,some 1] (ai 0) tY (Dg))) (wF [2] (ah (cC (Yb (lF (Yo (b1 (ab 2) Yc) [none,some 2] (ai 0) tY (sY))) ae) dE))))
def sZ:AR->Option D:=au 2 3 Kk
def Ry:aJ P w K mg base 2 2 "either_is_kept" ["rule","plan"] sZ:=by
 exists bl.f28,Ru,Rw,Rt bl,Rx,sH bl
def Rz:Fs 4 29 ["rows","book","keepers","storms","plan"]:=aQ
def RA:Cs ["rows","book","keepers","storms","plan"] 29 ["row"] [none] [("row",0)]:=a_
def RB:Cs ["rows","book","keepers","storms","plan"] 29 ["row","storms"] [none,some 3] [("row",0),("is_plan_row",2),("storms",1)]:=a_
def RC:Cs ["rows","book","keepers","storms","plan"] 29 ["rule","plan"] [none,some 4] [("rule",0),("either_is_kept",2),("plan",1)]:=a_
def Dh:AW:=(b2 (aa 0) (Zb 0) aj)
def Di:AW:=(cC (Yb (ab 0) (Yb (ab 1) ae)) sW)
def Dj:AW:=(cC (Yb (ab 0) (Yb (ab 1) ae)) sZ)
@[simp] def RD:AT:=(ah (cC (Yb (lF (Yo (b1 (b2 (aa 1) (Zb 1) aj) Yc) [none,some 4] (ai 0) tY (Dj))) ae) bW))
@[simp] def RE:AT:=(ag (ao 4 (cC (Yb (ab 0) ae) jY)) RD)
def s_:AT:=(ag (aG (dO (b2 (lF (Yo (b1 (ab 0) Yc) [none] (ai 0) tY (Dh))) (aa 2) (ay true)) (bG (b1 (cC (Yb (lF (Yo (b1 (ab 0) Yc) [none,some 3] (ai 0) tY (Di))) ae) bW) aN))) (ah (kD (.bl false))) ar) RE)
def tf:AR->Option D:=au 4 5 s_
def RF:aJ P w K mg base 3 4 "plan_good" ["rows","book","keepers","storms"] tf:=by
 exists bl.f29,Rz,RA,RB,Rm bl,Kj bl,RC,Ry bl
def RH:Fs 2 30 ["row","storms"]:=aQ
def RI:Cs ["row","storms"] 30 ["beacon","storms","row"] [none,some 1,some 0] [("beacon",0),("row",1),("storms",1)]:=a_
def tj:AW:=(bJ (mB (b2 (aa 0) (aa 1) (bc false))) (mB (b2 (aa 0) (b2 (aa 2) (Zb 0) aj) cZ)))
def Dk:AT:=(ah (bJ (cC (Yb (b2 (aa 0) (Zb 1) aj) ae) iM) (cC (Yb (lF (Yo (b1 (b2 (aa 0) (Zb 1) aj) Yc) [none,some 1,some 0] (ai 0) tY (tj))) ae) bW)))
def tm:AR->Option D:=au 2 2 Dk
def RJ:aJ P w K mg base 2 2 "is_sum_row" ["row","storms"] tm:=by
 exists bl.f30,RH,Da bl,RI
def RK:Fs 2 31 ["rule","sums","whole","beacon","row"]:=aQ
def Dl:AT:=ag (ao 4 (b3 (aa 1) (aa 3) (aw (Yb (ab 3) (Yb (aw (Yb (ab 3) ae)) (Yb (kD (.bl false)) ae)))) k0)) (ao 2 (cC (Yb (ab 2) (Yb (aw (Yb (b2 (aa 4) (Zb 1) aj) (Yb (b2 (aa 4) (Zb 2) aj) ae))) ae)) jV))
@[simp] def RM:AT:=ah (ab 2)
@[simp] def RN:AT:=ag (aY (b1 (b2 (aa 0) (Zb 0) aj) Yc) (ai 3) Dl) RM
def Kl:AT:=ag (ao 2 (aw (Yb (aw ae) (Yb (kD (.bl false)) ae)))) RN
def tq:AR->Option D:=au 2 5 Kl
def RO:aJ P w K mg base 2 2 "replaced" ["rule","sums"] tq:=by
 exists bl.f31,RK,J0 bl
def RP:Fs 4 32 ["rows","book","keepers","storms","sums"]:=aQ
def RQ:Cs ["rows","book","keepers","storms","sums"] 32 ["row"] [none] [("row",0)]:=a_
def RS:Cs ["rows","book","keepers","storms","sums"] 32 ["row","storms"] [none,some 3] [("row",0),("is_sum_row",2),("storms",1)]:=a_
def RT:Cs ["rows","book","keepers","storms","sums"] 32 ["rule","sums"] [none,some 4] [("rule",0),("replaced",2),("sums",1)]:=a_
def Dm:AW:=(b2 (aa 0) (Zb 0) aj)
def Dn:AW:=(cC (Yb (ab 0) (Yb (ab 1) ae)) tm)
def Do:AW:=(mB (b2 (cC (Yb (ab 0) (Yb (ab 1) ae)) tq) (aw (Yb (aw ae) (Yb (b2 (aa 0) (Zb 1) aj) ae))) (ay false)))
@[simp] def RU:AT:=(ah (cC (Yb (lF (Yo (b1 (b2 (aa 1) (Zb 1) aj) Yc) [none,some 4] (ai 0) tY (Do))) ae) bW))
@[simp] def RV:AT:=(ag (ao 4 (cC (Yb (ab 0) ae) jY)) RU)
def tr:AT:=(ag (aG (dO (b2 (lF (Yo (b1 (ab 0) Yc) [none] (ai 0) tY (Dm))) (aa 2) (ay true)) (bG (b1 (cC (Yb (lF (Yo (b1 (ab 0) Yc) [none,some 3] (ai 0) tY (Dn))) ae) bW) aN))) (ah (kD (.bl false))) ar) RV)
def ts:AR->Option D:=au 4 5 tr
def RW:aJ P w K mg base 3 4 "sums_good" ["rows","book","keepers","storms"] ts:=by
 exists bl.f32,RP,RQ,RS,RJ bl,Kj bl,RT,RO bl
def RX:Fs 2 33 ["beacons","others"]:=aQ
def RY:Cs ["beacons","others"] 33 ["beacon","others"] [none,some 1] [("beacon",0),("others",1)]:=a_
def Dp:AW:=(mB (b2 (aa 0) (aa 1) (bc false)))
def Dq:AT:=(ah (bJ (cC (Yb (ab 0) ae) iM) (cC (Yb (lF (Yo (b1 (ab 0) Yc) [none,some 1] (ai 0) tY (Dp))) ae) bW)))
def oO:AR->Option D:=au 2 2 Dq
def Km:aJ P w K mg base 2 2 "are_some_of" ["beacons","others"] oO:=by
 exists bl.f33,RX,Da bl,RY
def RZ:Fs 2 34 ["beacons","beacon"]:=aQ
def R0:Cs ["beacons","beacon"] 34 ["other","beacon"] [none,some 1] [("other",0),("beacon",1)]:=a_
def Dr:AV:=b2 (aa 0) (aa 1) cZ
def Ds:AW:=ab 0
def Kn:AT:=ah (lF (Yo (b1 (ab 0) Yc) [none,some 1] (ai 0) (Dr) (Ds)))
def oP:AR->Option D:=au 2 2 Kn
def R3:aJ P w K mg base 1 2 "ahead_of" ["beacons","beacon"] oP:=by
 exists bl.f34,RZ,R0
def R4:Fs 3 35 ["row","first","keepers"]:=aQ
def Dt:AT:=(ah (bJ (cC (Yb (b2 (aa 0) (Zb 1) aj) (Yb (ab 2) ae)) oO) (mB (b2 (cC (Yb (b2 (aa 0) (Zb 1) aj) (Yb (b2 (aa 0) (Zb 0) aj) ae)) oP) (cC (Yb (ab 1) (Yb (b2 (aa 0) (Zb 0) aj) ae)) oP) (ay false)))))
def tv:AR->Option D:=au 3 3 Dt
def R5:aJ P w K mg base 3 3 "is_row" ["row","first","keepers"] tv:=by
 exists bl.f35,R4,Km bl,R3 bl
def R6:Fs 3 36 ["book","lit","count"]:=aQ
def R7:Cs ["book","lit","count"] 36 ["beacon","lit"] [none,some 1] [("beacon",0),("lit",1)]:=a_
def Du:AW:=(mB (b2 (aa 0) (aa 1) (bc false)))
def Ko:AT:=(ah (cC (Yb (ab 0) (Yb (lF (Yo (cF (Yb (ab 2) ae) bx) [none,some 1] (ai 0) tY (Du))) ae)) sS))
def tw:AR->Option D:=au 3 3 Ko
def R8:aJ P w K mg base 5 3 "holds_where_lit" ["book","lit","count"] tw:=by
 exists bl.f36,R6,C4 bl,R7
def Kq:Fs 6 37 ["first","rows","book","keepers","storms","count","lit_ones"]:=aQ
def R9:Cs ["first","rows","book","keepers","storms","count","lit_ones"] 37 ["row"] [none] [("row",0)]:=a_
def R_:Cs ["first","rows","book","keepers","storms","count","lit_ones"] 37 ["row","first","keepers"] [none,some 0,some 3] [("row",0),("is_row",2),("first",1),("keepers",1)]:=a_
def Sa:Cs ["first","rows","book","keepers","storms","count","lit_ones"] 37 ["row","storms"] [none,some 4] [("row",0),("list",2),("without",2),("storms",1)]:=a_
def Sb:Cs ["first","rows","book","keepers","storms","count","lit_ones"] 37 ["lit","book","count"] [none,some 2,some 5] [("lit",0),("holds_where_lit",2),("book",1),("count",1)]:=a_
def Dv:AW:=(b2 (aa 0) (Zb 0) aj)
def Dw:AW:=(cC (Yb (ab 0) (Yb (ab 1) (Yb (ab 2) ae))) tv)
def Dx:AW:=(lF (b2 (lF (cF (Yb (cC (Yb (ab 1) (Yb (b2 (aa 0) (Zb 0) aj) ae)) jW) ae) df)) (lF (cF (Yb (b2 (aa 0) (Zb 1) aj) ae) df)) bV))
def Dy:AW:=(cC (Yb (ab 1) (Yb (ab 0) (Yb (ab 2) ae))) tw)
@[simp] def Kr:AT:=(wF [6] (ah (cC (Yb (lF (Yo (b1 (ab 6) Yc) [none,some 2,some 5] (ai 0) tY (Dy))) ae) bW)))
@[simp] def Ks:AT:=(ag (aF 6 (b2 (lF (aV (Yb (lF (b2 (aa 4) (lF (cF (Yb (aa 0) ae) df)) bV)) ae))) (lF (Yo (b1 (ab 1) Yc) [none,some 4] (ai 0) tY (Dx))) bV)) Kr)
@[simp] def Kt:AT:=(ag (aG (bG (b1 (cC (Yb (lF (Yo (b1 (ab 1) Yc) [none,some 0,some 3] (ai 0) tY (Dw))) ae) bW) aN)) (ah (kD (.bl false))) ar) Ks)
def lq:AT:=(ag (aG (dO (bG (b1 (cC (Yb (ab 0) (Yb (ab 3) ae)) oO) aN)) (b2 (lF (Yo (b1 (ab 1) Yc) [none] (ai 0) tY (Dv))) (aa 4) (ay true))) (ah (kD (.bl false))) ar) Kt)
def tB:AR->Option D:=au 6 7 lq
def Sd:aJ P w K mg base 6 6 "rows_good" ["first","rows","book","keepers","storms","count"] tB:=by
 refine bQ bl.f37 Kq λhr=>?_;unfold lq Kt Ks Kr
 exists Km bl,R9,R_,R5 bl,Kq,Sa,Kg bl,Sb,R8 bl
def Ku:Fs 4 38 ["paper","book","hands","start","keepers","storms"]:=aQ
def oQ(a:AR->Option D):AT:=(ag (aG (b2 (b2 (aa 1) (Zb 0) aj) (kD (.str "nots")) (ay false)) (ah (cC (Yb (ab 0) (Yb (cC (Yb (ab 1) ae) lk) (Yb (ab 2) (Yb (ab 3) ae)))) a)) ar) (ag (ao 4 (cC (Yb (ab 2) (Yb (ab 3) (Yb (kD (.str "keeper")) ae))) jX)) (ag (ao 5 (cC (Yb (ab 2) (Yb (ab 3) (Yb (kD (.str "storm")) ae))) jX)) (ag (aG (aU (b2 (b2 (aa 0) (Zb 0) aj) (kD (.str "plan")) (ay false)) (b2 (b2 (aa 1) (Zb 0) aj) (kD (.str "eithers")) (ay false))) (ah (cC (Yb (b2 (aa 0) (Zb 1) aj) (Yb (ab 1) (Yb (ab 4) (Yb (ab 5) ae)))) tf)) ar) (ag (aG (aU (b2 (b2 (aa 0) (Zb 0) aj) (kD (.str "sums")) (ay false)) (b2 (b2 (aa 1) (Zb 0) aj) (kD (.str "sums")) (ay false))) (ah (cC (Yb (b2 (aa 0) (Zb 1) aj) (Yb (ab 1) (Yb (ab 4) (Yb (ab 5) ae)))) ts)) ar) (ag (aG (aU (b2 (b2 (aa 0) (Zb 0) aj) (kD (.str "rows")) (ay false)) (b2 (b2 (aa 1) (Zb 0) aj) (kD (.str "ifs")) (ay false))) (ah (cC (Yb (b2 (aa 0) (Zb 1) aj) (Yb (b2 (aa 0) (Zb 2) aj) (Yb (ab 1) (Yb (ab 4) (Yb (ab 5) (Yb (cC (Yb (aa 2) ae) aA) ae)))))) tB)) ar) (ah (kD (.bl false)))))))))
def Ys:Nat->AR->Option D
 | 0=>λ_=>none
 | k+1=>au 4 6 (oQ (Ys k))
def Yx:AR->Option D:=Ys 12
def Se(bl:Bl K w mg){k j:Nat}(rc:aJ P w K mg base k 4 "keeper_good" ["paper","book","hands","start"] (Ys j))(hk:6<=k):aJ P w K mg base (k+1) 4 "keeper_good" ["paper","book","hands","start"] (Ys (j+1)):=by
 refine bQ bl.f38 Ku λhr=>?_
 exists J9 bl,Ku,Ki bl,RF bl,RW bl,Sd bl
def Sf:aJ P w K mg base 18 4 "keeper_good" ["paper","book","hands","start"] Yx:=jU (L:=6) (mr:=Ys) bl.f38 rfl (Se bl) (j:=12)
def Sg:Fs 2 40 ["book","place"]:=aQ
def Dz:AT:=ah (mB (qX (Zb 0) (aa 1) (cC (Yb (b2 (aa 0) (Zb 1) aj) ae) aA) HX cZ))
def iN:AR->Option D:=au 2 2 Dz
def DA:aJ P w K mg base 1 2 "is_place" ["book","place"] iN:=by
 exists bl.f40,Sg
def Sh:Fs 2 41 ["rule","known"]:=aQ
def Si:Cs ["rule","known"] 41 ["beacon","known"] [none,some 1] [("beacon",0),("known",1)]:=a_
def DB:AW:=(mB (b2 (aa 0) (aa 1) (bc false)))
def Kv:AT:=ah (cC (Yb (lF (Yo (b1 (b2 (aa 0) (Zb 0) aj) Yc) [none,some 1] (ai 0) tY (DB))) ae) bW)
def oR:AR->Option D:=au 2 2 Kv
def Kw:aJ P w K mg base 1 2 "body_is_known" ["rule","known"] oR:=by
 exists bl.f41,Sh,Si
def Sj:Fs 3 42 ["book","known","place","rule"]:=aQ
@[simp] def Sk:AT:=ah (bJ (mB (b2 (b2 (aa 3) (Zb 1) aj) (kD .non) (cT true))) (cC (Yb (ab 3) (Yb (ab 1) ae)) oR))
@[simp] def Sl:AT:=ag (ao 3 (b2 (b2 (aa 0) (Zb 1) aj) (aa 2) aj)) Sk
def tD:AT:=ag (aG (bG (b1 (cC (Yb (ab 0) (Yb (ab 2) ae)) iN) aN)) (ah (kD (.bl false))) ar) Sl
def tE:AR->Option D:=au 3 4 tD
def Sn:aJ P w K mg base 2 3 "is_step" ["book","known","place"] tE:=by
 exists bl.f42,Sj,DA bl,Kw bl
def So:Fs 3 43 ["book","facts","places","known","place"]:=aQ
def lr:AT:=(ag (aG (mU [3] (bG (b1 (cC (Yb (ab 0) (Yb (ab 3) (Yb (ab 4) ae))) tE) aN))) (ah (kD (.bl false))) ar) (bp 3 (b2 (b2 (b2 (aa 0) (Zb 1) aj) (aa 4) aj) (Zb 1) aj) aT))
@[simp] def Sq:AT:=(ah (kD (.bl true)))
@[simp] def Sr:AT:=(ag (aY (b1 (ab 2) Yc) (ai 4) lr) Sq)
def DC:AT:=(ag (aF 3 (cF (Yb (aa 1) ae) df)) Sr)
def oS:AR->Option D:=au 3 5 DC
def Kx:aJ P w K mg base 3 3 "is_derivation" ["book","facts","places"] oS:=by
 exists bl.f43,So,Sn bl
def Ss:Fs 3 44 ["book","facts","places","heads"]:=aQ
def Su:Cs ["book","facts","places","heads"] 44 ["place","book"] [none,some 0] [("place",0),("book",1)]:=a_
def DD:AW:=(b2 (b2 (b2 (aa 1) (Zb 1) aj) (aa 0) aj) (Zb 1) aj)
def Ky:AT:=(ag (aF 3 (Yo (b1 (ab 2) Yc) [none,some 0] (ai 0) tY (DD))) (ah (lF (m8 (lF (b2 (lF (cF (Yb (aa 1) ae) df)) (aa 3) bV))))))
def tF:AR->Option D:=au 3 4 Ky
def Sv:aJ P w K mg base 1 3 "derived" ["book","facts","places"] tF:=by
 exists bl.f44,Ss,Su
def Sw:Fs 1 46 ["book"]:=aQ
def Sx:Cs ["book"] 46 ["rule","book"] [none,some 0] [("rule",0),("is_void",2),("book",1)]:=a_
def DE:AW:=cC (Yb (b2 (aa 1) (Zb 0) aj) (Yb (ab 0) ae)) lp
def Kz:AT:=ah (cC (Yb (lF (Yo (b1 (b2 (aa 0) (Zb 1) aj) Yc) [none,some 0] (ai 0) tY (DE))) ae) dE)
def tG:AR->Option D:=au 1 1 Kz
def Sy:aJ P w K mg base 4 1 "is_broken" ["book"] tG:=by
 exists bl.f46,Sw,Sx,Kf bl
def Sz:Fs 3 47 ["book","road","other"]:=aQ
def Yy:AT:=(ag (aG (dO (bG (b1 (cC (Yb (ab 0) (Yb (ab 1) ae)) lj) aN)) (bG (b1 (cC (Yb (ab 0) (Yb (ab 2) ae)) lj) aN))) (ah (kD (.bl false))) ar) (ah (bJ (mB (b2 (b2 (aa 1) (b1 (Zb 1) bU) aj) (b2 (aa 2) (Zb 0) aj) (ay false))) (mB (b2 (b2 (aa 2) (b1 (Zb 1) bU) aj) (b2 (aa 1) (Zb 0) aj) (ay false))))))
def Yz:AR->Option D:=au 3 3 Yy
def KA:aJ P w K mg base 4 3 "lead_there_and_back" ["book","road","other"] Yz:=by
 exists bl.f47,Sz,J7 bl
def SA:Fs 3 48 ["road","other","book"]:=aQ
def DF:AT:=(ah (bJ (cC (Yb (ab 2) (Yb (ab 0) (Yb (ab 1) ae))) Yz) (mB (b2 (b2 (aa 0) (b1 (Zb 1) bU) aj) (cC (Yb (b2 (aa 0) (Zb 0) aj) ae) hZ) (ay false)))))
def tH:AR->Option D:=au 3 3 DF
def SB:aJ P w K mg base 5 3 "clash_good" ["road","other","book"] tH:=by
 exists bl.f48,SA,KA bl,sH bl
def SC:Fs 3 49 ["road","book","storms"]:=aQ
def oT:AT:=(ag (aG (dO (bG (b1 (cC (Yb (ab 1) (Yb (ab 0) ae)) lj) aN)) (b2 (b2 (aa 0) (Zb 0) aj) (b2 (aa 0) (b1 (Zb 1) bU) aj) (ay false))) (ah (kD (.bl false))) ar) (ah (bJ (mB (b2 (b2 (b2 (aa 0) (Zb 0) aj) (Zb 0) aj) (aa 2) (bc false))) (mB (b2 (b2 (b2 (aa 0) (b1 (Zb 1) bU) aj) (Zb 0) aj) (aa 2) (bc false))))))
def tI:AR->Option D:=au 3 3 oT
def SF:aJ P w K mg base 4 3 "cross_good" ["road","book","storms"] tI:=by
 exists bl.f49,SC,J7 bl
def SG:Fs 5 50 ["road","other","book","keepers","storms"]:=aQ
def oU:AT:=(ag (aG (bG (b1 (cC (Yb (ab 2) (Yb (ab 0) (Yb (ab 1) ae))) Yz) aN)) (ah (kD (.bl false))) ar) (ah (bJ (mB (b2 (b2 (b2 (aa 0) (Zb 0) aj) (Zb 0) aj) (aa 4) (bc false))) (bJ (mB (b2 (b2 (b2 (aa 0) (b1 (Zb 1) bU) aj) (Zb 0) aj) (aa 3) (bc false))) (mB (b2 (b2 (b2 (aa 0) (b1 (Zb 1) bU) aj) (Zb 0) aj) (b2 (b2 (aa 0) (Zb 0) aj) (Zb 0) aj) cZ))))))
def tJ:AR->Option D:=au 5 5 oU
def SH:aJ P w K mg base 5 5 "late_good" ["road","other","book","keepers","storms"] tJ:=by
 exists bl.f50,SG,KA bl
def SI:Fs 3 51 ["places","book","storms","whole"]:=aQ
def SJ:Cs ["places","book","storms","whole"] 51 ["place","book"] [none,some 1] [("place",0),("is_place",2),("book",1)]:=a_
def DG:AW:=(cC (Yb (ab 1) (Yb (ab 0) ae)) iN)
@[simp] def SK:AT:=(ah (cC (Yb (b2 (aa 1) (Zb 0) aj) (Yb (ab 3) ae)) lp))
@[simp] def SM:AT:=(ag (aG (b1 (b2 (aa 3) (Zb 0) aj) aN) (ah (mB (b2 (b2 (b2 (aa 3) (Zb 0) aj) (b1 (Zb 1) bU) aj) (aa 2) (bc false)))) ar) SK)
@[simp] def SN:AT:=(ag (ao 3 (cC (Yb (ab 1) (Yb (ab 0) ae)) oH)) SM)
def oV:AT:=(ag (aG (dO (bG (b1 (cC (Yb (ab 0) ae) iM) aN)) (bG (b1 (cC (Yb (lF (Yo (b1 (ab 0) Yc) [none,some 1] (ai 0) tY (DG))) ae) bW) aN))) (ah (kD (.bl false))) ar) SN)
def tL:AR->Option D:=au 3 4 oV
def SO:aJ P w K mg base 4 3 "odd_good" ["places","book","storms"] tL:=by
 exists bl.f51,SI,Da bl,SJ,DA bl,CO bl,Kf bl
def KC:Fs 4 52 ["beacon","places","book","keepers","heads"]:=aQ
def SQ:Cs ["beacon","places","book","keepers","heads"] 52 ["place","book"] [none,some 2] [("place",0),("book",1)]:=a_
def SU:Cs ["beacon","places","book","keepers","heads"] 52 ["keeper","beacon","heads"] [none,some 0,some 4] [("keeper",0),("beacon",1),("heads",1)]:=a_
def DH:AW:=(b2 (b2 (b2 (aa 1) (Zb 1) aj) (aa 0) aj) (Zb 1) aj)
def DI:AV:=(aU (b2 (aa 0) (aa 1) cZ) (b2 (aa 0) (aa 2) (bc false)))
def DJ:AW:=(ab 0)
@[simp] def KE:AT:=(wF [4] (ah (lF (Yo (b1 (ab 3) Yc) [none,some 0,some 4] (ai 0) (DI) (DJ)))))
@[simp] def KF:AT:=(ag (aF 4 (Yo (b1 (ab 1) Yc) [none,some 2] (ai 0) tY (DH))) KE)
def tM:AT:=(ag (aG (b2 (aa 0) (kD .non) (cT false)) (ah (lF (aV ae))) ar) KF)
def tN:AR->Option D:=au 4 5 tM
def SV:aJ P w K mg base 1 4 "first_ones" ["beacon","places","book","keepers"] tN:=by
 refine bQ bl.f52 KC λhr=>?_;unfold tM KF KE
 exists KC,SQ,SU
def SW:Fs 4 53 ["beacon","places","book","storms"]:=aQ
def DK:AT:=(ag (aG (b2 (aa 0) (kD .non) (cT false)) (ah (mB (b2 (cC (Yb (aa 1) ae) aA) (Zb 0) (ay false)))) ar) (ah (bJ (mB (b2 (aa 0) (aa 3) (bc false))) (cC (Yb (ab 2) (Yb (ab 3) (Yb (ab 1) ae))) oS))))
def tP:AR->Option D:=au 4 4 DK
def SX:aJ P w K mg base 4 4 "is_first_part" ["beacon","places","book","storms"] tP:=by
 exists bl.f53,SW,Kx bl
def SY:Fs 4 54 ["beacon","places","book","facts","rule","known"]:=aQ
@[simp] def SZ:AT:=(ah (bJ (cC (Yb (ab 4) (Yb (ab 5) ae)) oR) (mB (b2 (b2 (aa 4) (Zb 1) aj) (aw (Yb (kD .non) (Yb (ab 0) ae))) (bc false)))))
@[simp] def S0:AT:=(ag (ao 5 (cC (Yb (ab 2) (Yb (ab 3) (Yb (ra (aa 1) none (some (b1 (Zb 1) bU))) ae))) tF)) SZ)
@[simp] def S3:AT:=(ag (ao 4 (b2 (b2 (aa 2) (Zb 1) aj) (b2 (aa 1) (b1 (Zb 1) bU) aj) aj)) S0)
def oW:AT:=(ag (aG (dO (b2 (cC (Yb (aa 1) ae) aA) (Zb 0) (ay false)) (dO (bG (b1 (cC (Yb (ab 2) (Yb (b2 (aa 1) (b1 (Zb 1) bU) aj) ae)) iN) aN)) (bG (b1 (cC (Yb (ab 2) (Yb (ab 3) (Yb (ra (aa 1) none (some (b1 (Zb 1) bU))) ae))) oS) aN)))) (ah (kD (.bl false))) ar) S3)
def tQ:AR->Option D:=au 4 6 oW
def S4:aJ P w K mg base 4 4 "is_last_part" ["beacon","places","book","facts"] tQ:=by
 exists bl.f54,SY,DA bl,Kx bl,Sv bl,Kw bl
def KG:Fs 4 55 ["paper","book","keepers","storms","beacon","facts"]:=aQ
@[simp] def KH:AT:=(wF [5] (ah (cC (Yb (ab 4) (Yb (b2 (aa 0) (Zb 3) aj) (Yb (ab 1) (Yb (ab 5) ae)))) tQ)))
@[simp] def KI:AT:=(ag (aF 5 (b2 (lF (cF (Yb (cC (Yb (ab 3) (Yb (ab 4) ae)) jW) ae) df)) (cC (Yb (ab 4) (Yb (b2 (aa 0) (Zb 2) aj) (Yb (ab 1) (Yb (ab 2) ae)))) tN) bV)) KH)
@[simp] def KJ:AT:=(ag (aG (bG (b1 (cC (Yb (ab 4) (Yb (b2 (aa 0) (Zb 2) aj) (Yb (ab 1) (Yb (ab 3) ae)))) tP) aN)) (ah (kD (.bl false))) ar) KI)
def tR:AT:=(ag (ao 4 (b2 (aa 0) (Zb 1) aj)) KJ)
def tS:AR->Option D:=au 4 6 tR
def S5:aJ P w K mg base 5 4 "lone_good" ["paper","book","keepers","storms"] tS:=by
 refine bQ bl.f55 KG λhr=>?_;unfold tR KJ KI KH
 exists KG,SX bl,Kg bl,SV bl,S4 bl
def S6:Fs 4 56 ["paper","book","keepers","storms"]:=aQ
@[simp] def S7:AT:=(ah (kD (.bl false)))
@[simp] def S8:AT:=(ag (aG (b2 (b2 (aa 0) (Zb 0) aj) (kD (.str "late")) (ay false)) (ah (cC (Yb (b2 (aa 0) (Zb 1) aj) (Yb (b2 (aa 0) (Zb 2) aj) (Yb (ab 1) (Yb (ab 2) (Yb (ab 3) ae))))) tJ)) ar) S7)
@[simp] def S9:AT:=(ag (aG (b2 (b2 (aa 0) (Zb 0) aj) (kD (.str "cross")) (ay false)) (ah (cC (Yb (b2 (aa 0) (Zb 1) aj) (Yb (ab 1) (Yb (ab 3) ae))) tI)) ar) S8)
def tU:AT:=(ag (aG (b2 (b2 (aa 0) (Zb 0) aj) (kD (.str "clash")) (ay false)) (ah (cC (Yb (b2 (aa 0) (Zb 1) aj) (Yb (b2 (aa 0) (Zb 2) aj) (Yb (ab 1) ae))) tH)) ar) S9)
def Yl:AR->Option D:=au 4 4 tU
def S_:aJ P w K mg base 6 4 "either_paper_good" ["paper","book","keepers","storms"] Yl:=by
 exists bl.f56,S6,SB bl,SF bl,SH bl
def KM:Fs 4 57 ["paper","book","hands","start","keepers","storms"]:=aQ
def jZ(rec:AR->Option D):AT:=(ag (aG (b2 (b2 (aa 1) (Zb 0) aj) (kD (.str "nots")) (ay false)) (ah (cC (Yb (ab 0) (Yb (cC (Yb (ab 1) ae) lk) (Yb (ab 2) (Yb (ab 3) ae)))) rec)) ar) (ag (ao 4 (cC (Yb (ab 2) (Yb (ab 3) (Yb (kD (.str "keeper")) ae))) jX)) (ag (ao 5 (cC (Yb (ab 2) (Yb (ab 3) (Yb (kD (.str "storm")) ae))) jX)) (ag (aG (b2 (b2 (aa 0) (Zb 0) aj) (kD (.str "broken")) (ay false)) (ah (cC (Yb (ab 1) ae) tG)) ar) (ag (aG (b2 (b2 (aa 1) (Zb 0) aj) (kD (.str "eithers")) (ay false)) (ah (cC (Yb (ab 0) (Yb (ab 1) (Yb (ab 4) (Yb (ab 5) ae)))) Yl)) ar) (ag (aG (aU (b2 (b2 (aa 0) (Zb 0) aj) (kD (.str "odd")) (ay false)) (b2 (b2 (aa 1) (Zb 0) aj) (kD (.str "sums")) (ay false))) (ah (cC (Yb (b2 (aa 0) (Zb 1) aj) (Yb (ab 1) (Yb (ab 5) ae))) tL)) ar) (ag (aG (aU (b2 (b2 (aa 0) (Zb 0) aj) (kD (.str "lone")) (ay false)) (b2 (b2 (aa 1) (Zb 0) aj) (kD (.str "ifs")) (ay false))) (ah (cC (Yb (ab 0) (Yb (ab 1) (Yb (ab 4) (Yb (ab 5) ae)))) tS)) ar) (ah (kD (.bl false))))))))))
def Yp:Nat->AR->Option D
 | 0=>λ_=>none
 | k+1=>au 4 6 (jZ (Yp k))
def gb:AR->Option D:=Yp 12
def Ta(bl:Bl K w mg){k j:Nat}(rc:aJ P w K mg base k 4 "storm_good" ["paper","book","hands","start"] (Yp j))(hk:6<=k):aJ P w K mg base (k+1) 4 "storm_good" ["paper","book","hands","start"] (Yp (j+1)):=by
 refine bQ bl.f57 KM λhr=>?_
 exists J9 bl,KM,Ki bl,Sy bl,S_ bl,SO bl,S5 bl
def Tb:aJ P w K mg base 18 4 "storm_good" ["paper","book","hands","start"] gb:=jU (L:=6) (mr:=Yp) bl.f57 rfl (Ta bl) (j:=12)
def DL:Fs 5 59 ["paper","book","hands","start","hand"]:=aQ
def DM:AT:=(ag (aG (b2 (aa 4) (kD (.str "keeper")) (ay false)) (ah (cC (Yb (ab 0) (Yb (ab 1) (Yb (ab 2) (Yb (ab 3) ae)))) Yx)) ar) (ah (cC (Yb (ab 0) (Yb (ab 1) (Yb (ab 2) (Yb (ab 3) ae)))) gb)))
def j0:AR->Option D:=au 5 5 DM
def DN:aJ P w K mg base 19 5 "good" ["paper","book","hands","start","hand"] j0:=by
 exists bl.f59,DL,Sf bl,Tb bl
def Tc:Fs 2 61 ["script","k"]:=aQ
def DO:AT:=ag (aG (b2 (aa 1) (cC (Yb (aa 0) ae) aA) cZ) (ah (b2 (aa 0) (aa 1) aj)) ar) (ah (Zb 0))
def h7:AR->Option D:=au 2 2 DO
def KN:aJ P w K mg base 1 2 "_law_cell" ["script","k"] h7:=by
 exists bl.f61,Tc
def Td:Fs 2 62 ["cell","by"]:=aQ
def KO:AT:=ah (b2 (b2 (b2 (aa 0) (Zb 2305843009213693951) aD) (aa 1) fP) (Zb 2305843009213693951) aD)
def Yr:AR->Option D:=au 2 2 KO
def j3:aJ P w K mg base 1 2 "_law_mixed" ["cell","by"] Yr:=by
 exists bl.f62,Td
def Te:Fs 2 63 ["cell","many","left"]:=aQ
def Tf:Cs ["cell","many","left"] 63 ["k","left"] [none,some 2] [("k",0),("left",1)]:=a_
def tV:AW:=b2 (lF (aV (Yb (kD (.str "keeper")) (Yb (kD (.str "storm")) ae)))) (b2 (b2 (aa 1) (aa 0) cB) (Zb 2) aD) aj
def KP:AT:=ag (ao 2 (cC (Yb (ab 0) (Yb (Zb 1442695040888963407) ae)) Yr)) (ah (cC (Yb (lF (Yo (cF (Yb (ab 1) ae) bx) [none,some 2] (ai 0) tY (tV))) ae) ba))
def tW:AR->Option D:=au 2 3 KP
def Tg:aJ P w K mg base 2 2 "_law_hands" ["cell","many"] tW:=by
 exists bl.f63,Te,j3 bl,Tf
def Th:Fs 3 64 ["hands","start","hand"]:=aQ
def Ti:Cs ["hands","start","hand"] 64 ["beacon","hands","hand"] [none,some 0,some 2] [("beacon",0),("hand",1),("hands",1)]:=a_
def DP:AV:=(b2 (b2 (aa 1) (aa 0) aj) (aa 2) (ay false))
def DR:AW:=(ab 0)
def KQ:AT:=(ah (lF (Yo (cF (Yb (ab 1) (Yb (cC (Yb (aa 0) ae) aA) ae)) dg) [none,some 0,some 2] (ai 0) (DP) (DR))))
def eJ:AR->Option D:=au 3 3 KQ
def j4:aJ P w K mg base 1 3 "_law_own" ["hands","start","hand"] eJ:=by
 exists bl.f64,Th,Ti
def aBa:Fs 4 65 ["kind","cell","start","many","left","size","picked","k"]:=aQ
def aAa:Cs ["kind","cell","start","many","left","size","picked","k"] 65 ["k","picked","left"] [none,some 6,some 4] [("k",0),("left",1),("picked",1)]:=a_
def oX:AT:=ag (aG (b2 (b2 (aa 2) (b2 (aa 4) (b2 (aa 3) (aa 2) dD) aD) cN) (aa 6) (bc true)) (bp 6 (b2 (aa 2) (b2 (aa 4) (b2 (aa 3) (aa 2) dD) aD) cN) aT) ar) (ao 4 (b2 (aa 4) (b2 (aa 3) (aa 2) dD) cv))
def tX:AW:=aw (Yb (b2 (aa 1) (aa 0) aj) (Yb (mB (b2 (b2 (b2 (aa 2) (aa 0) cB) (Zb 2) aD) (Zb 1) (ay false))) ae))
@[simp] def Tj:AT:=ah (aw (Yb (cC (Yb (lF (cF (Yb (aa 6) ae) eU)) ae) ba) (Yb (b2 (aa 2) (b2 (b2 (aa 4) (Zb 4) cv) (b2 (aa 3) (aa 2) dD) aD) cN) ae)))
@[simp] def Tn:AT:=ag (aG (b2 (b2 (aa 4) (Zb 4) aD) (Zb 1) (ay false)) (aF 6 (jn (aa 6) (some (Zb 1)) none)) ar) Tj
@[simp] def To:AT:=ag (aG (b2 (b2 (aa 4) (Zb 4) aD) (Zb 0) (ay false)) (ah (aw (Yb (cC (Yb (lF (cF (Yb (aa 6) ae) eU)) ae) ba) (Yb (kD .non) ae)))) ar) Tn
@[simp] def tZ:AT:=ag (aG (b2 (aa 0) (kD (.str "sums")) (ay false)) (ah (aw (Yb (cC (Yb (lF (cF (Yb (aa 6) ae) eU)) ae) ba) (Yb (mB (b2 (b2 (aa 4) (Zb 2) aD) (Zb 1) (ay false))) ae)))) ar) To
@[simp] def Tp:AT:=ag (aG (b2 (aa 0) (kD (.str "eithers")) (ay false)) (wF [6] (ah (cC (Yb (lF (cF (Yb (lF (Yo (cF (Yb (cC (Yb (aa 6) ae) aA) ae) bx) [none,some 6,some 4] (ai 0) tY (tX))) ae) eU)) ae) ba))) ar) tZ
@[simp] def Tq:AT:=ag (aY (cF (Yb (ab 5) ae) bx) (ai 7) oX) Tp
@[simp] def Tr:AT:=ag (aF 6 (aV ae)) Tq
@[simp] def Ts:AT:=ag (ao 4 (b2 (aa 4) (Zb 8) cv)) Tr
@[simp] def Tt:AT:=ag (aG (b2 (aa 0) (kD (.str "eithers")) (ay false)) (ao 5 (cC (Yb (aa 5) (Yb (Zb 2) ae)) fY)) ar) Ts
@[simp] def Tu:AT:=ag (ao 5 (b2 (lF (jw [1,2,2,2,1,2,3,4])) (b2 (aa 4) (Zb 8) aD) aj)) Tt
def t4:AT:=ag (ao 4 (cC (Yb (ab 1) (Yb (Zb 1181783497276652981) ae)) Yr)) Tu
def oY:AR->Option D:=au 4 8 t4
theorem KU(bl:Bl K w mg):aJ P w K mg base 2 4 "_law_rule" ["kind","cell","start","many"] oY:=by
 refine bQ bl.f65 aBa λhr=>?_;exact(fC (nH 4 aBa.nd (Br (j3 bl) hr rfl (eY (An 1) (eY ez hC)) CL)) (fC (By _ _ _ _ _ _ 5 _ _ _ [1,2,2,2,1,2,3,4] aBa.nd (by decide +kernel) rfl (by trivial) (by trivial) (by intro _ _;rfl) (Yw (g_ (Ym 4) (Yw ez)))) (fC (jG (k6 hr.units (Ym 0) (Yw rA)) (hE (nH 5 aBa.nd (k7 (He rfl) IJ rfl bl.Min boot_min (fB (Ym 5) (fB (Yw ez) f7))))) jF) (fC (nH 4 aBa.nd (rB (Ym 4) (Yw ez))) (fC (Bg 6 aBa.nd (Jl hC)) (fC (Jo jb rfl (Bm rfl bl.Range (eY (An 5) hC)) (Bn 7 aBa.nd) (fC (jG (Ji hr.units (Yw (rC (Ym 2) (Yw (g_ (Ym 4) (Yw (nA (Ym 3) (Ym 2))))))) (Ym 6)) (hE (Jn 6 (rC (Ym 2) (Yw (g_ (Ym 4) (Yw (nA (Ym 3) (Ym 2)))))))) jF) (hE (nH 4 aBa.nd (rB (Ym 4) (Yw (nA (Ym 3) (Ym 2)))))))) (fC (jG (k6 hr.units (Ym 0) (Yw rA)) (hE (Jm [6] (nI (nG l5 mw rfl bl.Tuple boot_tuple (fB (Yw (jE (nF mG mH rfl bl.Sorted boot_sorted (fB (Yw (jE (Jq aAa rfl (Bm rfl bl.Range (eY (k7 Hw Ic rfl bl.Len PySem.boot_len (fB (Ym 6) f7)) hC)) (λ_ _ _ _ _=>(Bn 0 aAa.nd)) (λ_ _ _ _ _=>Jp) (λ_ _ _ _ _=>(nE (eY (Jj (Ym 1) (Ym 0)) (eY (Av hr.units (Yw (g_ (Yw (Js (Ym 2) (Ym 0))) (Yw ez))) (Yw ez)) hC)))) (Ih (i:=0) rfl)))) f7)))) f7))))) jF) (fC (jG (k6 hr.units (Ym 0) (Yw rA)) (hE (nI (nE (eY (nG l5 mw rfl bl.Tuple boot_tuple (fB (Yw (jE (nF mG mH rfl bl.Sorted boot_sorted (fB (Ym 6) f7)))) f7)) (eY (Av hr.units (Yw (g_ (Ym 4) (Yw ez))) (Yw ez)) hC))))) jF) (fC (jG (k6 hr.units (Yw (g_ (Ym 4) (Yw ez))) (Yw ez)) (hE (nI (nE (eY (nG l5 mw rfl bl.Tuple boot_tuple (fB (Yw (jE (nF mG mH rfl bl.Sorted boot_sorted (fB (Ym 6) f7)))) f7)) (eY Jh hC))))) jF) (fC (jG (k6 hr.units (Yw (g_ (Ym 4) (Yw ez))) (Yw ez)) (hE (Bg 6 aBa.nd (Jk (fl:=(some (Zb 1))) (fh:=none) (Ym 6) (nC (Yw ez)) nB))) jF) (hE (nI (nE (eY (nG l5 mw rfl bl.Tuple boot_tuple (fB (Yw (jE (nF mG mH rfl bl.Sorted boot_sorted (fB (Ym 6) f7)))) f7)) (eY (rC (Ym 2) (Yw (g_ (Yw (rB (Ym 4) (Yw ez))) (Yw (nA (Ym 3) (Ym 2)))))) hC)))))))))))))))
def Tv:Fs 3 66 ["kind","rule","evening","lit"]:=aQ
def Tw:Cs ["kind","rule","evening","lit"] 66 ["saying","evening"] [none,some 2] [("saying",0),("evening",1)]:=a_
def Tx:Cs ["kind","rule","evening","lit"] 66 ["beacon","evening"] [none,some 2] [("beacon",0),("evening",1)]:=a_
def Tz:Cs ["kind","rule","evening","lit"] 66 ["beacon","evening","lit"] [none,some 2,some 3] [("beacon",0),("evening",1),("lit",1)]:=a_
def DS:AW:=(mB (b2 (b2 (aa 1) (b2 (aa 0) (Zb 0) aj) aj) (b2 (aa 0) (Zb 1) aj) (ay false)))
def DT:AV:=(b1 (b2 (aa 1) (aa 0) aj) aN)
def DU:AW:=(ab 0)
def DV:AW:=(mB (b2 (b2 (aa 1) (aa 0) aj) (aa 2) (ay true)))
@[simp] def DW:AT:=(ah (bJ (mB (b2 (b2 (aa 1) (Zb 1) aj) (kD .non) (cT true))) (mB (b2 (b2 (aa 2) (b2 (aa 1) (Zb 1) aj) aj) (aa 3) (ay false)))))
@[simp] def t5:AT:=(ag (aG (b1 (cC (Yb (lF (Yo (b1 (b2 (aa 1) (Zb 0) aj) Yc) [none,some 2,some 3] (ai 0) tY (DV))) ae) dE) aN) (ah (kD (.bl true))) ar) DW)
@[simp] def TB:AT:=(ag (ao 3 (mB (b2 (aa 0) (kD (.str "ifs")) (ay false)))) t5)
@[simp] def TC:AT:=(ag (aG (b2 (aa 0) (kD (.str "sums")) (ay false)) (ah (mB (b2 (mB (b2 (b2 (cC (Yb (lF (Yo (b1 (b2 (aa 1) (Zb 0) aj) Yc) [none,some 2] (ai 0) (DT) (DU))) ae) aA) (Zb 2) aD) (Zb 1) (ay false))) (b2 (aa 1) (Zb 1) aj) (ay false)))) ar) TB)
def o4:AT:=(ag (aG (b2 (aa 0) (kD (.str "eithers")) (ay false)) (ah (cC (Yb (lF (Yo (b1 (ab 1) Yc) [none,some 2] (ai 0) tY (DS))) ae) dE)) ar) TC)
def t6:AR->Option D:=au 3 4 o4
def TF:aJ P w K mg base 1 3 "_law_kept" ["kind","rule","evening"] t6:=by
 exists bl.f66,Tv,Tw,Tx,Tz
def TH:Fs 1 67 ["saying"]:=aQ
def KW:AT:=(ah (aw (Yb (b2 (aa 0) (Zb 0) aj) (Yb (fQ (b2 (aa 0) (Zb 1) aj)) ae))))
def j5:AR->Option D:=au 1 1 KW
def KY:aJ P w K mg base 1 1 "_law_contrary" ["saying"] j5:=by
 exists bl.f67,TH
def TJ:Fs 3 68 ["book","saying","other","against","rule"]:=aQ
def j6:AT:=(aG (aU (b2 (aa 3) (aa 4) (bc false)) (aU (b2 (aa 2) (aa 4) (bc false)) (dO (b2 (aa 2) (aa 3) (ay true)) (b2 (cC (Yb (aa 4) ae) aA) (Zb 1) (ay false))))) (ah (kD (.bl true))) ar)
@[simp] def TK:AT:=(ah (kD (.bl false)))
@[simp] def TL:AT:=(ag (aY (b1 (b2 (aa 0) (Zb 1) aj) Yc) (ai 4) j6) TK)
def DX:AT:=(ag (ao 3 (cC (Yb (ab 1) ae) j5)) TL)
def t7:AR->Option D:=au 3 5 DX
def TM:aJ P w K mg base 2 3 "_law_step" ["book","saying","other"] t7:=by
 exists bl.f68,TJ,KY bl
def KZ:Fs 3 70 ["cells","hands","start","storms","rows","keeper","left","ahead","source"]:=aQ
def TN:Cs ["cells","hands","start","storms","rows","keeper","left","ahead","source"] 70 ["storm","keeper"] [none,some 5] [("storm",0),("keeper",1)]:=a_
def t8:AV:=(b2 (aa 0) (aa 1) cZ)
def t9:AW:=(ab 0)
def t_:AT:=(ag (ao 6 (Zb 0)) (ag (aG (b2 (aa 5) (cC (Yb (aa 0) ae) aA) cZ) (ao 6 (cC (Yb (b2 (aa 0) (aa 5) aj) (Yb (Zb 1442695040888963407) ae)) Yr)) ar) (ag (aF 7 (Yo (b1 (ab 3) Yc) [none,some 5] (ai 0) (t8) (t9))) (ag (ao 8 (kD .non)) (ag (aG (aU (b2 (cC (Yb (aa 7) ae) aA) (Zb 0) eS) (b2 (b2 (aa 6) (Zb 3) aD) (Zb 0) eS)) (ao 8 (b2 (aa 7) (b2 (b2 (aa 6) (Zb 6) cv) (cC (Yb (aa 7) ae) aA) aD) aj)) ar) (bp 4 (aw (Yb (ab 5) (Yb (ab 8) (Yb (mB (b2 (b2 (b2 (aa 6) (Zb 3) cv) (Zb 2) aD) (Zb 1) (ay false))) ae)))) aT))))))
@[simp] def K0:AT:=(wF [4] (ah (ab 4)))
@[simp] def K3:AT:=(ag (aY (b1 (cC (Yb (ab 1) (Yb (ab 2) (Yb (kD (.str "keeper")) ae))) eJ) Yc) (ai 5) t_) K0)
@[simp] def K4:AT:=(ag (aF 4 (aV ae)) K3)
def DY:AT:=(ag (ao 3 (cC (Yb (ab 1) (Yb (ab 2) (Yb (kD (.str "storm")) ae))) eJ)) K4)
def uA:AR->Option D:=au 3 9 DY
def TQ:aJ P w K mg base 2 3 "_law_plan" ["cells","hands","start"] uA:=by
 refine bQ bl.f70 KZ λhr=>?_;unfold DY K4 K3 K0
 exists KZ,j4 bl,j3 bl,TN
def TR:Fs 4 71 ["rows","left","start","many","row","other","lit"]:=aQ
@[simp] def TU:AT:=(ah (cC (Yb (lF (cF (Yb (lF (aV (Yb (aw (Yb (b2 (aa 4) (Zb 0) aj) (Yb (ab 6) ae))) (Yb (aw (Yb (b2 (aa 4) (Zb 1) aj) (Yb (mB (b2 (aa 6) (b2 (aa 4) (Zb 2) aj) (ay true))) ae))) ae)))) ae) eU)) ae) ba))
@[simp] def TV:AT:=(ag (ao 6 (mB (b2 (b2 (b2 (aa 1) (Zb 64) cv) (Zb 2) aD) (Zb 1) (ay false)))) TU)
@[simp] def TX:AT:=(ag (aG (b2 (b2 (aa 4) (Zb 1) aj) (kD .non) (cT false)) (ag (ao 5 (aw (Yb (b2 (aa 2) (b2 (b2 (aa 1) (Zb 64) cv) (b2 (aa 3) (aa 2) dD) aD) cN) (Yb (mB (b2 (b2 (b2 (aa 1) (Zb 4096) cv) (Zb 2) aD) (Zb 1) (ay false))) ae)))) (ah (cC (Yb (lF (Ag (lF (aV (Yb (aw (Yb (b2 (aa 4) (Zb 0) aj) (Yb (b2 (aa 4) (Zb 2) aj) ae))) (Yb (ab 5) ae)))))) ae) ba))) ar) TV)
@[simp] def TY:AT:=(ag (ao 4 (b2 (aa 0) (b2 (aa 1) (cC (Yb (aa 0) ae) aA) aD) aj)) TX)
def DZ:AT:=(ag (aG (b2 (cC (Yb (aa 0) ae) aA) (Zb 0) (ay false)) (ah (aw ae)) ar) TY)
def uB:AR->Option D:=au 4 7 DZ
def TZ:aJ P w K mg base 1 4 "_law_planted_either" ["rows","left","start","many"] uB:=by
 exists bl.f71,TR
def K5:Fs 3 72 ["cells","hands","start","storms","rows","keeper","left","ahead","sources"]:=aQ
def T3:Cs ["cells","hands","start","storms","rows","keeper","left","ahead","sources"] 72 ["storm","keeper"] [none,some 5] [("storm",0),("keeper",1)]:=a_
def T4:Cs ["cells","hands","start","storms","rows","keeper","left","ahead","sources"] 72 ["k","ahead","left"] [none,some 7,some 6] [("k",0),("ahead",1),("left",1)]:=a_
def uC:AV:=(b2 (aa 0) (aa 1) cZ)
def uD:AW:=(ab 0)
def uE:AV:=(b2 (b2 (b2 (aa 2) (b2 (b2 (aa 0) (Zb 55) aD) (Zb 1) cN) cB) (Zb 3) aD) (Zb 1) (ay false))
def uF:AW:=(b2 (aa 1) (aa 0) aj)
def uG:AT:=(ag (ao 6 (Zb 0)) (ag (aG (b2 (aa 5) (cC (Yb (aa 0) ae) aA) cZ) (ao 6 (cC (Yb (b2 (aa 0) (aa 5) aj) (Yb (Zb 1442695040888963407) ae)) Yr)) ar) (ag (aF 7 (Yo (b1 (ab 3) Yc) [none,some 5] (ai 0) (uC) (uD))) (ag (wF [7] (aF 8 (Yo (cF (Yb (cC (Yb (aa 7) ae) aA) ae) bx) [none,some 7,some 6] (ai 0) (uE) (uF)))) (bp 4 (aw (Yb (ab 5) (Yb (cC (Yb (aa 8) ae) ba) (Yb (mB (b2 (b2 (aa 6) (Zb 2) aD) (Zb 1) (ay false))) ae)))) aT)))))
@[simp] def K6:AT:=(wF [4] (ah (ab 4)))
@[simp] def K7:AT:=(ag (aY (b1 (cC (Yb (ab 1) (Yb (ab 2) (Yb (kD (.str "keeper")) ae))) eJ) Yc) (ai 5) uG) K6)
@[simp] def K8:AT:=(ag (aF 4 (aV ae)) K7)
def D0:AT:=(ag (ao 3 (cC (Yb (ab 1) (Yb (ab 2) (Yb (kD (.str "storm")) ae))) eJ)) K8)
def uH:AR->Option D:=au 3 9 D0
def T5:aJ P w K mg base 2 3 "_law_sum_rows" ["cells","hands","start"] uH:=by
 refine bQ bl.f72 K5 λhr=>?_;unfold D0 K8 K7 K6
 exists K5,j4 bl,j3 bl,T3,T4
def T6:Fs 1 73 ["beacons"]:=aQ
def T7:Cs ["beacons"] 73 ["beacon","beacons"] [none,some 0] [("beacon",0),("beacons",1)]:=a_
def D1:AV:=(b2 (b2 (b2 (aa 1) (ab 0) hV) (Zb 2) aD) (Zb 1) (ay false))
def D2:AW:=(ab 0)
def K9:AT:=(ah (cC (Yb (lF (Yo (b1 (lF (m8 (aa 0))) Yc) [none,some 0] (ai 0) (D1) (D2))) ae) ba))
def uI:AR->Option D:=au 1 1 K9
def T8:aJ P w K mg base 1 1 "_law_odd_ones" ["beacons"] uI:=by
 exists bl.f73,T6,T7
def K_:Fs 2 74 ["rows","left","beacons","odd","k"]:=aQ
def uJ:AT:=(aG (b2 (b2 (b2 (aa 1) (b2 (aa 4) (Zb 55) aD) cB) (Zb 3) aD) (Zb 1) (ay false)) (ag (aF 2 (b2 (lF (b2 (aa 2) (lF (aV (Yb (b2 (b2 (aa 0) (aa 4) aj) (Zb 0) aj) ae))) bV)) (lF (cF (Yb (b2 (b2 (aa 0) (aa 4) aj) (Zb 1) aj) ae) df)) bV)) (ao 3 (mB (b2 (aa 3) (b2 (b2 (aa 0) (aa 4) aj) (Zb 2) aj) (ay true))))) ar)
@[simp] def La:AT:=(wF [2] (ah (aw (Yb (cC (Yb (ab 2) ae) uI) (Yb (ab 3) ae)))))
@[simp] def Lb:AT:=(ag (aY (cF (Yb (cC (Yb (aa 0) ae) aA) ae) bx) (ai 4) uJ) La)
@[simp] def Lc:AT:=(ag (ao 3 (kD (.bl false))) Lb)
def D3:AT:=(ag (aF 2 (aV ae)) Lc)
def uK:AR->Option D:=au 2 5 D3
def T9:aJ P w K mg base 2 2 "_law_planted_sum" ["rows","left"] uK:=by
 refine bQ bl.f74 K_ λhr=>?_;unfold D3 Lc Lb La
 exists K_,T8 bl
def Ld:Fs 3 75 ["cells","hands","start","keepers","base","first","rows","storm","left","lit"]:=aQ
def T_:Cs ["cells","hands","start","keepers","base","first","rows","storm","left","lit"] 75 ["k","keepers","base"] [none,some 3,some 4] [("k",0),("base",1),("keepers",1)]:=a_
def Ua:Cs ["cells","hands","start","keepers","base","first","rows","storm","left","lit"] 75 ["keeper","storm"] [none,some 7] [("keeper",0),("storm",1)]:=a_
def Ub:Cs ["cells","hands","start","keepers","base","first","rows","storm","left","lit"] 75 ["k","keepers","storm","left"] [none,some 3,some 7,some 8] [("k",0),("keepers",1),("left",1),("storm",1)]:=a_
def D4:AV:=(b2 (b2 (b2 (aa 2) (b2 (aa 0) (Zb 59) aD) cB) (Zb 2) aD) (Zb 1) (ay false))
def D5:AW:=(b2 (aa 1) (aa 0) aj)
def uL:AV:=(b2 (aa 0) (aa 1) cZ)
def uM:AW:=(ab 0)
def uN:AV:=(aU (b2 (b2 (aa 1) (aa 0) aj) (aa 2) eS) (b2 (b2 (b2 (aa 3) (b2 (aa 0) (Zb 59) aD) cB) (Zb 2) aD) (Zb 1) (ay false)))
def D6:AW:=(b2 (aa 1) (aa 0) aj)
def uO:AT:=(ag (ao 8 (Zb 0)) (ag (aG (b2 (b2 (Zb 1) (aa 7) cN) (cC (Yb (aa 0) ae) aA) cZ) (ao 8 (cC (Yb (b2 (aa 0) (b2 (Zb 1) (aa 7) cN) aj) (Yb (Zb 1283712873162387911) ae)) Yr)) ar) (ag (wF [5] (aF 9 (Yo (b1 (ab 5) Yc) [none,some 7] (ai 0) (uL) (uM)))) (ag (aF 9 (b2 (aa 9) (lF (Yo (cF (Yb (cC (Yb (aa 3) ae) aA) ae) bx) [none,some 3,some 7,some 8] (ai 0) (uN) (D6))) bV)) (bp 6 (aw (Yb (ab 7) (Yb (cC (Yb (aa 9) ae) ba) ae))) aT)))))
@[simp] def Lf:AT:=(wF [6] (ah (lF (aV (Yb (cC (Yb (aa 5) ae) ba) (Yb (ab 6) ae))))))
@[simp] def Lg:AT:=(ag (aY (b1 (cC (Yb (ab 1) (Yb (ab 2) (Yb (kD (.str "storm")) ae))) eJ) Yc) (ai 7) uO) Lf)
@[simp] def Lh:AT:=(ag (aF 6 (aV ae)) Lg)
@[simp] def D7:AT:=(ag (aF 5 (Yo (cF (Yb (cC (Yb (aa 3) ae) aA) ae) bx) [none,some 3,some 4] (ai 0) (D4) (D5))) Lh)
@[simp] def D8:AT:=(ag (aG (b2 (cC (Yb (aa 0) ae) aA) (Zb 0) eS) (ao 4 (cC (Yb (b2 (aa 0) (Zb 0) aj) (Yb (Zb 1442695040888963407) ae)) Yr)) ar) D7)
@[simp] def lu:AT:=(ag (ao 4 (Zb 0)) D8)
def uP:AT:=(ag (ao 3 (cC (Yb (ab 1) (Yb (ab 2) (Yb (kD (.str "keeper")) ae))) eJ)) lu)
def uQ:AR->Option D:=au 3 10 uP
def Uc:aJ P w K mg base 2 3 "_law_rows" ["cells","hands","start"] uQ:=by
 refine bQ bl.f75 Ld λhr=>?_;unfold uP lu D8 D7 Lh Lg Lf
 exists Ld,j4 bl,j3 bl,T_,Ua,Ub
def Li:Fs 4 76 ["first","rows","hands","start","storms","found","row"]:=aQ
def Ud:Cs ["first","rows","hands","start","storms","found","row"] 76 ["beacon","storms","first"] [none,some 4,some 0] [("beacon",0),("first",1),("storms",1)]:=a_
def Ue:Cs ["first","rows","hands","start","storms","found","row"] 76 ["beacon","storms","row"] [none,some 4,some 6] [("beacon",0),("row",1),("storms",1)]:=a_
def uR:AW:=(kL (mB (b2 (aa 0) (aa 1) (bc false))) (mB (b2 (aa 0) (aa 2) (bc false))))
def lx:AW:=(kL (bJ (mB (b2 (aa 0) (aa 1) (bc false))) (mB (b2 (aa 0) (b2 (aa 2) (Zb 0) aj) (ay true)))) (mB (b2 (aa 0) (b2 (aa 2) (Zb 1) aj) (bc false))))
def D9:AT:=(bp 5 (lF (Yo (cF (Yb (cC (Yb (aa 2) ae) aA) ae) bx) [none,some 4,some 6] (ai 0) tY (lx))) aT)
@[simp] def Lj:AT:=(wF [5] (ah (ab 5)))
@[simp] def Lk:AT:=(ag (aY (b1 (ab 1) Yc) (ai 6) D9) Lj)
@[simp] def Ll:AT:=(ag (aF 5 (aV (Yb (lF (Yo (cF (Yb (cC (Yb (aa 2) ae) aA) ae) bx) [none,some 4,some 0] (ai 0) tY (uR))) ae))) Lk)
def D_:AT:=(ag (ao 4 (cC (Yb (ab 2) (Yb (ab 3) (Yb (kD (.str "storm")) ae))) eJ)) Ll)
def uS:AR->Option D:=au 4 7 D_
def Ug:aJ P w K mg base 2 4 "_law_evenings" ["first","rows","hands","start"] uS:=by
 refine bQ bl.f76 Li λhr=>?_;unfold D_ Ll Lk Lj
 exists Li,j4 bl,Ud,Ue
def Lm:Fs 2 77 ["rules","facts","known","places","grown","k","body"]:=aQ
def Uh:Cs ["rules","facts","known","places","grown","k","body"] 77 ["beacon","known"] [none,some 2] [("beacon",0),("known",1)]:=a_
def Ea:AW:=(mB (b2 (aa 0) (aa 1) (bc false)))
def j7:AT:=(ag (ao 6 (b2 (b2 (aa 0) (aa 5) aj) (Zb 0) aj)) (aG (mU [2] (aU (b2 (b2 (b2 (aa 0) (aa 5) aj) (Zb 1) aj) (kD .non) (cT true)) (aU (b2 (b2 (b2 (aa 0) (aa 5) aj) (Zb 1) aj) (aa 2) (bc true)) (b1 (cC (Yb (lF (Yo (b1 (ab 6) Yc) [none,some 2] (ai 0) tY (Ea))) ae) bW) aN)))) (ag (bp 2 (b2 (b2 (aa 0) (aa 5) aj) (Zb 1) aj) aT) (ag (bp 3 (ab 5) aT) (ao 4 (kD (.bl true))))) ar))
def uT:AT:=(ag (ao 4 (kD (.bl false))) (aY (cF (Yb (cC (Yb (aa 0) ae) aA) ae) bx) (ai 5) j7))
@[simp] def Ln:AT:=(wF [2,3] (ah (lF (aV (Yb (ab 2) (Yb (ab 3) ae))))))
@[simp] def Lo:AT:=(ag (gA (b1 (aa 4) aN) uT 4000) Ln)
@[simp] def Lp:AT:=(ag (ao 4 (kD (.bl true))) Lo)
@[simp] def Lq:AT:=(ag (aF 3 (aV ae)) Lp)
def Eb:AT:=(ag (aF 2 (cF (Yb (aa 1) ae) df)) Lq)
def ly:AR->Option D:=au 2 7 Eb
def Ui:aJ P w K mg base 1 2 "_law_full" ["rules","facts"] ly:=by
 refine bQ bl.f77 Lm λhr=>?_;unfold Eb Lq Lp Lo Ln
 exists Lm,Uh
def Uj:Fs 4 78 ["rules","hands","start","beacon","storms","early","late","ahead","k"]:=aQ
def Uk:Cs ["rules","hands","start","beacon","storms","early","late","ahead","k"] 78 ["keeper","beacon","early"] [none,some 3,some 5] [("keeper",0),("beacon",1),("early",1)]:=a_
def Ul:Cs ["rules","hands","start","beacon","storms","early","late","ahead","k"] 78 ["one","beacon"] [none,some 3] [("one",0),("beacon",1)]:=a_
def Um:Cs ["rules","hands","start","beacon","storms","early","late","ahead","k"] 78 ["one","late"] [none,some 6] [("one",0),("late",1)]:=a_
def Ec:AV:=(aU (b2 (aa 0) (aa 1) cZ) (b2 (aa 0) (b2 (aa 2) (Zb 0) aj) (bc false)))
def Ed:AW:=(ab 0)
def Ee:AV:=(b2 (aa 0) (aa 1) (ay true))
def Ef:AW:=(ab 0)
def Eg:AW:=(mB (b2 (aa 0) (b2 (aa 1) (Zb 0) aj) (bc false)))
def o5:AT:=(aG (dO (b2 (b2 (b2 (aa 0) (aa 8) aj) (Zb 1) aj) (kD .non) (cT false)) (b2 (b2 (b2 (aa 0) (aa 8) aj) (Zb 1) aj) (aa 3) (ay false))) (aG (b1 (cC (Yb (lF (Yo (b1 (b2 (b2 (aa 0) (aa 8) aj) (Zb 0) aj) Yc) [none,some 6] (ai 0) tY (Eg))) ae) bW) aN) (ah (aw (Yb (kD (.str "lone")) (Yb (ab 3) (Yb (cC (Yb (b2 (aa 5) (Zb 1) aj) ae) ba) (Yb (cC (Yb (lF (b2 (b2 (aa 6) (Zb 1) aj) (lF (aV (Yb (ab 8) ae))) bV)) ae) ba) ae)))))) ar) ar)
@[simp] def Uo:AT:=(ah (aw (Yb (kD (.str "lone")) (Yb (ab 3) (Yb (cC (Yb (b2 (aa 5) (Zb 1) aj) ae) ba) (Yb (cC (Yb (b2 (aa 6) (Zb 1) aj) ae) ba) ae))))))
@[simp] def o6:AT:=(ag (aY (cF (Yb (cC (Yb (aa 0) ae) aA) ae) bx) (ai 8) o5) Uo)
@[simp] def Up:AT:=(ag (aG (b2 (aa 3) (kD .non) (cT false)) (ag (aF 5 (aV (Yb (lF (aV ae)) (Yb (lF (aV ae)) ae)))) (ao 6 (cC (Yb (ab 0) (Yb (ab 4) ae)) ly))) (ag (ao 5 (cC (Yb (ab 0) (Yb (ab 4) ae)) ly)) (ag (wF [5] (aF 7 (Yo (b1 (cC (Yb (ab 1) (Yb (ab 2) (Yb (kD (.str "keeper")) ae))) eJ) Yc) [none,some 3,some 5] (ai 0) (Ec) (Ed)))) (ao 6 (cC (Yb (ab 0) (Yb (lF (b2 (lF (Yo (b1 (ab 4) Yc) [none,some 3] (ai 0) (Ee) (Ef))) (aa 7) bV)) ae)) ly))))) o6)
def Eh:AT:=(ag (ao 4 (cC (Yb (ab 1) (Yb (ab 2) (Yb (kD (.str "storm")) ae))) eJ)) Up)
def iO:AR->Option D:=au 4 9 Eh
def Uq:aJ P w K mg base 2 4 "_law_lone" ["rules","hands","start","beacon"] iO:=by
 exists bl.f78,Uj,j4 bl,Ui bl,Uk,Ul,Um
def Lr:Fs 3 79 ["book","start","many","sayings","ways","saying","found","roads","seen","k","other","road"]:=aQ
def Ur:Cs ["book","start","many","sayings","ways","saying","found","roads","seen","k","other","road"] 79 ["beacon"] [none] [("beacon",0)]:=a_
def Us:Cs ["book","start","many","sayings","ways","saying","found","roads","seen","k","other","road"] 79 ["saying"] [none] [("saying",0)]:=a_
def Ut:Cs ["book","start","many","sayings","ways","saying","found","roads","seen","k","other","road"] 79 ["other","book","saying"] [none,some 0,some 5] [("other",0),("_law_step",2),("book",1),("saying",1)]:=a_
def Ei:AW:=(aw (Yb (ab 0) (Yb (kD (.bl false)) ae)))
def Ej:AW:=(aw (Yb (b2 (aa 0) (Zb 0) aj) (Yb (kD (.bl true)) ae)))
def Ek:AV:=(b1 (cC (Yb (ab 1) (Yb (ab 2) (Yb (ab 0) ae))) t7) aN)
def Lu:AW:=(ab 0)
def o7:AT:=(wF [3] (g0 4 (aa 5) (lF (Yo (b1 (ab 3) Yc) [none,some 0,some 5] (ai 0) (Ek) (Lu)))))
def El:AT:=(aG (b2 (aa 10) (aa 8) (bc true)) (ag (bp 8 (ab 10) aT) (bp 7 (b2 (b2 (aa 7) (aa 9) aj) (aw (Yb (ab 10) ae)) nz) aT)) ar)
def Em:AT:=(aG (b2 (aa 9) (cC (Yb (aa 7) ae) aA) cZ) (aY (b1 (b2 (aa 4) (b2 (b2 (aa 7) (aa 9) aj) (b1 (Zb 1) bU) aj) fX) Yc) (ai 10) El) ar)
def uU:AT:=(hO 6 (aw (Yb (ab 5) (Yb (b2 (aa 11) (b1 (Zb 1) bU) aj) ae))) (ab 11))
def En:AT:=(ag (aF 7 (aV (Yb (aw (Yb (ab 5) ae)) ae))) (ag (aF 8 (aV (Yb (ab 5) ae))) (ag (aY (cF (Yb (cC (Yb (aa 3) ae) aA) ae) bx) (ai 9) Em) (wF [7] (aY (b1 (ab 7) Yc) (ai 11) uU)))))
@[simp] def Lv:AT:=(wF [6] (ah (ab 6)))
@[simp] def Lx:AT:=(ag (wF [3] (aY (b1 (ab 3) Yc) (ai 5) En)) Lv)
@[simp] def Ly:AT:=(ag (hU 6) Lx)
@[simp] def Lz:AT:=(ag (wF [3] (aY (b1 (ab 3) Yc) (ai 5) o7)) Ly)
@[simp] def LA:AT:=(ag (hU 4) Lz)
@[simp] def LB:AT:=(ag (wF [3] (aF 3 (b2 (aa 3) (lF (Yo (b1 (ab 3) Yc) [none] (ai 0) tY (Ej))) bV))) LA)
def Eo:AT:=(ag (aF 3 (Yo (cF (Yb (ab 1) (Yb (ab 2) ae)) dg) [none] (ai 0) tY (Ei))) LB)
def uV:AR->Option D:=au 3 12 Eo
def Uu:aJ P w K mg base 3 3 "_law_paths" ["book","start","many"] uV:=by
 refine bQ bl.f79 Lr λhr=>?_;unfold Eo LB LA Lz Ly Lx Lv o7
 exists Lr,Ur,Us,Ut,TM bl
def LC:Fs 3 80 ["book","hands","start","paths","storms","papers","pair","one","other"]:=aQ
def Ep:AT:=(ag (ao 7 (b2 (aa 6) (Zb 0) aj)) (ag (ao 8 (b2 (aa 6) (Zb 1) aj)) (ag (aG (aU (b2 (aa 8) (cC (Yb (ab 7) ae) j5) (ay false)) (b2 (aw (Yb (ab 8) (Yb (ab 7) ae))) (aa 3) (dM false))) (bp 5 (aw (Yb (kD (.str "clash")) (Yb (b2 (aa 3) (aa 6) bq) (Yb (b2 (aa 3) (aw (Yb (ab 8) (Yb (ab 7) ae))) bq) ae)))) aT) ar) (ag (aG (aU (b2 (aa 7) (aa 8) (ay true)) (aU (b2 (b2 (aa 7) (Zb 0) aj) (aa 4) (bc false)) (b2 (b2 (aa 8) (Zb 0) aj) (aa 4) (bc false)))) (bp 5 (aw (Yb (kD (.str "cross")) (Yb (b2 (aa 3) (aa 6) bq) ae))) aT) ar) (aG (aU (b2 (b2 (aa 7) (Zb 0) aj) (aa 4) (bc false)) (aU (b2 (b2 (aa 8) (Zb 0) aj) (b2 (aa 7) (Zb 0) aj) cZ) (aU (b2 (b2 (aa 8) (Zb 0) aj) (aa 4) (bc true)) (b2 (aw (Yb (ab 8) (Yb (ab 7) ae))) (aa 3) (dM false))))) (bp 5 (aw (Yb (kD (.str "late")) (Yb (b2 (aa 3) (aa 6) bq) (Yb (b2 (aa 3) (aw (Yb (ab 8) (Yb (ab 7) ae))) bq) ae)))) aT) ar)))))
@[simp] def LD:AT:=(wF [5] (ah (ab 5)))
@[simp] def LF:AT:=(ag (aY (b1 (ab 3) sG) (ai 6) Ep) LD)
@[simp] def LG:AT:=(ag (aF 5 (aV (Yb (aw (Yb (kD (.str "broken")) ae)) ae))) LF)
@[simp] def LH:AT:=(ag (ao 4 (cC (Yb (ab 1) (Yb (ab 2) (Yb (kD (.str "storm")) ae))) eJ)) LG)
def Er:AT:=(ag (ao 3 (cC (Yb (ab 0) (Yb (ab 2) (Yb (cC (Yb (aa 1) ae) aA) ae))) uV)) LH)
def Yn:AR->Option D:=au 3 9 Er
def Uv:aJ P w K mg base 4 3 "_law_either_papers" ["book","hands","start"] Yn:=by
 refine bQ bl.f80 LC λhr=>?_;unfold Er LH LG LF LD
 exists LC,Uu bl,j4 bl,KY bl
def LI:Fs 1 81 ["rules","papers","mask","places"]:=aQ
def Uw:Cs ["rules","papers","mask","places"] 81 ["k","mask"] [none,some 2] [("k",0),("mask",1)]:=a_
def Es:AV:=(b2 (b2 (b2 (aa 1) (aa 0) cB) (Zb 2) aD) (Zb 1) (ay false))
def LJ:AW:=(ab 0)
def Et:AT:=(ag (aF 3 (Yo (cF (Yb (cC (Yb (Zb 6) (Yb (cC (Yb (aa 0) ae) aA) ae)) fY) ae) bx) [none,some 2] (ai 0) (Es) (LJ))) (bp 1 (aw (Yb (kD (.str "odd")) (Yb (cC (Yb (aa 3) ae) ba) ae))) aT))
@[simp] def LK:AT:=(wF [1] (ah (ab 1)))
@[simp] def LM:AT:=(ag (aY (cF (Yb (Zb 1) (Yb (Zb 64) ae)) dg) (ai 2) Et) LK)
def Eu:AT:=(ag (aF 1 (aV (Yb (aw (Yb (kD (.str "broken")) ae)) ae))) LM)
def j8:AR->Option D:=au 1 4 Eu
def Ux:aJ P w K mg base 1 1 "_law_sum_papers" ["rules"] j8:=by
 refine bQ bl.f81 LI λhr=>?_;unfold Eu LM LK
 exists LI,Uw
def LN:Fs 3 82 ["rules","hands","start","papers","storm"]:=aQ
def Ew:AT:=(bp 3 (cC (Yb (ab 0) (Yb (ab 1) (Yb (ab 2) (Yb (ab 4) ae)))) iO) aT)
@[simp] def LO:AT:=(wF [3] (ah (ab 3)))
@[simp] def LP:AT:=(ag (aY (b1 (cC (Yb (ab 1) (Yb (ab 2) (Yb (kD (.str "storm")) ae))) eJ) Yc) (ai 4) Ew) LO)
def Ex:AT:=(ag (aF 3 (aV (Yb (aw (Yb (kD (.str "broken")) ae)) (Yb (cC (Yb (ab 0) (Yb (ab 1) (Yb (ab 2) (Yb (kD .non) ae)))) iO) ae)))) LP)
def Yu:AR->Option D:=au 3 5 Ex
def Uy:aJ P w K mg base 3 3 "_law_if_papers" ["rules","hands","start"] Yu:=by
 refine bQ bl.f82 LN λhr=>?_;unfold Ex LP LO
 exists LN,Uq bl,j4 bl
def Uz:Fs 4 83 ["kind","script","hands","start","made"]:=aQ
@[simp] def UA:AT:=(ah (aw (Yb (kD (.str "rows")) (Yb (b2 (aa 4) (Zb 0) aj) (Yb (cC (Yb (b2 (aa 4) (Zb 1) aj) ae) ba) ae)))))
@[simp] def UB:AT:=(ag (ao 4 (cC (Yb (lF (jn (aa 1) (some (Zb 3)) (some (Zb 11)))) (Yb (ab 2) (Yb (ab 3) ae))) uQ)) UA)
@[simp] def LQ:AT:=(ag (aG (b2 (aa 0) (kD (.str "sums")) (ay false)) (ah (aw (Yb (kD (.str "sums")) (Yb (cC (Yb (cC (Yb (lF (jn (aa 1) (some (Zb 3)) (some (Zb 10)))) (Yb (ab 2) (Yb (ab 3) ae))) uH) ae) ba) ae)))) ar) UB)
def Ey:AT:=(ag (aG (b2 (aa 0) (kD (.str "eithers")) (ay false)) (ah (aw (Yb (kD (.str "plan")) (Yb (cC (Yb (cC (Yb (lF (jn (aa 1) (some (Zb 3)) (some (Zb 10)))) (Yb (ab 2) (Yb (ab 3) ae))) uA) ae) ba) ae)))) ar) LQ)
def uW:AR->Option D:=au 4 5 Ey
def UC:aJ P w K mg base 3 4 "_law_keepers" ["kind","script","hands","start"] uW:=by
 exists bl.f83,Uz,TQ bl,T5 bl,Uc bl
def UD:Fs 5 84 ["kind","paper","cell","hands","start","left"]:=aQ
@[simp] def UE:AT:=(ah (cC (Yb (ab 0) (Yb (ab 2) (Yb (ab 4) (Yb (cC (Yb (aa 3) ae) aA) ae)))) oY))
@[simp] def LR:AT:=(ag (aG (b2 (aa 0) (kD (.str "sums")) (ay false)) (ah (cC (Yb (lF (cF (Yb (b2 (aa 1) (Zb 1) aj) ae) df)) (Yb (ab 5) ae)) uK)) ar) UE)
@[simp] def LS:AT:=(ag (aG (aU (b2 (aa 0) (kD (.str "eithers")) (ay false)) (b2 (cC (Yb (b2 (aa 1) (Zb 1) aj) ae) aA) (Zb 0) eS)) (ah (cC (Yb (lF (cF (Yb (b2 (aa 1) (Zb 1) aj) ae) df)) (Yb (ab 5) (Yb (ab 4) (Yb (cC (Yb (aa 3) ae) aA) ae)))) uB)) ar) LR)
def LU:AT:=(ag (ao 5 (cC (Yb (ab 2) (Yb (Zb 2049848353892358983) ae)) Yr)) LS)
def o8:AR->Option D:=au 5 6 LU
def UF:aJ P w K mg base 3 5 "_law_kept_rule" ["kind","paper","cell","hands","start"] o8:=by
 exists bl.f84,UD,j3 bl,TZ bl,T9 bl,KU bl
def UG:Fs 4 85 ["paper","rule","hands","start","evenings"]:=aQ
def UH:Cs ["paper","rule","hands","start","evenings"] 85 ["evening","rule"] [none,some 1] [("evening",0),("_law_kept",2),("rule",1)]:=a_
def Ez:AW:=(cC (Yb (kD (.str "ifs")) (Yb (ab 1) (Yb (ab 0) ae))) t6)
def LV:AT:=(ag (ao 4 (cC (Yb (b2 (aa 0) (Zb 1) aj) (Yb (b2 (aa 0) (Zb 2) aj) (Yb (ab 2) (Yb (ab 3) ae)))) uS)) (ah (cC (Yb (lF (Yo (b1 (ab 4) Yc) [none,some 1] (ai 0) tY (Ez))) ae) bW)))
def o9:AR->Option D:=au 4 5 LV
def UI:aJ P w K mg base 3 4 "_law_holds_all" ["paper","rule","hands","start"] o9:=by
 exists bl.f85,UG,Ug bl,UH,TF bl
def UJ:Fs 6 86 ["kind","paper","script","hands","start","pick","rules","cell","rule"]:=aQ
def uX:AT:=(ag (ao 8 (cC (Yb (ab 0) (Yb (ab 1) (Yb (ab 7) (Yb (ab 3) (Yb (ab 4) ae))))) o8)) (aG (dO (b2 (b2 (aa 1) (Zb 0) aj) (kD (.str "rows")) (ay true)) (b1 (cC (Yb (ab 1) (Yb (ab 8) (Yb (ab 3) (Yb (ab 4) ae)))) o9) aN)) (bp 6 (ab 8) aT) ar))
@[simp] def LW:AT:=(ah (aw (Yb (ab 0) (Yb (cC (Yb (aa 6) ae) ba) ae))))
@[simp] def LX:AT:=(ag (aG (b2 (b2 (aa 5) (Zb 4) aD) (Zb 0) eS) (qR 6 (b2 (b2 (aa 5) (Zb 4) cv) (b2 (cC (Yb (aa 6) ae) aA) (Zb 1) cN) aD) (cC (Yb (ab 0) (Yb (cC (Yb (ab 2) (Yb (Zb 17) ae)) h7) (Yb (ab 4) (Yb (cC (Yb (aa 3) ae) aA) ae)))) oY) fV) ar) LW)
@[simp] def UK:AT:=(ag (aY (b1 (lF (jn (aa 2) (some (Zb 11)) (some (Zb 17)))) Yc) (ai 7) uX) LX)
def LY:AT:=(ag (aF 6 (aV ae)) UK)
def uY:AR->Option D:=au 6 9 LY
def UL:aJ P w K mg base 4 6 "_law_book" ["kind","paper","script","hands","start","pick"] uY:=by
 exists bl.f86,UJ,UF bl,UI bl,KU bl,KN bl
def o_:Fs 1 87 ["script","many","start","hands","pick","kind","paper","book","others","held","other","found"]:=aQ
def EA:AT:=(ag (ao 11 (cC (Yb (ab 10) (Yb (ab 7) (Yb (ab 3) (Yb (ab 2) (Yb (kD (.str "storm")) ae))))) j0)) (aG (dO (bG (b1 (mB (b1 (aa 11) (er "bool"))) aN)) (aU (b1 (aa 11) aN) (b1 (aa 9) aN))) (ah (kD (.bl false))) ar))
def uZ:AT:=(ag (ao 6 (cC (Yb (ab 5) (Yb (ab 0) (Yb (ab 3) (Yb (ab 2) ae)))) uW)) (ag (ao 7 (cC (Yb (ab 5) (Yb (ab 6) (Yb (ab 0) (Yb (ab 3) (Yb (ab 2) (Yb (ab 4) ae)))))) uY)) (ag (aG (b2 (aa 5) (kD (.str "eithers")) (ay false)) (ao 8 (cC (Yb (ab 7) (Yb (ab 3) (Yb (ab 2) ae))) Yn)) (aG (b2 (aa 5) (kD (.str "sums")) (ay false)) (ao 8 (cC (Yb (b2 (aa 7) (Zb 1) aj) ae) j8)) (ao 8 (cC (Yb (b2 (aa 7) (Zb 1) aj) (Yb (ab 3) (Yb (ab 2) ae))) Yu)))) (ag (ao 9 (cC (Yb (ab 6) (Yb (ab 7) (Yb (ab 3) (Yb (ab 2) (Yb (kD (.str "keeper")) ae))))) j0)) (ag (aG (bG (b1 (mB (b1 (aa 9) (er "bool"))) aN)) (ah (kD (.bl false))) ar) (aY (b1 (ab 8) Yc) (ai 10) EA))))))
def EB:AT:=(ah (kD (.bl true)))
def EC:AT:=(ag (aY (b1 (lF (aV (Yb (kD (.str "eithers")) (Yb (kD (.str "sums")) (Yb (kD (.str "ifs")) (Yb (kD (.str "nots")) ae)))))) Yc) (ai 5) uZ) EB)
def ED:AT:=(ag (ao 4 (cC (Yb (cC (Yb (ab 0) (Yb (Zb 2) ae)) h7) (Yb (Zb 1865811235122147685) ae)) Yr)) EC)
def EF:AT:=(ag (ao 3 (cC (Yb (cC (Yb (ab 0) (Yb (Zb 1) ae)) h7) (Yb (ab 1) ae)) tW)) ED)
def EG:AT:=(ag (ao 2 (b2 (b2 (cC (Yb (ab 0) (Yb (Zb 0) ae)) h7) (Zb 6) cv) (b2 (aa 1) (Zb 1) dD) aD)) EF)
def pa:AT:=(ag (ao 1 (b2 (Zb 2) (b2 (cC (Yb (ab 0) (Yb (Zb 0) ae)) h7) (Zb 6) aD) cN)) EG)
def j9:AR->Option D:=au 1 12 pa
def EH(bl:Bl K w mg)(F:Fun K "law" "law" (top 87) a fd):cA P w K mg base eh 20 a fd ["script"] (de K 1 j9):=by
 refine Jr (k:=19) F o_ rfl rfl λcdv A outer s H E hr=>?_
 exists o_,KN bl,Tg bl,j3 bl,UC bl,UL bl,Uv bl,Ux bl,Uy bl,DN bl
end
abbrev EI:Nat:=20
theorem all_mk{l:W.OpenLaw}{w:World}{K:W7}{h:Heap}{mg:AF}{fa uq:Addr}(X:K.In h)(G:h.Ns mainGlobals mg)(hfa:mg "law"=some (.ref fa)){uy ut:Option Addr}{uz:Array (Option Value)}{u0 uu uv uw uo ux:Value}(F_both_added:Fk K "both_added" 1)(F_added:Fk K "added" 2)(F_contrary:Fk K "contrary" 4)(F_led_to:Fk K "led_to" 5)(F_is_road:Fk K "is_road" 6)(F_exchanged_rule:Fk K "exchanged_rule" 9)(F_exchanged:Fk K "exchanged" 10)(F_either_holds:Fk K "either_holds" 12)(F_sum_holds:Fk K "sum_holds" 13)(F_if_holds:Fk K "if_holds" 14)(F_rule_holds:Fk K "rule_holds" 15)(F_broken_rules:Fk K "broken_rules" 16)(F_holds:Fk K "holds" 17)(F_beacons_in:Fk K "beacons_in" 18)(F_is_void:Fk K "is_void" 19)(F_without:Fk K "without" 20)(F_beacons_with:Fk K "beacons_with" 22)(F_is_rising:Fk K "is_rising" 23)(F_rows_by_beacon:Fk K "rows_by_beacon" 25)(F_is_plan_row:Fk K "is_plan_row" 26)(F_come_to:Fk K "come_to" 27)(F_either_is_kept:Fk K "either_is_kept" 28)(F_plan_good:Fk K "plan_good" 29)(F_is_sum_row:Fk K "is_sum_row" 30)(F_replaced:Fk K "replaced" 31)(F_sums_good:Fk K "sums_good" 32)(F_are_some_of:Fk K "are_some_of" 33)(F_ahead_of:Fk K "ahead_of" 34)(F_is_row:Fk K "is_row" 35)(F_holds_where_lit:Fk K "holds_where_lit" 36)(F_rows_good:Fk K "rows_good" 37)(F_keeper_good:Fk K "keeper_good" 38)(F_is_place:Fk K "is_place" 40)(F_body_is_known:Fk K "body_is_known" 41)(F_is_step:Fk K "is_step" 42)(F_is_derivation:Fk K "is_derivation" 43)(F_derived:Fk K "derived" 44)(F_is_broken:Fk K "is_broken" 46)(F_lead_there_and_back:Fk K "lead_there_and_back" 47)(F_clash_good:Fk K "clash_good" 48)(F_cross_good:Fk K "cross_good" 49)(F_late_good:Fk K "late_good" 50)(F_odd_good:Fk K "odd_good" 51)(F_first_ones:Fk K "first_ones" 52)(F_is_first_part:Fk K "is_first_part" 53)(F_is_last_part:Fk K "is_last_part" 54)(F_lone_good:Fk K "lone_good" 55)(F_either_paper_good:Fk K "either_paper_good" 56)(F_storm_good:Fk K "storm_good" 57)(F_good:Fk K "good" 59)(F_law_cell:Fk K "_law_cell" 61)(F_law_mixed:Fk K "_law_mixed" 62)(F_law_hands:Fk K "_law_hands" 63)(F_law_own:Fk K "_law_own" 64)(F_law_rule:Fk K "_law_rule" 65)(F_law_kept:Fk K "_law_kept" 66)(F_law_contrary:Fk K "_law_contrary" 67)(F_law_step:Fk K "_law_step" 68)(F_law_plan:Fk K "_law_plan" 70)(F_law_planted_either:Fk K "_law_planted_either" 71)(F_law_sum_rows:Fk K "_law_sum_rows" 72)(F_law_odd_ones:Fk K "_law_odd_ones" 73)(F_law_planted_sum:Fk K "_law_planted_sum" 74)(F_law_rows:Fk K "_law_rows" 75)(F_law_evenings:Fk K "_law_evenings" 76)(F_law_full:Fk K "_law_full" 77)(F_law_lone:Fk K "_law_lone" 78)(F_law_paths:Fk K "_law_paths" 79)(F_law_either_papers:Fk K "_law_either_papers" 80)(F_law_sum_papers:Fk K "_law_sum_papers" 81)(F_law_if_papers:Fk K "_law_if_papers" 82)(F_law_keepers:Fk K "_law_keepers" 83)(F_law_kept_rule:Fk K "_law_kept_rule" 84)(F_law_holds_all:Fk K "_law_holds_all" 85)(F_law_book:Fk K "_law_book" 86)(u4:W.nsIn K mainGlobals "law"=some (some (.ref uq)))(u5:K.lookup uq=some ⟨u0,uy,.func (W.fnOf "law" "law" (aFa (top 87)) (aEa (top 87)) (aCa (top 87)) .none uu uv uw ut uo ux),uz⟩)(u6:W.codeIn K uo "law"=true)(u7:W.keepIn K (.ref uq)=true){ub:Addr}{uk:_}{uc ud ue uf ug uh ui uj:_}(ul:W.nsIn K mainGlobals "EXCHANGED_KINDS"=some (some (.ref ub)))(um:K.lookup ub=some ⟨.type "dict",none,.dict #[⟨PyData.keyHash w.params (Str.ofString "eithers"),.str "eithers" uc,.str "eithers" ud⟩,⟨PyData.keyHash w.params (Str.ofString "sums"),.str "sums" ue,.str "sums" uf⟩,⟨PyData.keyHash w.params (Str.ofString "ifs"),.str "ifs" ug,.str "nots" uh⟩,⟨PyData.keyHash w.params (Str.ofString "nots"),.str "nots" ui,.str "ifs" uj⟩] uk,#[]⟩)(z_len:W.nsIn K mainGlobals "len"=some none)(z_range:W.nsIn K mainGlobals "range"=some none)(z_list:W.nsIn K mainGlobals "list"=some none)(z_tuple:W.nsIn K mainGlobals "tuple"=some none)(z_bool:W.nsIn K mainGlobals "bool"=some none)(z_sorted:W.nsIn K mainGlobals "sorted"=some none)(z_any:W.nsIn K mainGlobals "any"=some none)(z_all:W.nsIn K mainGlobals "all"=some none)(z_isinstance:W.nsIn K mainGlobals "isinstance"=some none)(z_enumerate:W.nsIn K mainGlobals "enumerate"=some none)(z_set:W.nsIn K mainGlobals "set"=some none)(z_min:W.nsIn K mainGlobals "min"=some none)(z_dict:W.nsIn K mainGlobals "dict"=some none): ∃fd:FuncData,(∀(s:Shared) (v:Value),BindsTo s fd ⟨[v],[]⟩ [("script",v)])/\∀base:Heap,K.In base->base.Ns mainGlobals mg->cA l.prog w K mg base eh EI fa fd ["script"] (de K 1 j9):=by
 have e:=hfa.symm.trans (W.mg_of X G u4);cases e
 have bl:Bl K w mg:=⟨W.mg_none_of X G z_len,W.mg_none_of X G z_range,W.mg_none_of X G z_list,W.mg_none_of X G z_tuple,W.mg_none_of X G z_bool,W.mg_none_of X G z_sorted,W.mg_none_of X G z_any,W.mg_none_of X G z_all,W.mg_none_of X G z_isinstance,W.mg_none_of X G z_enumerate,W.mg_none_of X G z_set,W.mg_none_of X G z_min,W.mg_none_of X G z_dict,⟨_,_,_,_,W.mg_of X G ul,um,⟨rfl,rfl,rfl⟩,rfl,(.cons ⟨rfl,⟨_,rfl⟩,⟨_,rfl⟩,by decide +kernel⟩ (.cons ⟨rfl,⟨_,rfl⟩,⟨_,rfl⟩,by decide +kernel⟩ (.cons ⟨rfl,⟨_,rfl⟩,⟨_,rfl⟩,by decide +kernel⟩ (.cons ⟨rfl,⟨_,rfl⟩,⟨_,rfl⟩,by decide +kernel⟩ .nil))))⟩,F_both_added.on X G,F_added.on X G,F_contrary.on X G,F_led_to.on X G,F_is_road.on X G,F_exchanged_rule.on X G,F_exchanged.on X G,F_either_holds.on X G,F_sum_holds.on X G,F_if_holds.on X G,F_rule_holds.on X G,F_broken_rules.on X G,F_holds.on X G,F_beacons_in.on X G,F_is_void.on X G,F_without.on X G,F_beacons_with.on X G,F_is_rising.on X G,F_rows_by_beacon.on X G,F_is_plan_row.on X G,F_come_to.on X G,F_either_is_kept.on X G,F_plan_good.on X G,F_is_sum_row.on X G,F_replaced.on X G,F_sums_good.on X G,F_are_some_of.on X G,F_ahead_of.on X G,F_is_row.on X G,F_holds_where_lit.on X G,F_rows_good.on X G,F_keeper_good.on X G,F_is_place.on X G,F_body_is_known.on X G,F_is_step.on X G,F_is_derivation.on X G,F_derived.on X G,F_is_broken.on X G,F_lead_there_and_back.on X G,F_clash_good.on X G,F_cross_good.on X G,F_late_good.on X G,F_odd_good.on X G,F_first_ones.on X G,F_is_first_part.on X G,F_is_last_part.on X G,F_lone_good.on X G,F_either_paper_good.on X G,F_storm_good.on X G,F_good.on X G,F_law_cell.on X G,F_law_mixed.on X G,F_law_hands.on X G,F_law_own.on X G,F_law_rule.on X G,F_law_kept.on X G,F_law_contrary.on X G,F_law_step.on X G,F_law_plan.on X G,F_law_planted_either.on X G,F_law_sum_rows.on X G,F_law_odd_ones.on X G,F_law_planted_sum.on X G,F_law_rows.on X G,F_law_evenings.on X G,F_law_full.on X G,F_law_lone.on X G,F_law_paths.on X G,F_law_either_papers.on X G,F_law_sum_papers.on X G,F_law_if_papers.on X G,F_law_keepers.on X G,F_law_kept_rule.on X G,F_law_holds_all.on X G,F_law_book.on X G⟩
 have u8:=l6 (st:=(top 87)) u5 u6 u7;refine⟨W.fnOf "law" "law" (aFa (top 87)) (aEa (top 87)) (aCa (top 87)) .none uu uv uw ut uo ux,λs v=>.of_eq rfl,λbase _ _=>?_⟩;exact EH bl u8
theorem walk(hlaw:∀ns:AH,ns.length<=63->j9 [.scr ns]=some (.bl true)){l:W.OpenLaw}{K:Params->W7}(hn:l.most=some 63)(hdf:d.params.defaults=[])(hY:∀(w:World) (h:Heap),YP w h->(K w.params).In h)(F:∀(w:World) (mg:AF) (fa:Addr) (h:Heap),(K w.params).In h->h.Ns mainGlobals mg->mg d.name=some (.ref fa)->
  ∃fd:FuncData,(∀(s:Shared) (u:Value),BindsTo s fd ⟨[u],[]⟩ [("script",u)])/\∀base:Heap,(K w.params).In base->base.Ns mainGlobals mg->cA l.prog w (K w.params) mg base eh EI fa fd ["script"] (de (K w.params) 1 j9)):
 W.WalkO q loose XP YP l.row.toRowW d [] (λf vs=>PySem.call f vs):=
 L2.walk_of (n:=63) (k:=EI) (x:="script") (CX:=λ_=>eh) (sp:=λw=>de (K w.params) 1 j9) hn (by decide) hdf ⟨rfl,by decide,by decide⟩ hY F
  (λw H a ns hl _ hS=>⟨rfl,[.scr ns],.bl true,H,Same.refl H,.one (by rw[Rp];exact⟨a,rfl,hS⟩),hlaw ns hl,λv H' G' g r=>by rw[Rp]at r;exact r⟩) λ_ _ _ _ _ z=>z
end Lw
namespace Lw
variable {SL:AZ}
open PySem L2 M Bk
theorem LZ:∀(l a:AH) (x:Int),x∈aO a l↔x∈a\/x∈l
 | [],a,x=>by simp[aO]
 | k::l,a,x=>by
   rw[aO,LZ];by_cases h:k∈a
   .rw[if_pos h]
    simp;constructor
    .rintro(b|b)
     .exact .inl b
     .exact .inr (.inr b)
    .rintro(b|b|b)
     .exact .inl b
     .subst b;exact .inl h
     .exact .inr b
   .rw[if_neg h]
    simp[or_assoc]
theorem L0:∀(l a:AH),a.Nodup->(aO a l).Nodup
 | [],_,h=>h
 | k::l,a,h=>by
   refine L0 l _ ?_;by_cases b:k∈a
   .rwa [if_pos b]
   .rw[if_neg b,List.nodup_append]
    refine⟨h,by simp,λx d y c z=>?_⟩;simp at c;subst c;exact b (z ▸ d)
theorem EJ{n:Nat}(hn:n<64)(l:AG)(h:∀x∈l,x<n)(u:l.length<4000):∃b:AG,b.Pairwise (·<·)/\(∀x,x∈b↔x∈l)/\iE (l.map nD)=some (b.map nD):=by
 have t:l.map nD=(l.map .ofNat).map .int:=by simp[wn]
 generalize hd:aO [] (l.map .ofNat)=d
 have p:d.Nodup:=by rw[<-hd];exact L0 _ _ .nil
 have c:∀x,x∈d↔∃y∈l,y=x:=λx=>by rw[<-hd,LZ];simp
 have i:=fT d;have q:=iB d
 obtain⟨b,j⟩:∃b:AG,du d=b.map .ofNat:=by
  refine⟨(du d).map Int.toNat,?_⟩;rw[Qf];refine(List.map_id _).symm.trans (Qq λx k=>?_);obtain⟨y,_,rfl⟩:=(c x).mp (i.mem_iff.mp k);simp[wn]
 have e:∀x,x∈b↔x∈l:=λx=>by
  have s:x∈b↔(x:Int)∈du d:=by
   rw[j];constructor
   .exact λh=>Qs h
   .intro h
    obtain⟨y,o,f⟩:=qy h
    have:=by simpa using f
    exact this ▸ o
  rw[s,i.mem_iff,c];constructor
  .rintro⟨y,o,f⟩
   have:y=x:=by lia
   exact this ▸ o
  .exact λh=>⟨x,h,rfl⟩
 have g:=by
  rw[j]at i q
  have m:b.Nodup:=by
   have:=i.nodup_iff.mpr p;rw[List.nodup_iff_pairwise_ne,List.pairwise_map]at this;exact this.imp λh z=>h (by rw[z])
  exact(((List.pairwise_map.mp q).imp λh=>by simpa using h).and m).imp λh=>Nat.lt_of_le_of_ne h.1 h.2
 have r:d.length<=n:=by
  rw[<-i.length_eq,j,qf];exact Ce g λx k=>h x ((e x).mp k)
 refine⟨b,g,e,?_⟩;unfold iE;rw[t,sk];dsimp only;rw[if_pos ⟨by rwa [qf],by lia⟩,hd,j];simp[wn]
def EL(ns:AH)(k:Nat):h7 [.scr ns,.int k]=some (.int (ns.getD k 0)):=by
 rw[h7,Yg (by rfl)];by_cases h:k<ns.length
 .have e:aX (ns.map D.int) k=some (.int ns[k]):=by
   rw[dJ,f_ h];rfl
  simp[DO,Yd,h,e]
 .simp[DO,Yd,h]
def u9(ns:AH)(k:Nat)(i:Int)(a:i=(k:Int)):h7 [.scr ns,.int i]=some (.int (ns.getD k 0)):=by
 subst a;exact EL ns k
def EM(ns:AH)(a b:Nat):cf (ns.map D.int) (some (a:Int)) (some (b:Int))=((ns.drop (min a ns.length)).take (min b ns.length-min a ns.length)).map D.int:=by
 unfold cf;rw[HT.sIx_nat,HT.sIx_nat];simp
theorem iP(c m:Int):∃v:Int,0<=v/\Yr [.int c,.int m]=some (.int v):=by
 refine⟨c%2305843009213693951*m%2305843009213693951,Int.emod_nonneg _ (by decide),?_⟩;rw[Yr,Yg (by rfl)];have a:fP (.int (c%2305843009213693951)) (.int m)=_:=BR ⟨by lia,by lia⟩;simp[KO,Yd,a]
section
variable {c:D}{ev:AJ}(hc:Yc c=some (ev.map D.bl))
include hc
def UM(a:∀s∈l,s.1<ev.length):sN [ax (.ei l),c]=some (.bl (l.any λs=>at' ev s.1==s.2)):=by
 rw[sN,Yg (by rfl)]
 simp[J_,Yd,aq,bP (fe:=CW) (r:=[↑c]) (enc:=af) (λs=>.bl (at' ev s.1==s.2)) (l:=l) (λs b=>by
  simp[CW,hc,iK (a s b)])]
theorem UN(a:∀x∈b,x<ev.length):sO [ax (.su b o),c]=some (.bl (decide ((b.filter (at' ev)).length%2=1)==o)):=by
 have e:∀n:Nat,decide ((n:Int)%2=1)=decide (n%2=1):=λn=>by
  symm
 rw[sO,Yg (by rfl)]
 simp[Ka,Yd,aq,dv (fc:=CY) (fe:=CZ) (r:=[↑c]) (enc:=nD) (at' ev) nD (l:=b) (λs d=>by
  simp[CY,hc,iK (a s d)]) (λs _ _=>by simp[CZ]),e]
def L1(d:∀x∈b,x<ev.length)(e:∀x,h=some x->x<ev.length):sQ [ax (.im b h),c,.bl w]=some (.bl ((b.any λx=>at' ev x != w)||hd ev w h)):=by
 have a:=bP (fe:=C0) (r:=[↑c,↑(.bl w)]) (enc:=nD) (λx=>.bl (at' ev x != w)) (l:=b) (λs i=>by
  simp[C0,hc,iK (d s i),bne])
 rw[sQ,Yg (by rfl)]
 cases f:(b.any _)with
 | true=>simp[sP,Yd,aq,a,f]
 | false=>
   cases h with
   | none=>simp[sP,Yd,aq,a,f,ak,hd]
   | some x=>simp[sP,Yd,aq,a,f,ak,hd,hc,iK (e x rfl)]
def L3{r:Rl}(d:In k ev.length r):oK [aC k,ax r,c]=some (.bl (so k ev r)):=by
 rw[oK,Yg (by rfl)]
 cases r with
 | ei l=>
   obtain⟨rfl,a⟩:=d;simp[oJ,Yd,UM hc a,so]
 | su b o=>
   obtain⟨rfl,a⟩:=d;simp[oJ,Yd,UN hc a,so]
 | im b h=>
   obtain⟨f,a,e⟩:=d;rcases f with rfl|rfl
   .simp[oJ,Yd,L1 hc a e,so]
   .simp[oJ,Yd,L1 hc a e,so]
end
section
variable {c:D}{ev:AJ}(hc:Yc c=some (ev.map D.bl))
include hc
theorem UO{k:Kd}{R:List Rl}(b:∀r∈R,In k ev.length r):sR [Yt k R,c]=some (.lst ((brk k ev R).map nD)):=by
 rw[sR,Yg (by rfl)]
 simp[Kc,Yd,aq,Cc,B8 (fc:=C1) (fe:=C2) (r:=[↑(Yt k R),↑c]) (e1:=λi:Nat=>.int i) (e2:=λi=>ax (gF R i)) (λi=>!so k ev (gF R i)) nD (l:=.range R.length) (λi a=>by
  simp[C1,L3 hc (b (gF R i) (JO (Qb a)))]) (λi _ _=>by simp[C2]),brk]
end
section
variable {c:D}{ev:AJ}(hc:Yc c=some (ev.map D.bl))
include hc
def EN{k:Kd}{R:List Rl}(a:∀r∈R,In k ev.length r):sS [Yt k R,c]=some (.bl (decide (brk k ev R=[]))):=by
 rw[sS,Yg (by rfl)];simp[Ke,Yd,UO hc a]
end
theorem UP{r:Rl}(f:In k n r)(hs:sz r<=999999):sU [aC k,ax r]=some (.lst ((eA r).map nD)):=by
 rw[sU,Yg (by rfl)]
 cases r with
 | ei l=>
   obtain⟨rfl,_⟩:=f;have h:=bP (fe:=C5) (r:=[]) (enc:=af) (λs=>nD s.1) (l:=l) (λs _=>by simp[C5]);simp[sT,Yd,aq,h,eA,wn]
 | su b o=>
   obtain⟨rfl,_⟩:=f;constructor<;>lia
 | im b h=>
   obtain⟨g,_⟩:=f
   have c:¬k=.e:=by grind
   have d:¬k=.s:=by grind
   have e:b.length+1<=1000000:=by simp[sz]at hs;ext
   cases h with
   | none=>simp[sT,Yd,eA,c,ak]
   | some x=>simp[sT,Yd,eA,c,d,ak,bV,e]
noncomputable def bh(s:aP):aP:=(s.1,!s.2)
theorem EO(s:aP):hZ [af s]=some (af (bh s)):=by
 rw[hZ,Yg (by rfl)];constructor<;>ac_nf
def fj:AZ->AZ
 | [a,b]=>if bS b.1 b.2 a.1 a.2=true then [b,a]else [a,b]
 | l=>l
def ER(h:l.length<=2):eU [.lst (l.map af)]=some ((fj l).map af):=by
 match l,h with
 | [],_=>rfl
 | [a],_=>rfl
 | [a,b],_=>
   have e:eU [.lst ([a,b].map af)]=some (if bS b.1 b.2 a.1 a.2=true then _ else _):=rfl;rw[e,fj]
   split<;>rfl
theorem L4{r:Rl}(b:In k n r)(hs:sz r<=999999):lp [aC k,ax r]=some (.bl (bg (ax r) (ax (vd k)))):=by
 rw[lp,Yg (by rfl)];have d:=UP b hs;by_cases a:eA r=[]
 .have c:In k 0 r:=by
   cases r with
   | ei l=>
     simp[eA]at a;subst a;exact⟨b.1,by simp⟩
   | su l o=>
     subst a;exact⟨b.1,by simp⟩
   | im l o=>
     cases o with
     | none=>
       subst a;exact⟨b.1,by simp,by simp⟩
     | some x=>simp[eA]at a
  have f:=L3 (c:=.tup []) (ev:=[]) rfl c
  have e:bg (ax r) (ax (vd k))=!so k [] r:=by
   cases r with
   | ei l=>
     obtain⟨rfl,_⟩:=b;simp[eA]at a;subst a;simp[ax,vd,so]
   | su l o=>
     obtain⟨rfl,_⟩:=b;subst a;cases o<;>simp[ax,vd,so]
   | im l o=>
     cases o with
     | none=>
       subst a
       have:bg .non .non=true:=by simp[bg,aH,PyData.eqv]
       rcases b.1 with rfl|rfl<;>simp[ax,vd,so,ak,hd,this]
     | some x=>simp[eA]at a
  rw[a]at d;simp[C6,Yd,d,f,e]
 .have e:bg (ax r) (ax (vd k))=false:=by
   cases r with
   | ei l=>
     obtain⟨rfl,_⟩:=b
     cases l with
     | nil=>simp[eA]at a
     | cons s l=>simp[ax,vd]
   | su l o=>
     obtain⟨rfl,_⟩:=b
     cases l with
     | nil=>simp[eA]at a
     | cons s l=>constructor<;>ac_nf
   | im l o=>
     have g:∀x,bg (.int x) .non=false:=λx=>by simp[bg,aH,PyData.eqv]
     cases l with
     | nil=>cases o with
       | none=>simp[eA]at a
       | some x=>rcases b.1 with rfl|rfl<;>simp[ax,vd,ak,g]
     | cons s l=>rcases b.1 with rfl|rfl<;>simp[ax,vd]
  simp[C6,Yd,d,a,e]
def dY:Rl->Rl
 | .ei l=>.ei (fj (l.map bh))
 | .su l o=>.su l (o != decide (l.length%2=1))
 | .im l h=>.im l h
def h8:Kd->Kd
 | .e=>.e
 | .s=>.s
 | .i=>.n
 | .n=>.i
theorem ES{k:Kd}{n:Nat}{r:Rl}(h:In k n r)(hs:cz r):In (h8 k) n (dY r)/\cz (dY r):=by
 cases r with
 | ei l=>
   obtain⟨rfl,h⟩:=h;obtain⟨h1,h2⟩:=hs
   match l,h1,h2,h with
   | [],_,_,h=>exact⟨⟨rfl,h⟩,by simp[dY,fj,cz]⟩
   | [(x,p)],_,_,h=>
     simp at h;simp[dY,fj,bh,cz,Bk.In,h8,h]
   | [(x,p),(y,q)],_,h2,h=>
     simp[gE]at h2 h;simp only[dY,Qd,List.map_nil,fj,bh];rcases h2 with e|⟨rfl,rfl,rfl⟩
     .have h1:¬((y:Int)=x):=by ac_nf
      have h2:¬((y:Int)<x):=by ac_nf
      simp[bS,h1,h2,Bk.In,cz,h8,h,gE,e]
     .simp[bS,Bk.In,cz,h8,h,gE]
 | su l o=>
   obtain⟨rfl,h⟩:=h;exact⟨⟨rfl,h⟩,hs⟩
 | im l h=>
   obtain⟨hk,h⟩:=h;refine⟨⟨?_,h⟩,hs⟩;rcases hk with rfl|rfl
   .exact .inr rfl
   .exact .inl rfl
theorem UQ{r:Rl}(h:In k n r)(hs:cz r):sM [aC k,ax r]=some (ax (dY r)):=by
 rw[sM,Yg (by rfl)]
 cases r with
 | ei l=>
   obtain⟨rfl,_⟩:=h;have b:=ER (l:=l.map bh) (by simpa using hs.1);simp[wn]at b;simp[sL,Yd,aq,bP (fe:=CU) (r:=[]) (enc:=af) (λs=>af (bh s)) (l:=l) (λs _=>by simp[CU,EO]),b,dY,Cd]
 | su l o=>
   obtain⟨rfl,_⟩:=h
   have e:((l.length:Int)%2=1)↔(l.length%2=1):=by constructor<;>lia
   simp[sL,Yd,dY];cases o<;>by_cases h:l.length%2=1<;>simp[ax,e]
 | im l h=>
   obtain⟨c,_⟩:=h;rcases c with rfl|rfl<;>simp[sL,Yd,dY]
def UR(k:Kd):qV gt_EXCHANGED_KINDS (aC k)=some (aC (h8 k)):=by
 have h:gt_EXCHANGED_KINDS.lookup (kS k)=some (kS (h8 k)):=by cases k<;>decide +kernel
 show(gt_EXCHANGED_KINDS.lookup _).map _=_;rw[h];rfl
def ET{R:List Rl}(h:∀r∈R,In k n r/\cz r):lk [Yt k R]=some (Yt (h8 k) (R.map dY)):=by
 rw[lk,Yg (by rfl)];simp[J8,Yd,Yt,aq,UR,bP (fe:=CV) (r:=[↑(aC k)]) (enc:=ax) (λr=>ax (dY r)) (l:=R) (λr b=>by simp[CV,UQ (h r b).1 (h r b).2]),wn]
noncomputable def kn(b a:AG):Bool:=b.all λx=>decide (x∈a)
abbrev bA:=List Nat×AN
def aW(r:bA):D:=.tup [.tup (r.1.map nD),ak r.2]
structure US(r:bA):Prop where
 b:∀x∈r.1,x<60
 h:∀x,r.2=some x->x<60
 p:r.1.Pairwise (·<·)
 l:r.1.length<=3
@[simp] def pd(r:bA):Yc (aW r)=some [.tup (r.1.map nD),ak r.2]:=nr rfl
def cx(R:List bA):D:=.tup [.str "ifs",.tup (R.map aW)]
@[simp] def iQ(R:List bA):Yc (cx R)=some [.str "ifs",.tup (R.map aW)]:=nr rfl
def L5(r:bA)(fs:AG)(hd:Yc d=some (fs.map nD)):oR [aW r,d]=some (.bl (kn r.1 fs)):=by
 rw[oR,Yg (by rfl)];simp[Kv,Yd,aq,bP (fe:=DB) (r:=[↑d]) (enc:=nD) (λx=>.bl (decide (x∈fs))) (l:=r.1) (λx _=>by simp[DB,bK x fs false hd]),kn]
def EU(R:List bA)(i:Int):iN [cx R,.int i]=some (.bl (decide (0<=i/\i<R.length))):=by
 rw[iN,Yg (by rfl)];by_cases h:0<=i<;>simp[Dz,Yd,h]
noncomputable def aE(R:List bA)(i:Int):bA:=R.getD i.toNat ([],none)
theorem j_(h:0<=i/\i<R.length):aX (R.map aW) i=some (aW (aE R i)):=by
 rw[dJ,n_ (j:=i.toNat) (v:=aE R i) (by(simp;lia)) (by rw[aE,List.getD_eq_getElem?_getD,qr (by ext)];simp)];rfl
def gG(R:List bA)(fs:AG)(i:Int):Bool:=decide (0<=i/\i<R.length)&&((aE R i).2.isSome&&kn (aE R i).1 fs)
def UT(R:List bA){d:D}(fs:AG)(i:Int)(hd:Yc d=some (fs.map nD)):tE [cx R,d,.int i]=some (.bl (gG R fs i)):=by
 rw[tE,Yg (by rfl)];by_cases h:0<=i/\i<R.length
 .have h1:=j_ h
  have h2:=L5 (aE R i) fs hd;have h3:=EU R i;rw[wh h]at h3;unfold gG;rw[wh h]
  cases hh:(aE R i).2 with
  | none=>simp[tD,Yd,h3,h1,hh,ak]
  | some x=>simp[tD,Yd,h3,h1,h2,hh,ak]
 .have h3:=EU R i
  rw[wj h]at h3;unfold gG;rw[wj h];simp[tD,Yd,h3]
noncomputable def eK(r:bA):Nat:=r.2.getD 0
noncomputable def cn(R:List bA):AG->AH->Bool
 | _,[]=>true
 | fs,i::is=>gG R fs i&&cn R (fs++[eK (aE R i)]) is
def L6{R:List bA}{fs:AG}{i:Int}(h:gG R fs i=true):(0<=i/\i<R.length)/\ak (aE R i).2=nD (eK (aE R i)):=by
 unfold gG at h;simp only[Qe,wg]at h;refine⟨h.1,?_⟩;obtain⟨x,hx⟩:=Option.isSome_iff_exists.mp h.2.1;rw[eK,hx];rfl
theorem L7(R:List bA)(c d:D):∀(is:AH) (fs:AG) (y:AS),fs.length+is.length<=1000->
 (cn R fs is=true/\∃ρ',M.forM (ai 4) lr (is.map D.int) [↑(cx R),↑c,↑d,some (.ow (fs.map nD)),y]=some (.nx ρ'))\/
 (cn R fs is=false/\M.forM (ai 4) lr (is.map D.int) [↑(cx R),↑c,↑d,some (.ow (fs.map nD)),y]=some (.rt (.bl false)))
 | [],fs,y,_=>.inl ⟨rfl,_,rfl⟩
 | i::is,fs,y,hl=>by
   have hs:=UT R (d:=.lst (fs.map nD)) fs i rfl;rw[cn,Qd,M.forM]
   cases h:gG R fs i with
   | false=>
     rw[h]at hs;right;refine⟨rfl,?_⟩;simp[lr,hs]
   | true=>
     rw[h]at hs;obtain⟨h1,h2⟩:=L6 h;have ih:=L7 R c d is (fs++[eK (aE R i)]) (↑(.int i)) (by simp at hl ⊢;ac_nf)
     have hb:lr [↑(cx R),↑c,↑d,some (.ow (fs.map nD)),↑(.int i)]=some (.nx [↑(cx R),↑c,↑d,some (.ow ((fs++[eK (aE R i)]).map nD)),↑(.int i)]):=by
      have hcap:fs.length<1000000:=by simp at hl;ac_nf
      simp[lr,hs,j_ h1,h2,aT,hcap]
     simp only[BP,List.set,qd,hb,Bool.true_and];exact ih
def L8(R:List bA){c d:D}(fs:AG)(is:AH)(hc:Yc c=some (fs.map nD))(hd:Yc d=some (is.map D.int))(hl:fs.length+is.length<=1000):oS [cx R,c,d]=some (.bl (cn R fs is)):=by
 rw[oS,Yg (by rfl)];rcases L7 R c d is fs none hl with⟨h1,ρ',h2⟩|⟨h1,h2⟩
 .simp[DC,Yd,hc,hd,h2,h1]
 .simp[DC,Yd,hc,hd,h2,h1]
noncomputable abbrev fl(n:Nat)(P:AK):AG:=(List.range n).filter P
theorem kc(d:l.Pairwise (·<·))(h:∀x∈l,x<n):l=fl n λx=>decide (x∈l):=by
 have c:(fl n λx=>decide (x∈l)).Pairwise _:=List.pairwise_lt_range.filter _;have e:∀{m:AG},m.Pairwise (·<·)->_:=λh=>h.imp qm
 exact((List.perm_ext_iff_of_nodup (e d) (e c)).mpr λx=>by
  ext).eq_of_pairwise (λa b _ _ c f=>absurd (Nat.lt_trans c f) (Nat.lt_irrefl _)) d c
theorem pe(l:AG):cw (l.map nD)=some (l.map λx:Nat=>(x:Int)):=by ext
theorem EV(n:Nat)(P:AK):(fl n P).length<=n:=by grind
theorem L9(hn:m.Nodup)(h:∀x:Int,x∈m↔∃y:Nat,y∈fl n R/\(y:Int)=x):du m=(fl n R).map λy:Nat=>(y:Int):=by
 have hs:((fl n R).map λy:Nat=>(y:Int)).Pairwise (·<=·):=by
  rw[List.pairwise_map]
  exact(List.pairwise_lt_range.filter R).imp λh=>by lia
 have hnd:((fl n R).map λy:Nat=>(y:Int)).Nodup:=by
  rw[List.nodup_iff_pairwise_ne,List.pairwise_map]
  exact(List.pairwise_lt_range.filter R).imp λh=>by lia
 have hperm:m.Perm ((fl n R).map λy:Nat=>(y:Int)):=(List.perm_ext_iff_of_nodup hn hnd).mpr λx=>by
  rw[h,List.mem_map]
 exact W.ksm_same ((fT m).trans hperm) (iB m) hs
theorem EW(q:n<64)(P Q:AK):g7 ((fl n P).map nD) ((fl n Q).map nD)=some ((fl n λx=>P x != Q x).map nD):=by
 unfold g7;rw[pe,pe,qd,qd];generalize i:((fl n P).map _)=a;generalize t:((fl n Q).map _)=b
 have s:a.length<=n:=by symm
 have m:b.length<=n:=by symm
 have d:∀l,(aO [] l).length<=l.length:=λl=>by
  have:∀(r c:AH),(aO c r).length<=c.length+r.length:=λr=>by
   induction r with
   | nil=>intro c;simp[aO]
   | cons k r j=>
     intro c;rw[aO];symm
  symm
 have f:∀x,x∈dH a b↔∃y:Nat,y∈(fl n λx=>P x != Q x)/\y=x:=λx=>by
  rw[I_,<-t];symm
 have h:(dH a b).length<=n:=by
  have e:=L9 (zV a b) f;have:=(fT (dH a b)).length_eq;symm
 have g:(b.all λk=>decide (0<=k/\k<1024))=true:=by
  symm
 have o:=d a;have p:=d b;rw[if_pos ⟨by ac_nf,by ac_nf,by ac_nf,by ac_nf,g,by ac_nf⟩,L9 (zV a b) f,Qf];rfl
abbrev bX(P:AK)(o:Bool):D:=.tup [.tup ((fl 60 P).map nD),.bl o]
def L_(P Q:AK)(o a:Bool):jV [bX P o,bX Q a]=some (bX (λx=>P x != Q x) (o != a)):=by
 rw[jV,Yg (by rfl)];have e:(!_)=(o != a):=rfl;have d:Yd 2 [bX P o,bX Q a]=[_,_]:=rfl;have b:Yc (bX P o)=some _:=rfl;have c:Yc (bX Q a)=some _:=rfl;rw[d];simp[JZ,EW (n:=60) (by decide) P Q,b,c,e]
abbrev Sm:=(AK)×Bool
abbrev bN(r:Sm):D:=bX r.1 r.2
noncomputable def rg(R:List Sm)(p:Nat):Sm:=R.getD p (λ_=>false,false)
def bF(R:List Sm)(ps:AG)(x:Nat):Nat:=(ps.filter λp=>decide (x∈fl 60 (rg R p).1)).length
def cX(R:List Sm)(ps:AG):Bool:=ps.foldl (λo p=>o != (rg R p).2) false
theorem Ma(R:List Sm)(ps:AG)(p x:Nat):bF R (ps++[p]) x=if x∈fl 60 (rg R p).1 then bF R ps x+1 else bF R ps x:=by
 unfold bF
 split<;>ext
def Mb(R:List Sm)(ps:AG)(p:Nat):cX R (ps++[p])=(cX R ps != (rg R p).2):=by
 unfold cX;rw[List.foldl_append];rfl
theorem UU(h:∀x,x<60->P x=Q x):bX P o=bX Q o:=by
 have:=List.filter_congr λx a=>h x (Qb a);grind
def EX{R:List Sm}{p:Nat}(h:p<R.length):aX (R.map bN) (p:Int)=some (bN (rg R p)):=by
 rw[dJ,f_ h];simp[rg,h]
abbrev cG(R:List Sm)(ps:AG):D:=bX (λx=>decide (bF R ps x%2=1)) (cX R ps)
theorem EY(R:List Sm)(q:AG)(p:Nat):bX (λx=>decide (bF R q x%2=1)!=(rg R p).1 x) (cX R q != (rg R p).2)=cG R (q++[p]):=by
 unfold cG;rw[Mb];refine UU λx hx=>?_;rw[Ma];by_cases h:(rg R p).1 x=true
 .rw[if_pos (List.mem_filter.mpr ⟨List.mem_range.mpr hx,h⟩),h]
  by_cases z:bF R q x%2=1
  .have z2:¬(bF R q x+1)%2=1:=by ac_nf
   simp[z,z2]
  .have z2:(bF R q x+1)%2=1:=by ac_nf
   simp[z,z2]
 .rw[if_neg λz=>h (Qc z).2]
  simp[h]
theorem EZ{cp:D}{R:List Sm}{ps:AG}(hp:Yc cp=some (ps.map nD))(hlt:∀p∈ps,p<R.length):oH [.tup [.str "sums",.tup (R.map bN)],cp]=some (cG R ps):=by
 rw[oH,Yg (by rfl)];generalize hb:D.tup [.str "sums",.tup (R.map bN)]=Bo
 have hbi:Yc Bo=some [.str "sums",.tup (R.map bN)]:=by rw[<-hb];rfl
 have h0:cG R []=.tup [.tup [],.bl false]:=by
  have:(fl 60 λx=>decide (bF R [] x%2=1))=[]:=by
   rw[List.filter_eq_nil_iff];intro x _;simp[bF]
  unfold cG bX;rw[this];rfl
 obtain⟨ρ1,e1,y3,rfl⟩:=Yv (gt:=ai 3) (fb:=CN) nD (λpre ρ=>∃y3:AS,ρ=[↑Bo,↑cp,↑(cG R pre),y3]) ps []
  [↑Bo,↑cp,↑(.tup [.tup [],.bl false]),none] ⟨none,by rw[h0]⟩ (by
   rintro q p r ρ e ⟨y3,rfl⟩;have hpl:p<R.length:=hlt p (by rw[Qj]at e;rw[e];simp);have hat:=EX hpl;have hba:=L_ (λx=>decide (bF R q x%2=1)) (rg R p).1 (cX R q) (rg R p).2;rw[EY]at hba;refine⟨_,[↑Bo,↑cp,↑(cG R (q++[p])),↑(nD p)],rfl,?_,_,rfl⟩;have hpn:nD p=.int (p:Int):=rfl;rw[hpn];generalize cG R (q++[p])=T2,R.map bN=A at *;have hat':aX A (p:Int)=some (bX (rg R p).1 (rg R p).2):=hat;generalize bX (rg R p).1 (rg R p).2=S at *
   change jV [cG R q,S]=_ at hba
   generalize cG R q=T1 at *
   simp[CN,hbi,hat',hba])
 have hst:Yd 4 [Bo,cp]=[↑Bo,↑cp,none,none]:=rfl;rw[hst];rw[Qj]at e1;generalize cG R ps=T at *;simp[J1,hp]at e1 ⊢;rw[e1];simp
def E3{l:AG}(a:l.Pairwise (·<·))(h:∀x∈l,x<60)(o:Bool):D.tup [.tup (l.map nD),.bl o]=bN (λx=>decide (x∈l),o):=by
 unfold bN bX;rw[<-kc a h]
noncomputable def av(b:Bool):D:=.str (if b=true then .ofString "keeper" else .ofString "storm")
theorem UV(c:Int)(n:Nat)(hn:n<=1000):∃hs:AJ,hs.length=n/\tW [.int c,.int n]=some (.tup (hs.map av)):=by
 obtain⟨v,h,g⟩:=iP c 1442695040888963407;rw[tW,Yg (by rfl)];have e:=fE (n:=n) (by lia) (by lia);rw[dX]at e
 have f:=bP (fe:=tV) (r:=[↑(.int v)]) (enc:=λi:Nat=>.int (0+i)) (λi=>av (decide (v/2^i%2=0))) (l:=.range ((n:Int)-0).toNat) (λi _=>by
  have d:=jA v i
  have b:v/2^i%2=0\/v/2^i%2=1:=by lia
  rcases b with b|b
  .simp[tV,d,b,av]
  .simp[tV,d,b,av])
 refine⟨(List.range n).map λi=>decide (v/2^i%2=0),by simp,?_⟩;simp[KP,Yd,g,e,aq]at f ⊢;rw[f];simp[wn]
theorem Mc(l:AG)(hn:l.Nodup)(j:l.length<64):∃a:AG,a.Perm l/\a.Pairwise (·<·)/\eU [.lst (l.map nD)]=some (a.map nD):=by
 have i:l.map nD=(l.map .ofNat).map .int:=by ext
 have g:=fT (l.map .ofNat);have f:=iB (l.map .ofNat)
 have d:∃a:AG,du (l.map .ofNat)=a.map .ofNat:=by
  refine⟨(du (l.map .ofNat)).map Int.toNat,?_⟩;rw[Qf];refine(List.map_id _).symm.trans (Qq λx k=>?_);grind
 obtain⟨a,d⟩:=d;rw[d]at g f
 have c:=by
  have:=g.map Int.toNat;simpa [wn]using this
 refine⟨a,c,?_,?_⟩
 .have e:a.Pairwise (·<=·):=by
   have:=List.pairwise_map.mp f
   ext
  exact(e.and (c.nodup_iff.mpr hn)).imp λh=>Nat.lt_of_le_of_ne h.1 h.2
 .show qQ _=_
  rw[i];unfold qQ;rw[sk]
  ext
theorem Md(l:AZ)(h:l.length<=2)(hn:(l.map (·.1)).Nodup):∃d:AZ,d.Perm l/\d.Pairwise gE/\eU [.lst (l.map af)]=some (d.map af):=by
 match l,h,hn with
 | [],_,_=>exact⟨[],.refl _,.nil,rfl⟩
 | [a],_,_=>exact⟨[a],.refl _,by simp,rfl⟩
 | [a,b],_,hn=>
   have f:=by simpa using hn
   have e:eU [.lst ([a,b].map af)]=some (if bS b.1 b.2 a.1 a.2=true then _ else _):=rfl;obtain⟨x,p⟩:=a;obtain⟨y,q⟩:=b
   cases c:bS y q x p with
   | true=>
     refine⟨[(y,q),(x,p)],.swap _ _ [],?_,by rw[e];simp[c]⟩;unfold bS at c;rw[if_neg (λz=>f (by lia))]at c;simp at c;simp[gE,c]
   | false=>
     refine⟨[(x,p),(y,q)],.refl _,?_,by rw[e];simp[c]⟩;unfold bS at c
     have:x<y:=by ext<;>lia
     simp[gE,this]
theorem Me(k:Kd)(c:Int)(st n:Nat)(h0:st<n)(hn:n<=1000):∃r:Rl,In k n r/\cz r/\(∀x∈eA r,st<=x)/\oY [aC k,.int c,.int st,.int n]=some (ax r):=by
 obtain⟨v,hv0,hv⟩:=iP c 1181783497276652981
 have S:(0:Int)<(n:Int)-st:=by ext
 have hd1:(n:Int)-st<1073741824:=by lia
 have w:∀x:Int,aD (.int x) (.int ((n:Int)-st))=some (.int (x%((n:Int)-st))):=λx=>k9 S;have O:∀x:Int,cv (.int x) (.int ((n:Int)-st))=some (.int (x/((n:Int)-st))):=λx=>BS S hd1
 have V:∀x:Int,∃b:Nat,st<=b/\b<n/\(st:Int)+x%((n:Int)-st)=(b:Int):=λx=>by
  have Z:=Int.emod_nonneg x (show(n:Int)-st≠0 by lia);have h2:=Int.emod_lt_of_pos x S;exact⟨((st:Int)+x%((n:Int)-st)).toNat,by lia,by lia,by lia⟩
 have hst:Yd 8 [aC k,.int c,.int st,.int n]=[↑(aC k),↑(.int c),↑(.int st),↑(.int n),none,none,none,none]:=rfl;rw[oY,Yg (by rfl),hst];obtain⟨u,hsm,hsa⟩:=jO (l:=([1,2,2,2,1,2,3,4]:AH)) (i:=v%8) (by lia) (by simp;lia)
 have hsz0:1<=u/\u<=4:=by
  simp at hsm;lia
 have C:aX [D.int 1,D.int 2,D.int 2,D.int 2,D.int 1,D.int 2,D.int 3,D.int 4] (v%8)=some (.int u):=by
  rw[show[D.int 1,D.int 2,D.int 2,D.int 2,D.int 1,D.int 2,D.int 3,D.int 4]=([1,2,2,2,1,2,3,4]:AH).map D.int from rfl,dJ,hsa];rfl
 have F:∀ρ:Ro,jw [1,2,2,2,1,2,3,4] ρ=some (([1,2,2,2,1,2,3,4]:AH).map D.int):=λρ=>by
  unfold jw;rw[if_pos (by decide)]
 have K:∀(f:Int),0<=f->f<=4->∃(l:AG) (d:Int) (y:AS),(l.length:Int)<=f/\l.Nodup/\(∀x∈l,st<=x/\x<n)/\
  M.forM (ai 7) oX ((List.range (f-0).toNat).map λi:Nat=>D.int (0+(i:Nat))) [↑(aC k),↑(.int c),↑(.int st),↑(.int n),↑(.int (v/8)),↑(.int f),some (.ow []),none] =
   some (.nx [↑(aC k),↑(.int c),↑(.int st),↑(.int n),↑(.int d),↑(.int f),some (.ow (l.map nD)),y]):=by
  intro f hs0 hs4
  obtain⟨ρ',A,l,d,y,hl,o,p,rfl⟩:=Yv (gt:=ai 7) (fb:=oX) (λi:Nat=>D.int (0+(i:Nat))) (λpre ρ=>∃(l:AG) (d:Int) (y:AS),l.length<=pre.length/\l.Nodup/\(∀s∈l,st<=s/\s<n)/\
   ρ=[↑(aC k),↑(.int c),↑(.int st),↑(.int n),↑(.int d),↑(.int f),some (.ow (l.map nD)),y]) (List.range (f-0).toNat) []
   [↑(aC k),↑(.int c),↑(.int st),↑(.int n),↑(.int (v/8)),↑(.int f),some (.ow []),none] ⟨[],v/8,none,qv _,.nil,by simp,rfl⟩ (by
    rintro q a r ρ e ⟨l,d,y,hl,o,p,rfl⟩
    have hq:q.length<1000:=by have:=congrArg List.length e;simp at this;lia
    have hcap:l.length<1000000:=by lia
    obtain⟨b,H,J,hb⟩:=V d;have T:=bK (c:=.lst (l.map nD)) b l true rfl;simp only[nD]at T;by_cases Y:b∈l
    .refine⟨_,_,rfl,?_,l,d/((n:Int)-st),↑(.int (0+(a:Int))),by simp;lia,o,p,rfl⟩
     simp[oX,w,O,hb,T,Y,nD]
    .refine⟨_,_,rfl,?_,l++[b],d/((n:Int)-st),↑(.int (0+(a:Int))),by simp;lia,?_,?_,rfl⟩
     .simp[Zb,oX,w,O,hb,T,Y,aT,hcap,nD]
     .rw[List.nodup_append]
      refine⟨o,by simp,?_⟩;intro x j y hy z;simp at hy;subst hy;exact Y (z ▸ j)
     .intro s g
      rcases qw g with g|g
      .exact p s g
      .simp at g
       subst g
       exact⟨H,J⟩)
  refine⟨l,d,y,?_,o,p,A⟩;simp at hl
  ext
 by_cases N:k=.e
 .subst N
  obtain⟨f,hsz,hs0,hs2⟩:∃f:Int,(if (2:Int)<u then 2 else u)=f/\0<=f/\f<=2:=⟨_,rfl,by split<;>lia,by split<;>lia⟩
  obtain⟨l,d,y,hl,o,p,A⟩:=K f hs0 (by lia);have L:=fE (n:=f) (by lia) (by lia);rw[dX]at L;have hr2:=fE (n:=(l.length:Int)) (by lia) (by lia);rw[dX]at hr2
  have hc:=bP (fe:=tX) (r:=[↑(.lst (l.map nD)),↑(.int d)]) (enc:=λi:Nat=>D.int (0+(i:Nat))) (λi:Nat=>af (l.getD i 0,decide (d/2^i%2=1))) (l:=List.range ((l.length:Int)-0).toNat) (λi hi=>by
   have hi':i<l.length:=by simpa using hi
   have Z:=jA d i
   have e0:(0:Int)+(i:Int)=(i:Int):=by lia
   have hat:aX (l.map nD) (i:Int)=some (.int (l.getD i 0:Nat)):=by
    rw[dJ,f_ hi'];simp[hi',nD]
   rw[e0]
   simp[tX,Z,hat,af])
  generalize I:(List.range l.length).map (λi:Nat=>((l.getD i 0,decide (d/2^i%2=1)):aP))=sl
  have Q:sl.map (·.1)=l:=by
   rw[<-I,Qf];refine List.ext_getElem nofun λi Z h2=>?_;simp[h2]
  obtain⟨U,hp,E,g⟩:=Md sl (by rw[<-I];simp;lia) (by rw[Q];exact o);have h:∀s∈U,st<=s.1/\s.1<n:=λs g=>p s.1 (by rw[<-Q];exact Qs (hp.mem_iff.mp g));refine⟨.ei U,⟨rfl,λs g=>(h s g).2⟩,⟨by rw[hp.length_eq,<-I];simp;lia,E⟩,λx j=>?_,?_⟩
  .obtain⟨s,hs',rfl⟩:=qy j
   exact(h s hs').1
  .have hc':ej (ai 0) tY tX [none,↑(.lst (l.map nD)),↑(.int d)] ((List.range ((l.length:Int)-0).toNat).map λi:Nat=>D.int (0+(i:Nat)))=some (sl.map af):=by
    rw[hc,<-I,Qf];constructor<;>lia
   simp[t4,hv,F,C,hsz,L]at A ⊢;rw[A];simp[hr2,aq]at hc' ⊢;rw[hc'];simp[g,ax]
 .obtain⟨l,d,y,hl,o,p,A⟩:=K u (by lia) hsz0.2
  have L:=fE (n:=u) (by lia) (by lia);rw[dX]at L;obtain⟨U,hp,E,g⟩:=Mc l o (by lia);have h:∀s∈U,st<=s/\s<n:=λs g=>p s (hp.mem_iff.mp g)
  have W:t4 [↑(aC k),↑(.int c),↑(.int st),↑(.int n),none,none,none,none]=tZ [↑(aC k),↑(.int c),↑(.int st),↑(.int n),↑(.int d),↑(.int u),some (.ow (l.map nD)),y]:=by
   simp[-tZ,t4,hv,F,C,L,N]at A ⊢;rw[A];simp[-tZ,N]
  rw[W];by_cases t:k=.s
  .subst t
   refine⟨.su U (decide (d%2=1)),⟨rfl,λs g=>(h s g).2⟩,E,λx j=>(h x j).1,?_⟩;simp[g,ax]
  .have G:k=.i\/k=.n:=by cases k<;>simp at N t ⊢
   by_cases h4:d%4=0
   .refine⟨.im U none,⟨G,λs g=>(h s g).2,λx j=>by cases j⟩,E,λx j=>(h x j).1,?_⟩
    simp[g,ax,t,h4,N,ak]
   .obtain⟨b,H,J,hb⟩:=V (d/4)
    by_cases Z:d%4=1
    .have hcut:cf (l.map nD) (some 1) none=(l.map nD).drop 1:=by
      have Y:=HT.sIx_nat (l.map nD).length 0 1;unfold cf;simp at Y;simp[Y,HT.sIx]
      cases l with
      | nil=>simp
      | cons a l=>simp;exact List.take_of_length_le nofun
     obtain⟨m,hpm,hpwm,R⟩:=Mc (l.drop 1) (o.sublist (List.drop_sublist 1 l)) (by simp;lia);have hmm:∀s∈m,st<=s/\s<n:=λs g=>p s (List.mem_of_mem_drop (hpm.mem_iff.mp g));refine⟨.im m (some b),⟨G,λs g=>(hmm s g).2,λx j=>by cases j;exact J⟩,hpwm,λx j=>?_,?_⟩
     .simp[Zb,eA]at j
      rcases j with j|rfl
      .exact(hmm x j).1
      .exact H
     .simp at R
      simp[g,ax,t,h4,Z,N,ak,hcut,w,hb,R]
    .refine⟨.im U (some b),⟨G,λs g=>(h s g).2,λx j=>by cases j;exact J⟩,E,λx j=>?_,?_⟩
     .simp[Zb,eA]at j
      rcases j with j|rfl
      .exact(h x j).1
      .exact H
     .simp[Zb,g,ax,t,h4,Z,N,ak,w,hb]
def pf(a b:Bool):ay false (av a) (av b)=some (a==b):=by
 cases a<;>cases b<;>decide +kernel
noncomputable def aI(hs:AJ)(st:Nat)(b:Bool):AG:=(List.range hs.length).filter λi=>decide (st<=i)&&(hs.getD i false==b)
theorem Yk(hs:AJ)(h:Yc c=some (hs.map av))(q:hs.length<=1000)(st:Nat)(n:st<=hs.length)(b:Bool):jX [c,.int st,av b]=some (.lst ((aI hs st b).map nD)):=by
 rw[jX,Yg (by rfl)];have g:=oe (a:=st) (n:=hs.length) (by lia) (by lia) (by lia) (by lia);rw[dX]at g
 have d:=dv (fc:=C8) (fe:=C9) (r:=[↑c,↑(av b)]) (enc:=λi:Nat=>D.int (st+i)) (λi=>hs.getD (st+i) false==b) (λi=>nD (st+i)) (l:=List.range ((hs.length:Int)-st).toNat) (λi p=>by
  have e:st+i<hs.length:=by grind
  have k:st+(i:Int)=((st+i:Nat)):=by lia
  have f:aX (hs.map av) ((st+i:Nat))=some (av (hs.getD (st+i) false)):=by
   rw[dJ,f_ e];simp[e]
  rw[k]
  simp only[C8,k8,sr,sq,qd,rX,h,f,pf]) (λi _ _=>by simp[C9,nD])
 have m:(((List.range ((hs.length:Int)-st).toNat).filter λi=>hs.getD (st+i) false==b).map λi=>nD (st+i))=(aI hs st b).map nD:=by
  unfold aI
  have o:List.range hs.length=List.range st++(List.range (hs.length-st)).map (st+·):=by
   rw[<-List.range_add]
   ext
  rw[o,List.filter_append,List.filter_map]
  have l:(List.range st).filter (λi=>decide (st<=i)&&(hs.getD i false==b))=[]:=by
   rw[List.filter_eq_nil_iff];grind
  rw[l,Qj];simp[wn]
 have j:((hs.length:Int)-st).toNat=hs.length-st:=by ext
 rw[m,j]at d;simp[Kh,Yd,h,g,aq,d]
theorem gc{c:D}(hs:AJ)(h:Yc c=some (hs.map av))(r:hs.length<=1000)(st:Nat)(q:st<=hs.length)(b:Bool):eJ [c,.int st,av b]=some (.lst ((aI hs st b).map nD)):=by
 rw[eJ,Yg (by rfl)];have g:=oe (a:=st) (n:=hs.length) ∅ ∅ ∅ ∅;rw[dX]at g
 have d:=dv (fc:=DP) (fe:=DR) (r:=[↑c,↑(av b)]) (enc:=λi:Nat=>D.int (st+i)) (λi=>hs.getD (st+i) false==b) (λi=>nD (st+i)) (l:=List.range ((hs.length:Int)-st).toNat) (λi o=>by
  have e:st+i<hs.length:=by simp at o;ac_nf
  have l:st+(i:Int)=((st+i:Nat)):=by ac_nf
  have f:aX (hs.map av) ((st+i:Nat))=some (av (hs.getD (st+i) false)):=by
   rw[dJ,f_ e];simp[e]
  rw[l]
  simp only[DP,k8,sr,sq,qd,rX,h,f,pf]) (λi _ _=>by simp[DR,nD])
 have k:(((List.range ((hs.length:Int)-st).toNat).filter λi=>hs.getD (st+i) false==b).map λi=>nD (st+i))=(aI hs st b).map nD:=by
  unfold aI
  have p:List.range hs.length=List.range st++(List.range (hs.length-st)).map (st+·):=by
   rw[<-List.range_add]
   congr 1
   ac_nf
  rw[p,List.filter_append,List.filter_map]
  have m:(List.range st).filter (λi=>decide (st<=i)&&(hs.getD i false==b))=[]:=by
   rw[List.filter_eq_nil_iff];intro x j;have:=Qb j;ac_nf
  rw[m,Qj];simp[wn]
 have n:((hs.length:Int)-st).toNat=hs.length-st:=by ac_nf
 rw[k,n]at d;simp[KQ,Yd,h,g,aq,d]
def lz(h:x∈aI hs st b):x<hs.length:=Qb (Qc h).1
def lA(x:Nat)(l:AG):bc false (.int (x:Int)) (.lst (l.map nD))=some (decide (x∈l)):=bK x l false rfl
def E4(x:Nat)(l:AG):bc true (.int (x:Int)) (.lst (l.map nD))=some (!decide (x∈l)):=bK x l true rfl
def eL(k:Kd)(r:Rl):Bool:=bg (ax r) (ax (vd k))
def UW{R:List Rl}(b:∀r∈R,In k n r/\sz r<=999999):tG [Yt k R]=some (.bl (R.any (eL k))):=by
 rw[tG,Yg (by rfl)]
 simp[Kz,Yd,aq,bP (fe:=DE) (r:=[↑(Yt k R)]) (enc:=ax) (λr=>.bl (eL k r)) (λr a=>by
  have:=L4 (b r a).1 (b r a).2
  simp[DE,this,eL])]
abbrev eM:D:=.tup [.str "broken"]
def E5{r:Rl}{n:Nat}(h:In .n n r):eL .i (dY r)=eL .n r:=by
 cases r with
 | ei l=>cases h.1
 | su l o=>cases h.1
 | im l o=>rfl
def dw{a b:String}(h:(Str.ofString a==Str.ofString b)=false)(neg:Bool):ay neg (.str (Str.ofString a)) (.str (Str.ofString b))=some neg:=by
 rw[eZ nofun nofun,JC,h];cases neg<;>rfl
def eC(a:String)(neg:Bool):ay neg (.str (Str.ofString a)) (.str (Str.ofString a))=some (!neg):=by
 rw[eZ nofun nofun,JC];cases neg<;>simp
theorem Mf(j:Nat){k:Kd}(hk:k≠.n){n:Nat}{R:List Rl}(hR:∀r∈R,In k n r/\cz r)(hn:n<=60){c:D}{hs:AJ}(hc:Yc c=some (hs.map av))(hl:hs.length<=1000){st:Nat}(hst:st<=hs.length):
 Yp (j+1) [eM,Yt k R,c,.int st]=some (.bl (R.any (eL k))):=by
 rw[Yp,Yg (by rfl)];have h1:=UW (k:=k) (n:=n) (R:=R) (λr hr=>⟨(hR r hr).1,by have:=Cf (hR r hr).1 (hR r hr).2;ac_nf⟩);have b1:=Yk hs hc hl st hst true;have b2:=Yk hs hc hl st hst false;simp[av]at b1 b2;have e1:=eC "broken" false;simp at e1;simp[jZ,Yd,hk,b1,b2,e1,h1]
theorem E6{k:Kd}{n:Nat}{R:List Rl}(hR:∀r∈R,In k n r/\cz r)(hn:n<=60){c:D}{hs:AJ}(hc:Yc c=some (hs.map av))(hl:hs.length<=1000){st:Nat}(hst:st<=hs.length):
 gb [eM,Yt k R,c,.int st]=some (.bl (R.any (eL k))):=by
 by_cases hk:k=.n
 .subst hk
  have hx:=ET hR
  have hX:∀r∈R.map dY,In .i n r/\cz r:=λr hr=>by
   obtain⟨q,hq,rfl⟩:=qy hr;exact ES (hR q hq).1 (hR q hq).2
  have h1:=Mf 10 (k:=.i) (by decide) hX hn hc hl hst
  have ha:(R.map dY).any (eL .i)=R.any (eL .n):=by
   have:∀Q:List Rl,(∀r∈Q,In .n n r)->(Q.map dY).any (eL .i)=Q.any (eL .n):=by
    intro Q
    induction Q with
    | nil=>intro _;rfl
    | cons r Q ih=>
      intro h;rw[Qd,List.any_cons,List.any_cons,E5 (h r qh),ih λq hq=>h q (qg _ hq)]
   exact this R λr hr=>(hR r hr).1
  rw[ha]at h1;rw[gb,Yp,Yg (by rfl)];simp only[h8]at hx;simp[jZ,Yd,hx,h1]
 .exact Mf 11 hk hR hn hc hl hst
def kf:AH:=(List.range 120).map λi=>pH (((i/2:Nat)),decide (i%2=1))
def u_:AH->Bool
 | []=>true
 | a::l=>!(l.contains a)&&u_ l
def E7:u_ kf=true:=by decide +kernel
theorem Mg:∀{l:AH},u_ l=true->l.Nodup
 | [],_=>.nil
 | a::l,h=>by
   rw[u_,Qe]at h;refine List.nodup_cons.mpr ⟨λb=>?_,Mg h.2⟩
   have:l.contains a=true:=by simpa using b
   rw[this]at h;exact Bool.noConfusion h.1
def cH(s:aP):Nat:=2*s.1+if s.2 then 1 else 0
theorem ph(s:aP)(h:s.1<60):kf[cH s]?=some (pH ((s.1:Int),s.2)):=by
 obtain⟨b,l⟩:=s
 have a:cH (b,l)<120:=by cases l<;>simp[cH]at *<;>ac_nf
 unfold kf;rw[Qm,List.getElem?_range a,Option.map_some];cases l
 .have e1:cH (b,false)/2=b:=by simp[cH]
  have e2:cH (b,false)%2=0:=by simp[cH]
  rw[e1,e2];rfl
 .have e1:cH (b,true)/2=b:=by simp [cH];ac_nf
  have e2:cH (b,true)%2=1:=by simp only[cH];ac_nf
  rw[e1,e2];rfl
def E8{T:AH}(a:T.Nodup){i j:Nat}{x:Int}(d:T[i]?=some x)(b:T[j]?=some x):i=j:=by
 obtain⟨f,c⟩:=qo d;obtain⟨g,e⟩:=qo b;exact(List.getElem_inj a).mp (c.trans e.symm)
theorem UX{s t:aP}(h:cH s=cH t):s=t:=by
 obtain⟨b,l⟩:=s;obtain⟨c,m⟩:=t;cases l<;>cases m<;>simp[cH]at h ⊢<;>ac_nf
def E9{s t:aP}(hs:s.1<60)(c:t.1<60)(a:s≠t):pH ((s.1:Int),s.2)≠pH ((t.1:Int),t.2):=λe=>by
 have b:=ph t c;rw[<-e]at b;exact a (UX (E8 (Mg E7) (ph s hs) b))
theorem UY{n:Nat}{s t:aP}(hs:s.1<n)(ht:t.1<n)(hn:n<=60):∃l:AZ,(∀x∈l,x=s\/x=t)/\cz (.ei l)/\iG [af s,af t]=some (l.map af):=by
 have hp:dV [af s,af t]=some [((s.1:Int),s.2),((t.1:Int),t.2)]:=rfl;by_cases e:s=t
 .subst e
  refine⟨[s],λx hx=>.inl (by simpa using hx),⟨by simp,by simp⟩,?_⟩;unfold iG;rw[hp,qd];dsimp only;rw[if_pos rfl];rfl
 .have hne:((s.1:Int),s.2)≠((t.1:Int),t.2):=λz=>e (by
   have h1:=congrArg Prod.fst z;have h2:=congrArg Prod.snd z
   exact Prod.ext (by simpa using h1) h2)
  have hh:=E9 (s:=s) (t:=t) ∅ ∅ e;generalize hP:bS (t.1:Int) t.2 (s.1:Int) s.2=b;refine⟨if b=true then [t,s]else [s,t],λx hx=>?_,⟨by split<;>simp,?_⟩,?_⟩
  .split at hx<;>simp at hx<;>rcases hx with rfl|rfl<;>simp
  .obtain⟨x,p⟩:=s
   obtain⟨y,q⟩:=t;unfold bS at hP;dsimp only at hP;by_cases hxy:(y:Int)=x
   .rw[if_pos hxy]at hP
    have:x=y:=by ac_nf
    subst this;have hpq:p≠q:=λz=>e (by rw[z]);cases p<;>cases q<;>simp at hP hpq<;>subst hP<;>simp[gE]
   .rw[if_neg hxy]at hP
    subst hP;by_cases hlt:(y:Int)<x
    .simp[hlt,gE];ac_nf
    .simp[hlt,gE];ac_nf
  .unfold iG
   rw[hp,qd];dsimp only;rw[if_neg hne,if_pos hh,hP];cases b<;>rfl
theorem E_{n:Nat}{s t:aP}(hs:s.1<n)(ht:t.1<n)(hn:n<=60):∃l:AZ,In .e n (.ei l)/\cz (.ei l)/\iG [af s,af t]=some (l.map af):=by
 obtain⟨l,h1,h2,h3⟩:=UY hs ht hn;refine⟨l,⟨rfl,λx hx=>?_⟩,h2,h3⟩;rcases h1 x hx with rfl|rfl<;>assumption
def fF(c:Bool)(a b:aP):ay c (af a) (af b)=some (if c then !decide (a=b)else decide (a=b)):=by
 rw[eZ nofun nofun,JN]
noncomputable def h_(a:aP)(l:AZ):Option aP:=if a∈l then some ((l.filter λt=>!decide (t=a)).headD a)else none
def bL(L:AY)(s:aP):AZ:=L.filterMap (h_ (bh s))
abbrev gh(l:AZ):D:=ax (.ei l)
abbrev br(L:AY):D:=.tup [aC .e,.tup (L.map gh)]
theorem Fb(p:L.length<=1000)(s:aP):sI [br L,af s]=some (.lst ((bL L s).map af)):=by
 have k:∀a,(∃r,[]++L=a++r)->(bL a s).length<1000000:=λa ⟨r,e⟩=>by
  have u:(bL a s).length<=a.length:=List.length_filterMap_le _ _
  ext<;>lia
 obtain⟨n,m,y,z,rfl⟩:=Yv (gt:=ai 4) (fb:=oI) gh (λa j=>∃(y z:AS),
  j=[some _,some _,some _,some (.ow ((bL a s).map af)),y,z]) L []
  [some _,some _,↑(af (bh s)),some (.ow []),none,none] ⟨none,none,rfl⟩ (by
   rintro q l r j e ⟨y,z,rfl⟩;have f:=oq (c:=gh l) (bh s) l false rfl
   have b:bL (q++[l]) s=bL q s++(h_ (bh s) l).toList:=by
    simp only[bL];grind
   by_cases h:bh s∈l
   .have g:=dv (fc:=CP) (fe:=CQ) (r:=[↑(af (bh s))]) (enc:=af) (λt=>!decide (t=bh s)) af (l:=l) (λx _=>by
     simp[CP,fF]) (λx _ _=>by simp[CQ])
    have i:h_ (bh s) l=some ((l.filter λt=>!decide (t=bh s)).headD (bh s)):=by rw[h_,if_pos h]
    rw[i]at b;generalize (l.filter _)=os at g b;have c:∀d:D,aT ((bL q s).map af) d=_:=λd=>e_ (by ext);refine⟨_,_,rfl,?_,↑(gh l),some (.ow (os.map af)),rfl⟩
    cases os with
    | nil=>simp[oI,f,h,aq,g,c,b]
    | cons o os=>simp[oI,f,h,aq,g,c,b]
   .have i:h_ (bh s) l=none:=by rw[h_,if_neg h]
    rw[i]at b;refine⟨_,_,rfl,?_,↑(gh l),z,rfl⟩
    simp[oI,f,h,b])
 rw[sI,Yg (by rfl)];simp[CS,Yd,EO];rw[m];constructor<;>lia
def Mh(s:aP):j5 [af s]=some (af (bh s)):=by
 rw[j5,Yg (by rfl)];simp[KW,Yd,af,bh]
noncomputable def cq(a:AZ)(i:Nat):aP:=a.getD i (0,false)
def Fc{road:AZ}{i:Nat}(h:i<road.length):aX (road.map af) (i:Int)=some (af (cq road i)):=by
 rw[dJ,f_ h];simp[cq,h]
def vc(L:AY)(a:AZ)(i:Nat):Bool:=decide (cq a (i+1)∈bL L (cq a i))
def fG(L:AY)(a:AZ):Bool:=decide (0<a.length)&&(List.range (a.length-1)).all (vc L a)
theorem Fe{c:D}{L:AY}(hL:L.length<=1000){road:AZ}(hc:Yc c=some (road.map af))(hl:road.length<=200):lj [br L,c]=some (.bl (fG L road)):=by
 rw[lj,Yg (by rfl)]
 have e:((road.length:Int)-1).toNat=road.length-1:=by ac_nf
 have hall:=B0 (gt:=ai 2) (fb:=sJ) (λi:Nat=>D.int (1+(i:Nat))) (vc L road) (.bl false)
  (λρ=>∃y,ρ=[↑(br L),↑c,y]) (List.range (road.length-1)) [↑(br L),↑c,none] ⟨_,rfl⟩ (by
   rintro i hi ρ ⟨y,rfl⟩
   have hi':i+1<road.length:=by
    have:=Qb hi;ac_nf
   have a1:aX (road.map af) (1+(i:Int))=some (af (cq road (i+1))):=by
    have:=Fc hi';rw[show((i+1:Nat):Int)=1+(i:Int) by ac_nf]at this;exact this
   have a2:aX (road.map af) (i:Int)=some (af (cq road i)):=Fc ∅
   have hi1:1+(i:Int)-1=(i:Int):=by ac_nf
   have hled:=Fb hL (cq road i);have hin:bc true (af (cq road (i+1))) (.lst ((bL L (cq road i)).map af))=some (!vc L road i):=oq (cq road (i+1)) (bL L (cq road i)) true rfl;refine⟨_,rfl,?_⟩;generalize br L=bk at *
   cases hm:vc L road i with
   | true=>exact .inl ⟨rfl,[↑bk,↑c,↑(.int (1+(i:Int)))],by simp[sJ,hc,a1,a2,hi1,hled,hin,hm],_,rfl⟩
   | false=>exact .inr ⟨rfl,by simp[sJ,hc,a1,a2,hi1,hled,hin,hm]⟩)
 have hr:=oe (a:=1) (n:=(road.length:Int)) ∅ ∅ (by decide) (by decide);rw[dX,e]at hr;unfold fG;generalize br L=bk at *;rcases hall with⟨h1,ρ',e1,y,rfl⟩|⟨h1,e1⟩
 .rw[h1]
  simp[CT,Yd,hc,hr,e1]
 .rw[h1]
  simp[CT,Yd,hc,hr,e1]
def d8(l:AZ):Prop:=l.length<=2/\l.Nodup
def Mi{l:AZ}(h:cz (.ei l)):d8 l:=⟨h.1,h.2.imp λ{a b} hab z=>by
 subst z;rcases hab with h|⟨_,h1,h2⟩
 .exact Nat.lt_irrefl _ h
 .rw[h1]at h2;cases h2⟩
def dZ(s t:aP)(l:AZ):Bool:=decide (bh s∈l)&&(decide (t∈l)&&(!decide (t=bh s)||decide (l.length=1)))
def Ff{s t:aP}{l:AZ}(h:d8 l):dZ s t l=decide (h_ (bh s) l=some t):=by
 unfold dZ h_;generalize bh s=f;obtain⟨h1,h2⟩:=h
 match l,h1,h2 with
 | [],_,_=>simp
 | [a],_,_=>
   by_cases h:f=a
   .subst h
    by_cases ht:t=f
    .simp[ht]
    .have ht':¬f=t:=λz=>ht z.symm
     simp[ht,ht']
   .simp[h]
 | [a,b],_,h2=>
   have hab:a≠b:=by simpa using h2
   by_cases h:f=a
   .subst h
    have hb:¬b=f:=λz=>hab z.symm;by_cases ht:t=f
    .subst ht
     simp[hb]
    .by_cases htb:t=b
     .subst htb
      simp[hb]
     .have:¬b=t:=λz=>htb z.symm
      simp[ht,htb,hb,this]
   .by_cases h':f=b
    .subst h'
     have ha:¬a=f:=hab;by_cases ht:t=f
     .subst ht
      simp[ha]
     .by_cases htb:t=a
      .subst htb
       simp[ha]
      .have:¬a=t:=λz=>htb z.symm
       simp[ht,htb,ha,this]
    .simp[h,h']
theorem Mj{s t:aP}{L:AY}(h:∀l∈L,d8 l):L.any (dZ s t)=decide (t∈bL L s):=by
 induction L with
 | nil=>rfl
 | cons l L ih=>
   rw[List.any_cons,ih λx hx=>h x (qg _ hx),Ff (h l qh)];unfold bL;rw[List.filterMap_cons]
   cases ho:h_ (bh s) l with
   | none=>simp
   | some u=>
     by_cases hu:u=t
     .simp[hu]
     .have hu':¬t=u:=λz=>hu z.symm
      simp[hu,hu']
theorem UZ{L:AY}(h:∀l∈L,d8 l)(s t:aP):t7 [br L,af s,af t]=some (.bl (decide (t∈bL L s))):=by
 rw[t7,Yg (by rfl)]
 have hall:=B0 (gt:=ai 4) (fb:=j6) gh (λl=>!dZ s t l) (.bl true)
  (λρ=>∃y,ρ=[↑(br L),↑(af s),↑(af t),↑(af (bh s)),y]) L [↑(br L),↑(af s),↑(af t),↑(af (bh s)),none] ⟨_,rfl⟩ (by
   rintro l hl ρ ⟨y,rfl⟩;have h1:=oq (c:=gh l) (bh s) l false rfl;have h2:=oq (c:=gh l) t l false rfl;have h3:=fF true t (bh s);have hit:Yc (gh l)=some (l.map af):=rfl
   have h4:((l.map af).length:Int)=1↔l.length=1:=by rw[qf];ac_nf
   generalize gh l=dl at *;refine⟨_,rfl,?_⟩;unfold dZ;by_cases b1:bh s∈l
   .by_cases b2:t∈l
    .by_cases b3:t=bh s
     .by_cases b4:l.length=1
      .refine .inr ⟨by simp[b1,b2,b3,b4],?_⟩
       simp only[qf]at h4;simp[j6,h1,h2,fF,b1,b2,b3,b4,hit]
      .refine .inl ⟨by simp[b1,b2,b3,b4],[↑(br L),↑(af s),↑(af t),↑(af (bh s)),↑dl],?_,_,rfl⟩
       simp[j6,h1,h2,fF,b1,b2,b3,b4,hit];ac_nf
     .refine .inr ⟨by simp[b1,b2,b3],?_⟩
      simp[j6,h1,h2,h3,b1,b2,b3]
    .exact .inl ⟨by simp[b2],[↑(br L),↑(af s),↑(af t),↑(af (bh s)),↑dl],by simp[j6,h1,h2,b1,b2],_,rfl⟩
   .exact .inl ⟨by simp[b1],[↑(br L),↑(af s),↑(af t),↑(af (bh s)),↑dl],by simp[j6,h1,b1],_,rfl⟩)
 have hc:=Mh s;have ha:=Mj (s:=s) (t:=t) h
 have hb:L.all (λl=>!dZ s t l)=!L.any (dZ s t):=by rw[List.all_eq_not_any_not];simp
 rw[hb,ha]at hall;have hit:Yc (br L)=some [aC .e,.tup (L.map gh)]:=rfl;generalize br L=bk at *;rcases hall with⟨h1,ρ',e1,y,rfl⟩|⟨h1,e1⟩
 .simp at h1
  simp[DX,Yd,hit,hc,e1,h1]
 .simp at h1
  simp[DX,Yd,hit,hc,e1,h1]
noncomputable abbrev bZ(x:String)(ps:AR):D:=.tup (.str (Str.ofString x)::ps)
def pj(x:String)(l:List String):Prop:=∀y∈l,(Str.ofString x==Str.ofString y)=false
def Fg{R:List Rl}{c:D}{hs:AJ}(hc:Yc c=some (hs.map av))(hl:hs.length<=1000){st:Nat}(hst:st<=hs.length){x:String}{ps:AR}(hx:pj x ["broken"]){d:Bool}(h:Yl [bZ x ps,Yt .e R,.lst ((aI hs st true).map nD),.lst ((aI hs st false).map nD)]=some (.bl d)):gb [bZ x ps,Yt .e R,c,.int st]=some (.bl d):=by
 rw[gb,Yp,Yg (by rfl)];have b1:=Yk hs hc hl st hst true;have b2:=Yk hs hc hl st hst false;simp[av]at b1 b2;have e1:=dw (hx "broken" nofun) false;simp[jZ,Yd,b1,b2,e1]at h ⊢;rw[h];simp
def cy(l:AZ):aP:=cq l (l.length-1)
theorem kg{l:AZ}(h:0<l.length):aX (l.map af) (-1)=some (af (cy l)):=by
 have e:eR (l.map af).length (-1)=some (l.length-1):=by
  unfold eR;rw[qf,if_neg ∅,if_pos ∅]
  congr 1
  ac_nf
 unfold aX;have hx:l[l.length-1]?=some (l[l.length-1]'∅):=qr _;rw[e,qd,Qm,cy,cq,List.getD_eq_getElem?_getD,hx];rfl
def pq{l:AZ}(h:0<l.length):aX (l.map af) 0=some (af (cq l 0)):=Fc (i:=0) h
theorem pv(h:fG L l=true):0<l.length:=by
 unfold fG at h
 ext
theorem pw{n:Nat}:∀{R:List Rl},(∀r∈R,In .e n r/\cz r)->∃L:AY,R=L.map Rl.ei/\(∀l∈L,d8 l)/\L.length=R.length
 | [],_=>⟨[],rfl,by simp,rfl⟩
 | r::R,h=>by
   obtain⟨L,e,hg,hl⟩:=pw (R:=R) λx hx=>h x (qg _ hx);have hr:=h r qh
   cases r with
   | ei l=>exact⟨l::L,by rw[e];rfl,λx hx=>by
    rcases qu hx with rfl|hx
    .exact Mi hr.2
    .exact hg x hx,by simp[hl]⟩
   | su b o=>cases hr.1.1
   | im b o=>rcases hr.1.1 with h|h<;>cases h
def Ml(L:AY):Yt .e (L.map Rl.ei)=br L:=by simp[Yt,wn]
def there(L:AY)(o k:AZ):Bool:=fG L o&&(fG L k&&(decide (cy o=cq k 0)&&decide (cy k=cq o 0)))
def Mm{L:AY}(hL:L.length<=1000){o k:AZ}{co ck:D}(ho:Yc co=some (o.map af))(hk:Yc ck=some (k.map af))(hol:o.length<=200)(hkl:k.length<=200):
 Yz [br L,co,ck]=some (.bl (there L o k)):=by
 have h1:=Fe hL ho hol;have h2:=Fe hL hk hkl;rw[Yz,Yg (by rfl)];unfold there;generalize br L=bk at *
 cases d1:fG L o with
 | false=>simp[Yy,Yd,h1,d1]
 | true=>
   cases d2:fG L k with
   | false=>simp[Yy,Yd,h1,h2,d1,d2]
   | true=>
     have p1:=pv d1;have p2:=pv d2;have a1:=kg p1;have a2:=kg p2;have a3:=pq p1;have a4:=pq p2;by_cases e:cy o=cq k 0
     .simp[Yy,Yd,h1,h2,d1,d2,ho,hk,a1,a2,a3,a4,fF,e]
     .simp[Yy,Yd,h1,h2,d1,d2,ho,hk,a1,a2,a3,a4,fF,e]
noncomputable def dN(r:bA):Rl:=.im r.1 r.2
def pz(R:List bA):(R.map dN).map ax=R.map aW:=by rw[Qf];rfl
def Mn(R:List bA):Yt .i (R.map dN)=cx R:=by unfold Yt cx;rw[pz];rfl
def bC(R:List bA)(a:AH):AG:=a.map λi=>eK (aE R i)
theorem Fh{R:List bA}:∀{is:AH}{fs:AG},cn R fs is=true->∀i∈is,(0<=i/\i<R.length)/\ak (aE R i).2=nD (eK (aE R i))/\∃x,(aE R i).2=some x
 | [],_,_,i,hi=>by simp at hi
 | j::is,fs,h,i,hi=>by
   rw[cn,Qe]at h;rcases qu hi with rfl|hi
   .obtain⟨h1,h2⟩:=L6 h.1
    refine⟨h1,h2,?_⟩;have:=h.1;unfold gG at this;simp only[Qe]at this;exact Option.isSome_iff_exists.mp this.2.1
   .exact Fh h.2 i hi
theorem Fi{R:List bA}{n:Nat}(hR:∀r∈R,∀x,r.2=some x->x<n){is:AH}{fs:AG}(h:cn R fs is=true):∀x∈bC R is,x<n:=λx hx=>by
 obtain⟨i,hi,rfl⟩:=qy hx;obtain⟨h1,_,y,hy⟩:=Fh h i hi
 have hm:aE R i∈R:=by
  unfold aE;rw[List.getD_eq_getElem?_getD,qr ∅];exact List.getElem_mem _
 rw[eK,hy];exact hR _ hm y hy
def Mo{R:List bA}{is:AH}{fs:AG}(h:cn R fs is=true){fe:AW}{r:Ro}(hf:∀i∈is,(0<=i/\i<R.length)->fe (some (.sh (.int i))::r)=some (ak (aE R i).2)):
 ej (ai 0) tY fe (none::r) (is.map D.int)=some ((bC R is).map nD):=by
 rw[bP (fe:=fe) (r:=r) (enc:=D.int) (λi=>nD (eK (aE R i))) (l:=is) (λi hi=>by
  obtain⟨h1,h2,_⟩:=Fh h i hi
  rw[hf i hi h1,h2])]
 simp[bC,wn]
theorem U0(R:List bA){n:Nat}(hn:n<64)(hR:∀r∈R,∀x,r.2=some x->x<n){c d:D}{fs:AG}{is:AH}(hfs:∀x∈fs,x<n)(hc:Yc c=some (fs.map nD))(hd:Yc d=some (is.map D.int))(hl:fs.length+is.length<=1000)(h:cn R fs is=true):
 ∃l:AG,(∀x,x∈l↔x∈fs++bC R is)/\tF [cx R,c,d]=some (.lst (l.map nD)):=by
 have hcm:=Mo h (fe:=DD) (r:=[↑(cx R)]) (λi hi hv=>by
  have hat:=j_ hv
  simp[DD,hat])
 obtain⟨l,_,hm,hs⟩:=EJ hn (fs++bC R is) (λx hx=>(qw hx).elim (hfs x) (Fi hR h x)) (by simp[bC];ac_nf);refine⟨l,hm,?_⟩;have hcat:=gD (a:=fs.map nD) (b:=(bC R is).map nD) (by simp[bC];ac_nf);rw[Qk]at hs;rw[tF,Yg (by rfl)];generalize cx R=bk,fs.map nD=F1,(bC R is).map nD=F2 at *;simp[Ky,Yd,hc,hd,aq,hcm,hcat,hs]
theorem Fj{α:Type}(f:α->D)(l:List α):cf (l.map f) none (some (-1))=l.dropLast.map f:=by
 have e:HT.sIx (l.map f).length (l.map f).length (some (-1))=l.length-1:=by
  rw[qf];unfold HT.sIx;simp;ac_nf
 unfold cf;rw[e,HT.sIx_none];simp[List.dropLast_eq_take]
theorem U1{l:AH}(h:0<l.length):aX (l.map D.int) (-1)=some (.int (l.getD (l.length-1) 0)):=by
 have e:eR (l.map D.int).length (-1)=some (l.length-1):=by
  unfold eR;rw[qf,if_neg ∅,if_pos ∅]
  congr 1
  ac_nf
 have hx:l[l.length-1]?=some (l[l.length-1]'∅):=qr _;unfold aX;rw[e,qd,Qm,List.getD_eq_getElem?_getD,hx];rfl
theorem Mp(a:Bool)(x:Nat)(b:AN):ay a (.int (x:Int)) (ak b)=some (if a then !decide (some x=b)else decide (some x=b)):=by
 cases b with
 | none=>
   have:bg (.int x) .non=false:=by simp[bg,aH,PyData.eqv]
   rw[eZ nofun nofun];simp[ak,this]
 | some y=>simp[ak]
theorem Fl(neg:Bool)(a b:AN):ay neg (ak a) (ak b)=some (if neg then !decide (a=b)else decide (a=b)):=by
 cases a with
 | some x=>exact Mp neg x b
 | none=>
   rw[eZ nofun nofun]
   cases b with
   | none=>
     have:bg .non .non=true:=by simp[bg,aH,PyData.eqv]
     simp[ak,this]
   | some y=>
     have:bg .non (.int (y:Int))=false:=by simp[bg,aH,PyData.eqv]
     simp[ak,this]
noncomputable def gH(b:AN)(S:AG):AG:=S.filter λy=>!decide (some y=b)
theorem U2(S:AG)(b:AN):jW [.lst (S.map nD),ak b]=some (.tup ((gH b S).map nD)):=by
 rw[jW,Yg (by rfl)]
 have h:=dv (fc:=oM) (fe:=oN) (r:=[↑(ak b)]) (enc:=nD) (λy=>!decide (some y=b)) nD (l:=S) (λy _=>by
  simp[oM,Mp]) (λ_ _ _=>by simp[oN])
 generalize S.map nD=SS at *;simp[C7,Yd,aq,h,gH]
def lB(R:List bA)(S:AG)(b:AN)(a:AH):Bool:=match b with
 | none=>decide (a.length=0)
 | some x=>decide (x∈S)&&cn R S a
theorem U3(R:List bA){S:AG}(b:AN){is:AH}(hl:S.length+is.length<=1000):tP [ak b,.tup (is.map D.int),cx R,.lst (S.map nD)]=some (.bl (lB R S b is)):=by
 have hd:=L8 R (c:=.lst (S.map nD)) (d:=.tup (is.map D.int)) S is rfl rfl hl;rw[tP,Yg (by rfl)]
 have hlen:((is.map D.int).length:Int)=(is.length:Int):=by simp
 unfold lB
 cases b with
 | none=>
   have:((is.length:Int)=0)↔is.length=0:=by ac_nf
   simp[DK,Yd,ak,hlen,this]
 | some x=>
   have hin:=bK (c:=.lst (S.map nD)) x S false rfl;generalize hS:D.lst (S.map nD)=SS at *;generalize cx R=bk at *;generalize D.tup (is.map D.int)=ii at *;by_cases hx:x∈S<;>simp[DK,Yd,ak,hin,hx,hd]
def fH(R:List bA)(a:AG)(b:AN)(c:AH):AG:=match b with
 | none=>[]
 | some x=>a.filter λy=>decide (y<x)&&decide (y∈bC R c)
theorem U4(R:List bA){S Kp:AG}(b:AN){is:AH}(h:lB R S b is=true):tN [ak b,.tup (is.map D.int),cx R,.lst (Kp.map nD)]=some (.lst ((fH R Kp b is).map nD)):=by
 rw[tN,Yg (by rfl)];unfold fH
 cases b with
 | none=>simp[tM,Yd,ak]
 | some x=>
   unfold lB at h;rw[Qe]at h
   have hcm:=Mo h.2 (fe:=DH) (r:=[↑(cx R)]) (λi hi hv=>by
    have hat:=j_ hv
    simp[DH,hat])
   have hc2:=dv (fc:=DI) (fe:=DJ) (r:=[↑(.int (x:Int)),↑(.lst ((bC R is).map nD))]) (enc:=nD) (λy=>decide (y<x)&&decide (y∈bC R is)) nD (l:=Kp) (λy _=>by
    have hin:=bK (c:=.lst ((bC R is).map nD)) y (bC R is) false rfl;generalize D.lst ((bC R is).map nD)=hh at *
    by_cases hy:y<x<;>simp[DI,hy,hin]) (λ_ _ _=>by simp[DJ])
   have hsh:ak (some x)=.int (x:Int):=rfl;rw[hsh];generalize cx R=bk,(bC R is).map nD=hh,Kp.map nD=kk at *;have hit:Yc (.tup (is.map D.int))=some (is.map D.int):=rfl;generalize hti:D.tup (is.map D.int)=ii at *;simp[tM,Yd,hit,aq,hcm,hc2]
def ia(R:List bA)(b:AN)(a:AH)(fs:AG):Bool:=decide (0<a.length)&&(decide (0<=a.getD (a.length-1) 0/\a.getD (a.length-1) 0<R.length)&&(cn R fs a.dropLast&&(kn (aE R (a.getD (a.length-1) 0)).1 (fs++bC R a.dropLast)&&(decide ((aE R (a.getD (a.length-1) 0)).2=none)||decide ((aE R (a.getD (a.length-1) 0)).2=b)))))
theorem Fm(h:∀x,x∈ks↔x∈fs):kn b ks=kn b fs:=by
 unfold kn;grind
theorem U5(R:List bA){n:Nat}(hn:n<64)(hR:∀r∈R,∀x,r.2=some x->x<n)(b:AN){is:AH}{fs:AG}(hfs:∀x∈fs,x<n)(hl:fs.length+is.length<=1000):
 tQ [ak b,.tup (is.map D.int),cx R,.lst (fs.map nD)]=some (.bl (ia R b is fs)):=by
 rw[tQ,Yg (by rfl)]
 have hlen:((is.map D.int).length:Int)=(is.length:Int):=by simp
 unfold ia;by_cases h0:0<is.length
 .have hne:¬is=[]:=λz=>by subst z;simp at h0
  have hla:=U1 h0
  have hz:¬(is.length:Int)=0:=by ac_nf
  have hcut:=Fj D.int is
  have hdl:is.dropLast.length<=is.length:=by simp
  have hd:=L8 R (c:=.lst (fs.map nD)) (d:=.tup (is.dropLast.map D.int)) fs is.dropLast rfl rfl ∅;generalize is.getD (is.length-1) 0=la at *;have hp:=EU R la;by_cases hv:0<=la/\la<R.length
  .have hat:=j_ hv
   cases hdb:cn R fs is.dropLast with
   | false=>
     rw[hdb]at hd;rw[wh hv]at hp;generalize cx R=bk,fs.map nD=FF,is.dropLast.map D.int=dd,is.map D.int=ii at *;simp[oW,Yd,hlen,hne,hla,hp,hcut,hd]
   | true=>
     obtain⟨l,hm,hde⟩:=U0 R hn hR (c:=.lst (fs.map nD)) (d:=.tup (is.dropLast.map D.int)) hfs rfl rfl ∅ hdb;have hbk:=L5 (d:=.lst (l.map nD)) (aE R la) l rfl;rw[Fm hm]at hbk;rw[hdb]at hd;rw[wh hv]at hp
     have hin:bc false (ak (aE R la).2) (.tup [.non,ak b])=some (decide ((aE R la).2=none)||decide ((aE R la).2=b)):=by
      have q1:=Fl false none (aE R la).2;have q2:=Fl false b (aE R la).2;rw[eZ nofun nofun]at q1 q2
      have q1':bg .non (ak (aE R la).2)=decide (none=(aE R la).2):=by simpa [ak]using q1
      have q2':bg (ak b) (ak (aE R la).2)=decide (b=(aE R la).2):=by simpa using q2
      rw[sd (l:=[.non,ak b]) rfl nofun nofun];have e1:decide ((aE R la).2=none)=decide (none=(aE R la).2):=decide_eq_decide.mpr ⟨Eq.symm,Eq.symm⟩;have e2:decide ((aE R la).2=b)=decide (b=(aE R la).2):=decide_eq_decide.mpr ⟨Eq.symm,Eq.symm⟩;rw[e1,e2,<-q1',<-q2'];simp[gw]
     have hib:(Yc (cx R))=some [.str "ifs",.tup (R.map aW)]:=rfl;have hir:Yc (aW (aE R la))=some [.tup ((aE R la).1.map nD),ak (aE R la).2]:=rfl;generalize cx R=bk,kn (aE R la).1 (fs++bC R is.dropLast)=kk,l.map nD=LL,fs.map nD=FF,is.dropLast.map D.int=dd,is.map D.int=ii,aW (aE R la)=rr at *;cases kk<;>simp[oW,Yd,hlen,hne,hla,hp,hcut,hd,hde,hib,hat,hbk,hir,hin,h0,hv.1,hv.2]
  .rw[wj hv]at hp
   generalize cx R=bk,is.map D.int=ii at *;simp[oW,Yd,hlen,hne,hla,hp,hv]
 .have hz:is.length=0:=by ac_nf
  have:is=[]:=List.eq_nil_of_length_eq_zero hz;subst this;simp[oW,Yd]
def kh(R:List bA)(c S:AG)(b:AN)(a js:AH):Bool:=lB R S b a&&ia R b js (gH b S++fH R c b a)
theorem U6(R:List bA){n:Nat}(hn:n<64)(hR:∀r∈R,∀x,r.2=some x->x<n){Kp S:AG}(hK:∀x∈Kp,x<n)(hS:∀x∈S,x<n)(hKl:Kp.length<=100)(hSl:S.length<=100)(b:AN){is js:AH}(hil:is.length<=300)(hjl:js.length<=300):
 tS [.tup [.str "lone",ak b,.tup (is.map D.int),.tup (js.map D.int)],cx R,.lst (Kp.map nD),.lst (S.map nD)]=some (.bl (kh R Kp S b is js)):=by
 have h1:=U3 R (S:=S) b (is:=is) ∅;have hw:=U2 S b;have hwl:(gH b S).length<=100:=Qg (Qn _ _) hSl
 have hfl:(fH R Kp b is).length<=100:=by
  unfold fH
  cases b with
  | none=>simp
  | some x=>exact Qg (Qn _ _) hKl
 have h3:=U5 R hn hR b (is:=js) (fs:=gH b S++fH R Kp b is) (λx hx=>by
  rcases qw hx with hx|hx
  .exact hS x (Qc hx).1
  .unfold fH at hx
   cases b with
   | none=>simp at hx
   | some y=>exact hK x (Qc hx).1) (by simp;ac_nf)
 rw[tS,Yg (by rfl)];have a2:∀a b c d:D,aX [a,b,c,d] 2=some c:=λa b c d=>rfl;have a3:∀a b c d:D,aX [a,b,c,d] 3=some d:=λa b c d=>rfl;unfold kh
 cases hf:lB R S b is with
 | false=>
   rw[hf]at h1;generalize D.tup (is.map D.int)=ii,D.tup (js.map D.int)=jj,cx R=bk,S.map nD=SS,Kp.map nD=KK at *;simp[tR,Yd,a2,h1]
 | true=>
   have h2:=U4 R (Kp:=Kp) b hf;have hcat:=gD (a:=(gH b S).map nD) (b:=(fH R Kp b is).map nD) (by simp;ac_nf);rw[<-Qk]at hcat;rw[hf]at h1;generalize D.tup (is.map D.int)=ii,D.tup (js.map D.int)=jj,cx R=bk,(gH b S++fH R Kp b is).map nD=WF,(gH b S).map nD=W1,(fH R Kp b is).map nD=W2,S.map nD=SS,Kp.map nD=KK at *;simp[tR,Yd,a2,a3,h1,hw,h2,hcat,h3]
def Fn(neg:Bool)(b:AN):cT neg (ak b) .non=some (if neg then !decide (b=none)else decide (b=none)):=by
 cases b<;>cases neg<;>rfl
theorem ve:∀{n:Nat}{l:AG},l.Nodup->(∀x∈l,x<n)->l.length<=n
 | 0,l,_,h=>by
   cases l with
   | nil=>simp
   | cons a l=>exact absurd (h a qh) ∅
 | n+1,l,hn,h=>by
   have h1:=ve (n:=n) (l:=l.erase n) (hn.erase n) λx hx=>by
    obtain⟨h1,h2⟩:=(hn.mem_erase_iff).mp hx;have:=h x h2;ac_nf
   rw[List.length_erase]at h1
   split at h1<;>ac_nf
def pA(R:List bA)(n:Nat)(fs:AG)(hs:AG)(ps:AG):Prop:=hs.Nodup/\(∀x∈hs,x<n)/\ps.length=hs.length/\∀p∈ps,p<R.length
theorem U7(R:List bA){n:Nat}(hn:n<=60)(hR:∀r∈R,∀x,r.2=some x->x<n)(hRl:R.length<=100)(c:D){fs:AG}(hfl:fs.length<=200)(hs ps:AG)(hI:pA R n fs hs ps)(y5 y6:AS):
 ∃(hs' ps':AG) (g:Bool) (z5 z6:AS),pA R n fs hs' ps'/\hs.length<=hs'.length/\(g=true->hs.length<hs'.length)/\(g=false->hs'=hs/\ps'=ps)/\
  M.forM (ai 5) j7 ((List.range R.length).map λi:Nat=>D.int (0+(i:Nat))) [↑(.tup (R.map aW)),↑c,some (.ow ((fs++hs).map nD)),some (.ow (ps.map nD)),↑(.bl false),y5,y6] =
   some (.nx [↑(.tup (R.map aW)),↑c,some (.ow ((fs++hs').map nD)),some (.ow (ps'.map nD)),↑(.bl g),z5,z6]):=by
 obtain⟨ρ',e1,hs',ps',g,z5,z6,q1,q2,q3,q4,rfl⟩:=Yv (gt:=ai 5) (fb:=j7) (λi:Nat=>D.int (0+(i:Nat))) (λ_ ρ=>∃(hs' ps':AG) (g:Bool) (z5 z6:AS),pA R n fs hs' ps'/\hs.length<=hs'.length/\(g=true->hs.length<hs'.length)/\(g=false->hs'=hs/\ps'=ps)/\
  ρ=[↑(.tup (R.map aW)),↑c,some (.ow ((fs++hs').map nD)),some (.ow (ps'.map nD)),↑(.bl g),z5,z6]) (List.range R.length) [] [↑(.tup (R.map aW)),↑c,some (.ow ((fs++hs).map nD)),some (.ow (ps.map nD)),↑(.bl false),y5,y6]
  ⟨hs,ps,false,y5,y6,hI,qv _,(λz=>Bool.noConfusion z),λ_=>⟨rfl,rfl⟩,rfl⟩ (by
  rintro q i r ρ e ⟨hs',ps',g,z5,z6,q1,q2,q3,q4,rfl⟩;have hi:i<R.length:=Qb (by rw[Qj]at e;rw[e];simp);have hat:=j_ (R:=R) (i:=(i:Int)) ⟨by ac_nf,by ac_nf⟩
  have e0:(0:Int)+(i:Int)=(i:Int):=by ac_nf
  have hir:Yc (aW (aE R i))=some [.tup ((aE R i).1.map nD),ak (aE R i).2]:=rfl
  have hmem:aE R i∈R:=by
   unfold aE;rw[wy,List.getD_eq_getElem?_getD,qr hi];exact List.getElem_mem hi
  cases hh:(aE R i).2 with
  | none=>
    refine⟨_,[↑(.tup (R.map aW)),↑c,some (.ow ((fs++hs').map nD)),some (.ow (ps'.map nD)),↑(.bl g),↑(.int (i:Int)),↑(.tup ((aE R i).1.map nD))],rfl,?_,hs',ps',g,_,_,q1,q2,q3,q4,rfl⟩;rw[e0];rw[hh]at hir;generalize R.map aW=RR,aW (aE R i)=rr,(fs++hs').map nD=FF,ps'.map nD=PP at *;simp[j7,hat,hir,ak]
  | some x=>
    have hxn:=hR _ hmem x hh;rw[hh]at hir;have hox:ak (some x)=.int (x:Int):=rfl;rw[hox]at hir;have hin:=bK (c:=.lst ((fs++hs').map nD)) x (fs++hs') true rfl
    have hcm:=bP (fe:=Ea) (r:=[↑(.lst ((fs++hs').map nD))]) (enc:=nD) (λz=>D.bl (decide (z∈fs++hs'))) (l:=(aE R i).1) (λz _=>by
     have:=bK (c:=.lst ((fs++hs').map nD)) z (fs++hs') false rfl;generalize D.lst ((fs++hs').map nD)=gg at *
     simp[Ea,this])
    have hbl:=gC (λz=>decide (z∈fs++hs')) (aE R i).1
    have hkn:((aE R i).1.map λz=>decide (z∈fs++hs')).all id=kn (aE R i).1 (fs++hs'):=by unfold kn;rw[List.all_map];rfl
    have hhl:hs'.length<=60:=Qg (ve q1.1 q1.2.1) hn;by_cases hx:x∈fs++hs'
    .refine⟨_,[↑(.tup (R.map aW)),↑c,some (.ow ((fs++hs').map nD)),some (.ow (ps'.map nD)),↑(.bl g),↑(.int (i:Int)),↑(.tup ((aE R i).1.map nD))],rfl,?_,hs',ps',g,_,_,q1,q2,q3,q4,rfl⟩
     rw[e0]
     have hnx:(if true=true then !decide (x∈fs++hs')else decide (x∈fs++hs'))=false:=by simp[hx]
     rw[hnx]at hin;generalize R.map aW=RR,aW (aE R i)=rr,(fs++hs').map nD=FF,ps'.map nD=PP at *;simp[j7,hat,hir,hin]
    .have hnx:(if true=true then !decide (x∈fs++hs')else decide (x∈fs++hs'))=true:=by simp[hx]
     rw[hnx]at hin
     cases hk:kn (aE R i).1 (fs++hs')with
     | false=>
       refine⟨_,[↑(.tup (R.map aW)),↑c,some (.ow ((fs++hs').map nD)),some (.ow (ps'.map nD)),↑(.bl g),↑(.int (i:Int)),↑(.tup ((aE R i).1.map nD))],rfl,?_,hs',ps',g,_,_,q1,q2,q3,q4,rfl⟩;rw[e0];rw[hk]at hkn;generalize ((aE R i).1.map λz=>D.bl (decide (z∈fs++hs')))=cm,((aE R i).1.map λz=>decide (z∈fs++hs'))=bs,R.map aW=RR,aW (aE R i)=rr,(fs++hs').map nD=FF,ps'.map nD=PP,(aE R i).1.map nD=bb at *;simp[j7,hat,hir,hin,aq,hcm,hbl,hkn]
     | true=>
       have ha1:aT ((fs++hs').map nD) (.int (x:Int))=some ((fs++(hs'++[x])).map nD):=by rw[e_ (by simp;ac_nf)];simp
       have ha2:aT (ps'.map nD) (.int (i:Int))=some ((ps'++[i]).map nD):=by rw[e_ (by have:=q1.2.2.1;simp;ac_nf)];simp
       refine⟨_,[↑(.tup (R.map aW)),↑c,some (.ow ((fs++(hs'++[x])).map nD)),some (.ow ((ps'++[i]).map nD)),↑(.bl true),↑(.int (i:Int)),↑(.tup ((aE R i).1.map nD))],rfl,?_,hs'++[x],ps'++[i],true,_,_,⟨?_,?_,?_,?_⟩,?_,?_,?_,rfl⟩
       .rw[e0]
        rw[hk]at hkn;generalize ((aE R i).1.map λz=>D.bl (decide (z∈fs++hs')))=cm,((aE R i).1.map λz=>decide (z∈fs++hs'))=bs,R.map aW=RR,aW (aE R i)=rr,(fs++(hs'++[x])).map nD=F2,(fs++hs').map nD=FF,(ps'++[i]).map nD=P2,ps'.map nD=PP,(aE R i).1.map nD=bb at *;simp[j7,hat,hir,hin,aq,hcm,hbl,hkn,ha1,ha2]
       .rw[List.nodup_append]
        refine⟨q1.1,by simp,λa ha b hb z=>?_⟩;simp at hb;subst hb z;exact hx (Qr _ ha)
       .intro a ha
        rcases qw ha with ha|ha
        .exact q1.2.1 a ha
        .simp at ha
         subst ha;exact hxn
       .have:=q1.2.2.1
        simp[this]
       .intro a ha
        rcases qw ha with ha|ha
        .exact q1.2.2.2 a ha
        .simp at ha
         subst ha;exact hi
       .simp;ac_nf
       .intro _
        simp;ac_nf
       .intro z
        cases z)
 exact⟨hs',ps',g,z5,z6,q1,q2,q3,q4,e1⟩
def Mq{gt:AU}{fb:AT}{α:Type}(enc:α->D)(p:α->Bool)(res:α->D)(I:Ro->Prop):∀(l:List α) (ρ:Ro),I ρ->
 (∀a∈l,∀ρ,I ρ->∃ρ1,gt (enc a) ρ=some ρ1/\((p a=false/\∃ρ2,fb ρ1=some (.nx ρ2)/\I ρ2)\/(p a=true/\fb ρ1=some (.rt (res a)))))->
 (∃a,l.find? p=some a/\M.forM gt fb (l.map enc) ρ=some (.rt (res a)))\/(l.find? p=none/\∃ρ',M.forM gt fb (l.map enc) ρ=some (.nx ρ')/\I ρ')
 | [],ρ,h0,_=>.inr ⟨rfl,ρ,rfl,h0⟩
 | a::l,ρ,h0,hs=>by
   obtain⟨ρ1,e1,h⟩:=hs a qh ρ h0;rw[Qd,M.forM,e1,qd,List.find?_cons];rcases h with⟨hp,ρ2,e2,h2⟩|⟨hp,e2⟩
   .rw[e2,qd,hp]
    exact Mq enc p res I l ρ2 h2 λb hb=>hs b (qg _ hb)
   .rw[e2,qd,hp]
    exact .inl ⟨a,rfl,rfl⟩
theorem Mr(R:List bA){n:Nat}(hn:n<=60)(hR:∀r∈R,∀x,r.2=some x->x<n)(hRl:R.length<=100)(c:D){fs:AG}(hfl:fs.length<=200):∀(m fuel:Nat) (hs ps:AG) (y5 y6:AS),60<=hs.length+m->m+2<=fuel->pA R n fs hs ps->
 ∃(hs' ps':AG) (z5 z6:AS),pA R n fs hs' ps'/\
  gA (b1 (aa 4) aN) uT fuel [↑(.tup (R.map aW)),↑c,some (.ow ((fs++hs).map nD)),some (.ow (ps.map nD)),↑(.bl true),y5,y6] =
   some (.nx [↑(.tup (R.map aW)),↑c,some (.ow ((fs++hs').map nD)),some (.ow (ps'.map nD)),↑(.bl false),z5,z6])
 | m,0,_,_,_,_,_,h,_=>by ac_nf
 | m,fuel+1,hs,ps,y5,y6,h1,h2,hI=>by
   obtain⟨hs',ps',g,z5,z6,q1,q2,q3,q4,e1⟩:=U7 R hn hR hRl c hfl hs ps hI y5 y6;have hr:=fE (n:=(R.length:Int)) ∅ ∅;rw[dX]at hr
   have el:((R.length:Int)-0).toNat=R.length:=by ac_nf
   rw[el]at hr
   have hlen:((R.map aW).length:Int)=(R.length:Int):=by simp
   have hb:uT [↑(.tup (R.map aW)),↑c,some (.ow ((fs++hs).map nD)),some (.ow (ps.map nD)),↑(.bl true),y5,y6]=some (.nx [↑(.tup (R.map aW)),↑c,some (.ow ((fs++hs').map nD)),some (.ow (ps'.map nD)),↑(.bl g),z5,z6]):=by
    simp only[Int.zero_add]at hr e1;generalize R.map aW=RR,(fs++hs').map nD=F2,(fs++hs).map nD=FF,ps'.map nD=P2,ps.map nD=PP at *;simp[uT,hlen,hr,e1]
   have hc:∀(a b2' c2 d2:AS) (g:Bool) (e f:AS),b1 (aa 4) aN [a,b2',c2,d2,↑(.bl g),e,f]=some g:=λ_ _ _ _ _ _ _=>rfl;rw[gA,hc,qd,if_pos rfl,hb,qd]
   cases g with
   | false=>
     refine⟨hs',ps',z5,z6,q1,?_⟩
     cases fuel with
     | zero=>ac_nf
     | succ fuel=>
       show gA _ _ (fuel+1) _=_;rw[gA,hc,qd,if_neg qi]
   | true=>
     have:=q3 rfl;have hle:hs'.length<=60:=Qg (ve q1.1 q1.2.1) hn;exact Mr R hn hR hRl c hfl (m-1) fuel hs' ps' z5 z6 ∅ ∅ q1
theorem Fo(R:List bA){n:Nat}(hn:n<=60)(hR:∀r∈R,∀x,r.2=some x->x<n)(hRl:R.length<=100){fs:AG}(hfl:fs.length<=200):
 ∃ks ps:AG,ks.length<=300/\ps.length<=60/\ly [.tup (R.map aW),.lst (fs.map nD)]=some (.lst [.lst (ks.map nD),.lst (ps.map nD)]):=by
 obtain⟨hs',ps',z5,z6,q1,e1⟩:=Mr R hn hR hRl (.lst (fs.map nD)) hfl 60 4000 [] [] none none nofun ∅ ⟨.nil,by simp,rfl,by simp⟩;have hle:hs'.length<=60:=Qg (ve q1.1 q1.2.1) hn;refine⟨fs++hs',ps',by simp;ac_nf,by have:=q1.2.2.1;ac_nf,?_⟩;rw[ly,Yg (by rfl)];have hst:Yd 7 [.tup (R.map aW),.lst (fs.map nD)]=[↑(.tup (R.map aW)),↑(.lst (fs.map nD)),none,none,none,none,none]:=rfl;rw[hst];rw[wz]at e1;simp only[List.map_nil]at e1;have hlf:df [.lst (fs.map nD)]=some (fs.map nD):=rfl;generalize R.map aW=RR,(fs++hs').map nD=F2,fs.map nD=FF,ps'.map nD=P2 at *;simp[Eb,hlf,e1]
theorem U8(R:List bA){hs:AJ}(hhl:hs.length<=60)(hR:∀r∈R,∀x,r.2=some x->x<60)(hRl:R.length<=100){st:Nat}(hst:st<=hs.length)(b:AN):
 ∃ps qs:AG,ps.length<=100/\qs.length<=100/\iO [.tup (R.map aW),.tup (hs.map av),.int st,ak b]=some (.tup [.str "lone",ak b,.tup (ps.map nD),.tup (qs.map nD)]):=by
 have w1:=gc hs (c:=.tup (hs.map av)) rfl ∅ st hst true;have w2:=gc hs (c:=.tup (hs.map av)) rfl ∅ st hst false;simp only[av,if_true,Qo,if_false]at w1 w2;have hSl:(aI hs st false).length<=60:=Qg (Qn _ _) (by simpa using hhl);have hKl:(aI hs st true).length<=60:=Qg (Qn _ _) (by simpa using hhl);generalize aI hs st true=Kp,aI hs st false=S,D.tup (hs.map av)=hh at *;have hr:=fE (n:=(R.length:Int)) ∅ ∅;rw[dX]at hr
 have el:((R.length:Int)-0).toNat=R.length:=by ac_nf
 rw[el]at hr
 have hlen:((R.map aW).length:Int)=(R.length:Int):=by simp
 have tail:∀(es:B) (ks ps qs:AG) (y7:AS),(es=.ow [.lst (ks.map nD),.lst (ps.map nD)]\/es=.sh (.lst [.lst (ks.map nD),.lst (ps.map nD)]))->∀ms:AG,ps.length<=100->qs.length<=60->∃qs':AG,qs'.length<=100/\
  o6 [↑(.tup (R.map aW)),↑hh,↑(.int st),↑(ak b),↑(.lst (S.map nD)),some es,↑(.lst [.lst (ms.map nD),.lst (qs.map nD)]),y7,none]=some (.rt (.tup [.str "lone",ak b,.tup (ps.map nD),.tup (qs'.map nD)])):=by
  intro es ks ps qs y7 hes ms hpl hql
  have hge:∀(i8:AS),b2 (aa 5) (Zb 1) aj [↑(.tup (R.map aW)),↑hh,↑(.int st),↑(ak b),↑(.lst (S.map nD)),some es,↑(.lst [.lst (ms.map nD),.lst (qs.map nD)]),y7,i8]=some (.lst (ps.map nD)):=by
   rcases hes with rfl|rfl<;>intro i8<;>rfl
  have step:=Mq (gt:=ai 8) (fb:=o5) (λi:Nat=>D.int (0+(i:Nat))) (λi:Nat=>(decide ((aE R i).2=none)||decide ((aE R i).2=b))&&kn (aE R i).1 ms) (λi:Nat=>D.tup [.str "lone",ak b,.tup (ps.map nD),.tup ((qs++[i]).map nD)])
   (λρ=>∃y8,ρ=[↑(.tup (R.map aW)),↑hh,↑(.int st),↑(ak b),↑(.lst (S.map nD)),some es,↑(.lst [.lst (ms.map nD),.lst (qs.map nD)]),y7,y8]) (List.range R.length)
   [↑(.tup (R.map aW)),↑hh,↑(.int st),↑(ak b),↑(.lst (S.map nD)),some es,↑(.lst [.lst (ms.map nD),.lst (qs.map nD)]),y7,none] ⟨none,rfl⟩ (by
    rintro i hi ρ ⟨y8,rfl⟩;have hi':i<R.length:=Qb hi;have hat:=j_ (R:=R) (i:=(i:Int)) ⟨by ac_nf,by ac_nf⟩
    have e0:(0:Int)+(i:Int)=(i:Int):=by ac_nf
    have hir:Yc (aW (aE R i))=some [.tup ((aE R i).1.map nD),ak (aE R i).2]:=rfl
    have hcm:=bP (fe:=Eg) (r:=[↑(.lst [.lst (ms.map nD),.lst (qs.map nD)])]) (enc:=nD) (λz=>D.bl (decide (z∈ms))) (l:=(aE R i).1) (λz _=>by
     have:=bK (c:=.lst (ms.map nD)) z ms false rfl;generalize D.lst (ms.map nD)=gg at *
     simp[Eg,this])
    have hbl:=gC (λz=>decide (z∈ms)) (aE R i).1
    have hkn:((aE R i).1.map λz=>decide (z∈ms)).all id=kn (aE R i).1 ms:=by unfold kn;rw[List.all_map];rfl
    have hcat:=gD (a:=qs.map nD) (b:=[nD i]) (by simp;ac_nf)
    have hq:qs.map nD++[nD i]=(qs++[i]).map nD:=by simp
    rw[hq]at hcat;have hg:=hge (↑(.int (i:Int)));have i3:=Fn false (aE R i).2;have i4:=Fl false (aE R i).2 b;simp only[k8,nL]at hg;refine⟨_,rfl,?_⟩;rw[e0];simp only[List.set];generalize kn (aE R i).1 ms=kk,((aE R i).1.map λz=>D.bl (decide (z∈ms)))=cm,((aE R i).1.map λz=>decide (z∈ms))=bs,R.map aW=RR,aW (aE R i)=rr,(qs++[i]).map nD=Q2,qs.map nD=QQ,ms.map nD=MM,ps.map nD=PP,S.map nD=SS,(aE R i).1.map nD=bb at *;generalize hob:ak b=ob at *;generalize hoh:ak (aE R i).2=oh at *
    cases hcd:(decide ((aE R i).2=none)||decide ((aE R i).2=b))with
    | false=>
      rw[Bool.or_eq_false_iff]at hcd;refine .inl ⟨rfl,[↑(.tup RR),↑hh,↑(.int st),↑ob,↑(.lst SS),some es,↑(.lst [.lst MM,.lst QQ]),y7,↑(.int (i:Int))],?_,_,rfl⟩;simp[o5,hat,hir,i3,i4,hcd.1,hcd.2]
    | true=>
      have hor:(if decide ((aE R i).2=none)=true then some true else some (decide ((aE R i).2=b)))=some true:=by
       rw[Bool.or_eq_true]at hcd;rcases hcd with h|h
       .rw[h];rfl
       .rw[h];split<;>rfl
      cases kk with
      | false=>
        refine .inl ⟨rfl,[↑(.tup RR),↑hh,↑(.int st),↑ob,↑(.lst SS),some es,↑(.lst [.lst MM,.lst QQ]),y7,↑(.int (i:Int))],?_,_,rfl⟩;simp only[o5,rP,nM,k8,nL,sr,sq,qd,rX,JA,Jz,hat,hir,JE,i3,i4,Qo,if_false,hor];simp[hat,hir,aq,hcm,hbl,hkn]
      | true=>
        refine .inr ⟨rfl,?_⟩;simp only[o5,rP,nM,k8,nL,sr,sq,qd,rX,JA,Jz,hat,hir,JE,i3,i4,Qo,if_false,hor];simp at hg hcat
        simp[hat,hir,aq,hcm,hbl,hkn,hg,hcat])
  rw[o6,dW,fD]
  have hrr:cF (Yb (cC (Yb (aa 0) ae) aA) ae) bx [↑(.tup (R.map aW)),↑hh,↑(.int st),↑(ak b),↑(.lst (S.map nD)),some es,↑(.lst [.lst (ms.map nD),.lst (qs.map nD)]),y7,none]=some ((List.range R.length).map λi:Nat=>D.int (0+(i:Nat))):=by
   generalize R.map aW=RR at *;simp[hlen]at hr ⊢;rw[hr]
  rw[hrr,qd];rcases step with⟨i,_,h2⟩|⟨_,ρ',h2,y8,rfl⟩
  .refine⟨qs++[i],by simp;ac_nf,?_⟩
   rw[h2];rfl
  .refine⟨qs,by ac_nf,?_⟩
   rw[h2];have hg:=hge y8;simp only[k8,nL]at hg;generalize R.map aW=RR,qs.map nD=QQ,ms.map nD=MM,ps.map nD=PP,S.map nD=SS,ak b=ob at *;simp at hg;simp[hg]
 rw[iO,Yg (by rfl)];have hst0:Yd 9 [.tup (R.map aW),hh,.int st,ak b]=[↑(.tup (R.map aW)),↑hh,↑(.int st),↑(ak b),none,none,none,none,none]:=rfl;rw[hst0]
 cases b with
 | none=>
   obtain⟨ks,qs,hk1,hk2,hf⟩:=Fo R (n:=60) ∅ hR hRl (fs:=S) ∅;obtain⟨qs',hq',ht⟩:=tail (.ow [.lst [],.lst []]) [] [] qs none (.inl rfl) ks nofun hk2;refine⟨[],qs',by simp,hq',?_⟩;have i1:cT false (ak none) .non=some true:=rfl;simp only[List.map_nil]at ht;generalize ak none=ob,R.map aW=RR,ks.map nD=KK,qs.map nD=QQ,qs'.map nD=Q2,S.map nD=SS at *;simp[-o6,Eh,w2,i1,hf,ht]
 | some x=>
   obtain⟨k1,p1,hk1,hp1,hf1⟩:=Fo R (n:=60) ∅ hR hRl (fs:=S) ∅
   have hc0:=dv (fc:=Ec) (fe:=Ed) (r:=[↑(.int (x:Int)),↑(.lst [.lst (k1.map nD),.lst (p1.map nD)])]) (enc:=nD) (λy=>decide (y<x)&&decide (y∈k1)) nD (l:=Kp) (λy _=>by
    have hin:=bK (c:=.lst (k1.map nD)) y k1 false rfl;generalize D.lst (k1.map nD)=gg at *
    by_cases hy:y<x<;>simp[Ec,hy,hin]) (λ_ _ _=>by simp[Ed])
   have hc1:=dv (fc:=Ee) (fe:=Ef) (r:=[↑(.int (x:Int))]) (enc:=nD) (λy=>!decide (y=x)) nD (l:=S) (λy _=>by simp[Ee]) (λ_ _ _=>by simp[Ef]);generalize hA:(Kp.filter λy=>decide (y<x)&&decide (y∈k1))=Ah at *;generalize hB:(S.filter λy=>!decide (y=x))=Bh at *
   have hAl:Ah.length<=60:=by rw[<-hA];exact Qg (Qn _ _) hKl
   have hBl:Bh.length<=60:=by rw[<-hB];exact Qg (Qn _ _) hSl
   obtain⟨k2,p2,hk2,hp2,hf2⟩:=Fo R (n:=60) ∅ hR hRl (fs:=Bh++Ah) (by simp;ac_nf);have hcat:=gD (a:=Bh.map nD) (b:=Ah.map nD) (by simp;ac_nf);rw[<-Qk]at hcat;obtain⟨qs',hq',ht⟩:=tail (.sh (.lst [.lst (k1.map nD),.lst (p1.map nD)])) k1 p1 p2 (some (.ow (Ah.map nD))) (.inr rfl) k2 ∅ hp2;refine⟨p1,qs',by ac_nf,hq',?_⟩;have i1:cT false (D.int (x:Int)) .non=some false:=rfl;have hox:ak (some x)=.int (x:Int):=rfl;rw[hox]at ht ⊢;generalize (Bh++Ah).map nD=AB,R.map aW=RR,k1.map nD=K1,p1.map nD=P1,k2.map nD=K2,p2.map nD=P2,Ah.map nD=AA,Bh.map nD=BB,qs'.map nD=Q2,S.map nD=SS,Kp.map nD=KK at *;simp[-o6,Eh,w1,w2,i1,hf1,hf2,aq,hc0,hc1,hcat,ht]
def ic(is:AH):Bool:=decide (is=du (aO [] is))
theorem ddup_len:∀(l acc:AH),(aO acc l).length<=acc.length+l.length
 | [],acc=>by simp[aO]
 | k::l,acc=>by
   rw[aO];by_cases h:k∈acc
   .rw[if_pos h]
    have:=ddup_len l acc;simp;ac_nf
   .rw[if_neg h]
    have:=ddup_len l (acc++[k]);simp at this ⊢;ac_nf
theorem Fp{is:AH}(h:is.length<=63):iE (is.map D.int)=some ((du (aO [] is)).map D.int):=by
 unfold iE;rw[sk];dsimp only;have:=ddup_len is [];rw[if_pos ⟨by ac_nf,by simp at this;ac_nf⟩]
theorem Ft(neg:Bool)(a b:AH):ay neg (.lst (a.map D.int)) (.lst (b.map D.int))=some (if neg then !decide (a=b)else decide (a=b)):=by
 have hd:∀l:AH,bw (l.map D.int)<=0:=λl=>oj λd hd=>by
  obtain⟨x,_,rfl⟩:=qy hd;simp
 rw[eZ (by have:=hd a;simp;ac_nf) (by have:=hd b;simp;ac_nf),BW]
 have he:da (a.map D.int) (b.map D.int)=decide (a=b):=om (enc:=D.int) (λx y=>by
  rw[JB]
  by_cases h:x=y<;>simp[h]) a b
 rw[he]
def U9{c:D}{is:AH}(hc:Yc c=some (is.map D.int))(h:is.length<=63):iM [c]=some (.bl (ic is)):=by
 have hs:=Fp h;have he:=Ft false is (du (aO [] is));rw[iM,Yg (by rfl)];unfold ic;generalize (du (aO [] is)).map D.int=S1 at *;generalize is.map D.int=I1 at *;simp[C_,Yd,hc,hs,he]
abbrev d9(R:List Sm):D:=.tup [.str "sums",.tup (R.map bN)]
def U_(R:List Sm)(i:Int):iN [d9 R,.int i]=some (.bl (decide (0<=i/\i<R.length))):=by
 rw[iN,Yg (by rfl)];by_cases h:0<=i<;>simp[Dz,Yd,h]
def fm(R:List Sm)(is:AH):Bool:=is.all λi=>decide (0<=i/\i<R.length)
def gi(is:AH):AG:=is.map Int.toNat
theorem pB{R:List Sm}{is:AH}(h:fm R is=true):is.map D.int=(gi is).map nD/\∀p∈gi is,p<R.length:=by
 unfold fm at h;rw[List.all_eq_true]at h;constructor
 .unfold gi
  rw[Qf];refine Qq λi hi=>?_;have:=wm (h i hi);simp[wn];ac_nf
 .intro p hp
  obtain⟨i,hi,rfl⟩:=qy hp;have:=wm (h i hi);ac_nf
def ki(R:List Sm)(S:AG)(ps:AG):Bool:=if fl 60 (λx=>decide (bF R ps x%2=1))=[]then cX R ps else decide ((fl 60 λx=>decide (bF R ps x%2=1)).getD ((fl 60 λx=>decide (bF R ps x%2=1)).length-1) 0∈S)
theorem Va{l:AG}(h:0<l.length):aX (l.map nD) (-1)=some (.int (l.getD (l.length-1) 0:Nat)):=by
 have e:eR (l.map nD).length (-1)=some (l.length-1):=by
  unfold eR;rw[qf,if_neg ∅,if_pos ∅]
  congr 1
  ac_nf
 have hx:l[l.length-1]?=some (l[l.length-1]'∅):=qr _;unfold aX;rw[e,qd,Qm,List.getD_eq_getElem?_getD,hx];rfl
def fo(R:List Sm)(S:AG)(is:AH):Bool:=ic is&&(fm R is&&ki R S (gi is))
theorem Vb{R:List Sm}{S:AG}{is:AH}(h:is.length<=63):tL [.tup (is.map D.int),d9 R,.lst (S.map nD)]=some (.bl (fo R S is)):=by
 have h1:=U9 (c:=.tup (is.map D.int)) rfl h
 have hcm:=bP (fe:=DG) (r:=[↑(d9 R)]) (enc:=D.int) (λi=>D.bl (decide (0<=i/\i<R.length))) (l:=is) (λi _=>by
  have:=U_ R i;generalize d9 R=bk at *
  simp[DG,this])
 have hbl:=gC (λi:Int=>decide (0<=i/\i<R.length)) is
 have hal:(is.map λi:Int=>decide (0<=i/\i<R.length)).all id=fm R is:=by unfold fm;rw[List.all_map];rfl
 have hit:Yc (.tup (is.map D.int))=some (is.map D.int):=rfl;rw[tL,Yg (by rfl)];unfold fo
 cases hr:ic is with
 | false=>
   rw[hr]at h1;generalize D.tup (is.map D.int)=ii,d9 R=bk,S.map nD=SS at *;simp[oV,Yd,h1]
 | true=>
   rw[hr]at h1
   cases ha:fm R is with
   | false=>
     rw[ha]at hal;generalize (is.map λi:Int=>D.bl (decide (0<=i/\i<R.length)))=cm,(is.map λi:Int=>decide (0<=i/\i<R.length))=bs at *;generalize hti:D.tup (is.map D.int)=ii at *;generalize d9 R=bk,S.map nD=SS at *;simp[oV,Yd,h1,hit,aq,hcm,hbl,hal]
   | true=>
     obtain⟨hm,hlt⟩:=pB ha;have had:=EZ (cp:=.tup (is.map D.int)) (R:=R) (ps:=gi is) (by rw[hm];rfl) hlt;rw[ha]at hal;have hib:Yc (d9 R)=some [.str "sums",.tup (R.map bN)]:=rfl;have had':oH [d9 R,.tup (is.map D.int)]=some (cG R (gi is)):=had;clear had;unfold ki;generalize hT:(fl 60 λx=>decide (bF R (gi is) x%2=1))=T at *
     have htd:cG R (gi is)=.tup [.tup (T.map nD),.bl (cX R (gi is))]:=by unfold cG bX;rw[hT]
     rw[htd]at had';generalize cX R (gi is)=oo,(is.map λi:Int=>D.bl (decide (0<=i/\i<R.length)))=cm,(is.map λi:Int=>decide (0<=i/\i<R.length))=bs at *;by_cases h0:T=[]
     .subst h0
      have hv:lp [.str "sums",.tup [.tup [],.bl oo]]=some (.bl oo):=by
       have:=L4 (k:=.s) (n:=60) (r:=.su [] oo) ⟨rfl,by simp⟩ (by simp[sz])
       have e2:bg (ax (.su [] oo)) (ax (vd .s))=oo:=by cases oo<;>simp[ax,vd]
       rw[e2]at this;exact this
      generalize hti:D.tup (is.map D.int)=ii at *;generalize d9 R=bk at *;generalize S.map nD=SS at *;simp[oV,Yd,h1,hit,aq,hcm,hbl,hal,had',hib,hv]
     .have hpos:0<T.length:=List.length_pos_iff.mpr h0
      have hla:=Va hpos;have hin:=bK (c:=.lst (S.map nD)) (T.getD (T.length-1) 0) S false rfl
      have hem:(T.map nD).isEmpty=false:=by cases T<;>simp at h0 ⊢
      generalize T.getD (T.length-1) 0=la at *;generalize hti:D.tup (is.map D.int)=ii at *;generalize d9 R=bk,S.map nD=SS,T.map nD=TT at *;rw[if_neg h0];simp[oV,Yd,h1,hit,aq,hcm,hbl,hal,had',hem,hla,hin]
abbrev cY:=Nat×Option Nat×Bool
def aB(r:cY):D:=.tup [.int r.1,ak r.2.1,.bl r.2.2]
@[simp] def Fu(r:cY):Yc (aB r)=some [.int r.1,ak r.2.1,.bl r.2.2]:=nr rfl
def pC(a b c:D):aX [a,b,c] 1=some b:=rfl
def kj(a b c:D):aX [a,b,c] 2=some c:=rfl
abbrev eN:=Option Nat×Bool
def bD(e:eN):D:=.tup [ak e.1,.bl e.2]
@[simp] def lC(e:eN):Yc (bD e)=some [ak e.1,.bl e.2]:=nr rfl
def vf(a:Bool)(b:AN):cT a (ak b) .non=some (if a then !decide (b=none)else decide (b=none)):=by
 cases b<;>cases a<;>rfl
def Fv(a b:AN):bg (ak a) (ak b)=decide (a=b):=by
 cases a with
 | none=>
   cases b with
   | none=>simp[ak,bg,aH,PyData.eqv]
   | some y=>simp[ak,bg,aH,PyData.eqv]
 | some x=>
   cases b with
   | none=>simp[ak,bg,aH,PyData.eqv]
   | some y=>exact(lg x y).trans nofun
def Ms(e f:eN):bg (bD e) (bD f)=decide (e=f):=by
 obtain⟨a,p⟩:=e;obtain⟨b,q⟩:=f;simp [bD,Fv,n7];by_cases d:a=b<;>by_cases c:p=q<;>simp[c]
def vg(e:eN):bu (bD e)<=60:=by simp[bD]
def Fw(e:eN)(l:List eN):bc false (bD e) (.lst (l.map bD))=some (decide (e∈l)):=by
 rw[sd rfl (vg e) (sC vg l),sA Ms];simp
def Fx(e f:eN):ay false (bD e) (bD f)=some (decide (e=f)):=by
 rw[eZ (vg e) (vg f),Ms];simp
theorem Fy(c:Bool)(a b:AG):ay c (.lst (a.map nD)) (.lst (b.map nD))=some (if c then !decide (a=b)else decide (a=b)):=by
 have h:∀l:AG,bw (l.map nD)<=1:=λl=>sC (λx=>by simp) l;have f:=h a;have d:=h b
 have e:bg (.lst (a.map nD)) (.lst (b.map nD))=da (a.map nD) (b.map nD):=by simp
 rw[eZ (by simp;ac_nf) (by simp;ac_nf),e,om lg]
noncomputable def bM(rows:List cY)(s:aP):eN:=
 match rows.find? (λr=>r.1==s.1)with
 | none=>(some s.1,s.2)
 | some r=>(r.2.1,s.2==r.2.2)
def gI(rows:List cY):D:=.dct false (rows.map λr=>nD r.1) (rows.map aB)
theorem Mt:∀rows:List cY,iD (rows.map λr=>.tup [.int r.1,aB r])=some (rows.map λr=>((r.1:Int),aB r))
 | []=>rfl
 | r::l=>by rw[Qd,iD,Mt l];rfl
theorem Mu{a:Type}:∀(ps:List (Int×a)) (ns:AH) (vs:List a),(ns++ps.map (·.1)).Nodup->cg ns vs ps=(ns++ps.map (·.1),vs++ps.map (·.2))
 | [],ns,vs,_=>by simp[cg]
 | p::ps,ns,vs,h=>by
   rw[cg,cW,if_neg (λb=>by
    rw[List.nodup_append]at h
    exact h.2.2 _ b p.1 nofun rfl)]
   have h':((ns++[p.1])++ps.map (·.1)).Nodup:=by simpa using h
   rw[Mu ps _ _ h'];simp
theorem Vc{l:AG}(h:l.Nodup):(l.map λx:Nat=>(x:Int)).Nodup:=by
 induction l with
 | nil=>simp
 | cons a l d=>
   rw[Qd,List.nodup_cons];rw[List.nodup_cons]at h;refine⟨λc=>?_,d h.2⟩;obtain⟨b,hb,e⟩:=qy c
   have:b=a:=by ac_nf
   exact h.1 (this ▸ hb)
theorem Vd{rows:List cY}(h:rows.length<=1000)(f:(rows.map (·.1)).Nodup):jY [.tup (rows.map aB)]=some (gI rows):=by
 have g:pairsOf (.lst (rows.map λr=>.tup [.int r.1,aB r]))=some (rows.map λr=>((r.1:Int),aB r)):=Mt rows;have d:=Vc f
 have c:(rows.map λr=>((r.1:Int),aB r)).length<1000000:=by rw[qf];ac_nf
 rw[jY,Yg (by rfl)]
 have a:(lF (Yo (b1 (ab 0) Yc) [none] (ai 0) tY Yq)) [↑(.tup (rows.map aB))]=some (.lst (rows.map λr=>.tup [.int r.1,aB r])):=by
  simp[aq,(bP (fe:=Yq) (r:=[]) (enc:=aB) (λr=>.tup [.int r.1,aB r]) (l:=rows) (λr _=>by
  simp[Yq]))]
 have e:Yd 1 [D.tup (rows.map aB)]=[↑(.tup (rows.map aB))]:=rfl
 rw[De,e,Jy,JT,a,qd,g,qd,JF,if_pos c,(Mu (rows.map λr=>(r.1,aB r)) [] [] (by
  rw[Qf];rw[Qf]at d
  exact d))]
 simp[gI,wn]
theorem Mv(x:Nat):∀rows:List cY,bf (rows.map λr=>((r.1:Nat):Int)) (rows.map aB) (x:Int)=(rows.find? (λr=>r.1==x)).map aB
 | []=>rfl
 | r::l=>by
   rw[Qd,Qd,bf,Mv x l,List.find?_cons];by_cases h:r.1=x
   .simp[h]
   .have h':¬(r.1)=(x:Int):=by ac_nf
    have a:(r.1==x)=false:=by simp[h]
    rw[if_neg h',a]
theorem Ve(rows:List cY)(s:aP):sX [af s,gI rows]=some (bD (bM rows s)):=by
 have f:cw (rows.map λr=>nD r.1)=some (rows.map λr=>(r.1:Int)):=sj _ rows
 have d:eW (gI rows) (.int s.1)=(rows.find? (λr=>r.1==s.1)).map aB:=by
  rw[gI,OP,f,qd,Mv s.1 rows]
 have b:eX true (.int s.1) (gI rows)=some (rows.find? (λr=>r.1==s.1)).isNone:=by
  rw[gI,zy,f,Option.map_some]
  cases a:rows.find? (λr=>r.1==s.1)with
  | none=>
    rw[List.find?_eq_none]at a
    have:¬(s.1:Int)∈rows.map λr=>r.1:=λg=>by
     obtain⟨r,c,e⟩:=qy g;have:=a r c;ac_nf
    simp only[wj this];rfl
  | some r=>
    have h:=List.find?_some a;have:(s.1:Int)∈rows.map λr=>r.1:=List.mem_map.mpr ⟨r,(List.mem_of_find?_eq_some a),by ac_nf⟩;simp only[wh this];rfl
 rw[sX,Yg (by rfl)];unfold bM
 cases a:rows.find? (λr=>r.1==s.1)with
 | none=>
   rw[a]at b;have hs:bD (some s.1,s.2)=af s:=rfl;rw[hs];have h0:=Cb s;simp[Df,Yd,b]
 | some r=>
   rw[a]at b d;have c:=Fu r;simp[Df,Yd,b,d,kj,bD]
noncomputable def dn(e:eN):eN:=(e.1,!e.2)
def Vf(e:eN):hZ [bD e]=some (bD (dn e)):=by
 rw[hZ,Yg (by rfl)];have a:bD (dn e)=.tup [ak e.1,.bl !e.2]:=rfl;rw[a];simp[J2,Yd]
def ig(a:List eN):Bool:=a.any λe=>decide (e=(none,true))||decide (dn e∈a)
theorem Vg(rows:List cY)(l:AZ):sZ [ax (.ei l),gI rows]=some (.bl (ig (l.map (bM rows)))):=by
 have c:=bP (fe:=Dg) (r:=[↑(gI rows)]) (enc:=af) (λs=>bD (bM rows s)) (l:=l) (λs _=>by
  simp[Dg,Ve rows s])
 have e1:(l.map λs=>bD (bM rows s))=(l.map (bM rows)).map bD:=by rw[Qf];rfl
 rw[e1]at c;generalize l.map (bM rows)=b at *;rw[sZ,Yg (by rfl)]
 simp[Kk,Yd,aq,c,(bP (fe:=sY) (r:=[↑(.lst (b.map bD))]) (enc:=bD) (λe=>.bl (decide (e=(none,true))||decide (dn e∈b))) (l:=b) (λe _=>by
  have a:=Fx e (none,true);have d:bD (none,true)=.tup [.non,.bl true]:=rfl;rw[d]at a;by_cases hd:e=(none,true)
  .rw[wh hd]at a ⊢
   simp[sY,a]
  .rw[wj hd]at a ⊢
   simp[sY,a,(Fw (dn e) b),Vf e])),ig]
noncomputable def d0(S:AG)(r:cY):Bool:=match r.2.1 with
 | none=>true
 | some x=>decide (x∈S)&&decide (x<r.1)
def Vh(r:cY)(S:AG):sW [aB r,.lst (S.map nD)]=some (.bl (d0 S r)):=by
 rw[sW,Yg (by rfl)];have a:=Fu r;unfold d0
 cases h:r.2.1 with
 | none=>
   rw[h]at a;have b:=vf false none;simp[sV,Yd,a,b]
 | some x=>
   rw[h]at a;have b:=vf false (some x);have i2:=bK (c:=.lst (S.map nD)) x S false rfl;have d:ak (some x)=.int x:=rfl;rw[d]at a b;by_cases c:x∈S
   .simp[sV,Yd,a,b,i2,c]
   .simp[sV,Yd,a,b,i2,c]
def gJ(rows:List cY)(L:AY)(K S:AG):Bool:=decide (rows.map (·.1)=K)&&rows.all (d0 S)&&L.all λl=>ig (l.map (bM rows))
theorem Vi{rows:List cY}(g:rows.length<=1000)(L:AY){K:AG}(j:K.Nodup)(S:AG):
 tf [.tup (rows.map aB),Yt .e (L.map Rl.ei),.lst (K.map nD),.lst (S.map nD)]=some (.bl (gJ rows L K S)):=by
 have h0:=bP (fe:=Dh) (r:=[]) (enc:=aB) (λr=>nD r.1) (l:=rows) (λr _=>by
  simp[Dh])
 have i:(rows.map λr=>nD r.1)=(rows.map (·.1)).map nD:=by rw[Qf];rfl
 rw[i]at h0
 have f:=bP (fe:=Di) (r:=[↑(.lst (S.map nD))]) (enc:=aB) (λr=>.bl (d0 S r)) (l:=rows) (λr _=>by
  have h:=Vh r S
  simp[Di,h])
 have b:=Fy true (rows.map (·.1)) K;rw[tf,Yg (by rfl)];have hb:Yc (Yt .e (L.map Rl.ei))=some [aC .e,.tup ((L.map Rl.ei).map ax)]:=rfl;by_cases a:rows.map (·.1)=K
 .have n:(rows.map (·.1)).Nodup:=by rw[a];exact j
  have hd:=Vd g n
  have d:=bP (fe:=Dj) (r:=[↑(gI rows)]) (enc:=λl=>ax (.ei l)) (λl=>.bl (ig (l.map (bM rows)))) (l:=L) (λl _=>by
   have h:=Vg rows l
   simp[Dj,h])
  have e2:(L.map λl=>ax (.ei l))=(L.map Rl.ei).map ax:=by rw[Qf];rfl
  rw[e2]at d;simp [a]at b
  have c:gJ rows L K S=(rows.all (d0 S)&&L.all λl=>ig (l.map (bM rows))):=by simp[gJ,a]
  rw[c];rw[a]at h0;generalize (L.map Rl.ei).map ax=o at *;generalize m:d0 S=k at *
  cases e:rows.all k with
  | true=>simp[s_,Yd,aq,h0,f,b,e,hd,hb,d]
  | false=>simp[s_,Yd,aq,h0,f,b,e]
 .have c:gJ rows L K S=false:=by simp[gJ,a]
  rw[c];simp only[a]at b;generalize (rows.map (·.1)).map nD=p at *;simp[s_,Yd,aq,h0,b]
theorem Vj(cells:AH)(S:AG)(k:Nat){rows:List cY}(hl:rows.length<=100)(a1 a2 y6 y7 y8:AS):
 ∃(r:cY) (z6 z7 z8:AS),r.1=k/\(∀x,r.2.1=some x->x<k)/\t_ [↑(.lst (cells.map D.int)),a1,a2,↑(.lst (S.map nD)),some (.ow (rows.map aB)),↑(.int k),y6,y7,y8] =
  some (.nx [↑(.lst (cells.map D.int)),a1,a2,↑(.lst (S.map nD)),some (.ow ((rows++[r]).map aB)),↑(.int k),z6,z7,z8]):=by
 obtain⟨v,hv⟩:∃v:Int,∀(b3 b4 b7 b8:AS),(aG (b2 (aa 5) (cC (Yb (aa 0) ae) aA) cZ) (ao 6 (cC (Yb (b2 (aa 0) (aa 5) aj) (Yb (Zb 1442695040888963407) ae)) Yr)) ar) [↑(.lst (cells.map D.int)),a1,a2,b3,b4,↑(.int k),↑(.int 0),b7,b8] =
  some (.nx [↑(.lst (cells.map D.int)),a1,a2,b3,b4,↑(.int k),↑(.int v),b7,b8]):=by
  have hlen:((cells.map D.int).length:Int)=(cells.length:Int):=by simp
  by_cases h:k<cells.length
  .obtain⟨c,_,hc⟩:=jO (l:=cells) (i:=(k:Int)) ∅ ∅
   have hat:aX (cells.map D.int) (k:Int)=some (.int c):=by rw[dJ,hc];rfl
   obtain⟨v,_,hv⟩:=iP c 1442695040888963407;refine⟨v,λb3 b4 b7 b8=>?_⟩
   have h':(k:Int)<(cells.length:Int):=by ac_nf
   generalize cells.map D.int=cc at *;simp[hlen,h,h',hat,hv]
  .refine⟨0,λb3 b4 b7 b8=>?_⟩
   have h':¬(k:Int)<(cells.length:Int):=by ac_nf
   generalize cells.map D.int=cc at *;simp[hlen,h,h']
 have hA:=dv (fc:=t8) (fe:=t9) (r:=[↑(.int (k:Int))]) (enc:=nD) (λx=>decide (x<k)) nD (l:=S) (λx _=>by
  simp[t8]) (λx _ _=>by simp[t9])
 have hAk:∀x∈S.filter (λx=>decide (x<k)),x<k:=λx hx=>by simpa using (Qc hx).2
 generalize S.filter (λx=>decide (x<k))=A at *
 obtain⟨o,ho,hs⟩:∃o:AN,(∀x,o=some x->x<k)/\∀(b0 b1 b2' b3 b4 b5:AS),(aG (aU (b2 (cC (Yb (aa 7) ae) aA) (Zb 0) eS) (b2 (b2 (aa 6) (Zb 3) aD) (Zb 0) eS)) (ao 8 (b2 (aa 7) (b2 (b2 (aa 6) (Zb 6) cv) (cC (Yb (aa 7) ae) aA) aD) aj)) ar) [b0,b1,b2',b3,b4,b5,↑(.int v),some (.ow (A.map nD)),↑.non] =
  some (.nx [b0,b1,b2',b3,b4,b5,↑(.int v),some (.ow (A.map nD)),↑(ak o)]):=by
  have hlen:((A.map nD).length:Int)=(A.length:Int):=by simp
  by_cases h:0<A.length/\0<v%3
  .have hpI:(0:Int)<(A.length:Int):=by ac_nf
   obtain⟨y,hy,e⟩:=jO (l:=A) (i:=v/6%(A.length:Int)) (Int.emod_nonneg _ ∅) (Int.emod_lt_of_pos _ hpI)
   have hat:aX (A.map nD) (v/6%(A.length:Int))=some (.int (y:Int)):=by rw[dJ,e];rfl
   have hmod:aD (.int (v/6)) (.int (A.length:Int))=some (.int (v/6%(A.length:Int))):=k9 hpI;refine⟨some y,λx hx=>by cases hx;exact hAk _ hy,λb0 b1 b2' b3 b4 b5=>?_⟩;have h1:=h.1;have h2:=h.2;generalize A.map nD=AA at *;simp[hlen,h1,h2,hpI,hmod,hat,ak]
  .refine⟨none,λx hx=>(nomatch hx),λb0 b1 b2' b3 b4 b5=>?_⟩
   generalize A.map nD=AA at *;by_cases h1:0<A.length
   .have h2:¬0<v%3:=λz=>h ⟨h1,z⟩
    simp[hlen,h1,h2,ak]
   .simp[hlen,h1,ak]
 refine⟨(k,o,decide (v/3%2=1)),↑(.int v),some (.ow (A.map nD)),↑(ak o),rfl,ho,?_⟩;have happ:∀d:D,aT (rows.map aB) d=some (rows.map aB++[d]):=λd=>e_ (by rw[qf];ac_nf)
 have hr:(rows++[((k,o,decide (v/3%2=1)):cY)]).map aB=rows.map aB++[.tup [.int k,ak o,.bl (decide (v/3%2=1))]]:=by rw[Qk];rfl
 rw[hr];generalize rows.map aB=RR,ak o=od,cells.map D.int=cc at *
 have s1:ao 6 (Zb 0) [↑(.lst cc),a1,a2,↑(.lst (S.map nD)),some (.ow RR),↑(.int (k:Int)),y6,y7,y8]=some (.nx [↑(.lst cc),a1,a2,↑(.lst (S.map nD)),some (.ow RR),↑(.int (k:Int)),↑(.int 0),y7,y8]):=by simp
 have s3:aF 7 (Yo (b1 (ab 3) Yc) [none,some 5] (ai 0) (t8) (t9)) [↑(.lst cc),a1,a2,↑(.lst (S.map nD)),some (.ow RR),↑(.int (k:Int)),↑(.int v),y7,y8]=some (.nx [↑(.lst cc),a1,a2,↑(.lst (S.map nD)),some (.ow RR),↑(.int (k:Int)),↑(.int v),some (.ow (A.map nD)),y8]):=by simp[aq,hA]
 generalize S.map nD=SS,A.map nD=AA at *
 have s4:ao 8 (kD .non) [↑(.lst cc),a1,a2,↑(.lst SS),some (.ow RR),↑(.int (k:Int)),↑(.int v),some (.ow AA),y8]=some (.nx [↑(.lst cc),a1,a2,↑(.lst SS),some (.ow RR),↑(.int (k:Int)),↑(.int v),some (.ow AA),↑.non]):=by simp
 rw[t_,dW,s1,qd,eI,dW,hv,qd,eI,dW,s3,qd,eI,dW,s4,qd,eI,dW,hs,qd,eI];simp[happ]
theorem Vk(cells:AH){c:D}{hs:AJ}(hc:Yc c=some (hs.map av))(hl:hs.length<=60){st:Nat}(hst:st<=hs.length):
 ∃rows:List cY,rows.length<=60/\(∀r∈rows,r.1<hs.length/\∀x,r.2.1=some x->x<r.1)/\uA [.lst (cells.map D.int),c,.int st]=some (.lst (rows.map aB)):=by
 have o1:=gc hs hc ∅ st hst true;have o2:=gc hs hc ∅ st hst false;simp only[av,if_true,Qo,if_false]at o1 o2;have hKl:(aI hs st true).length<=60:=Qg (Qn _ _) (by simpa using hl);have hKn:∀x∈aI hs st true,x<hs.length:=λx hx=>lz hx;generalize aI hs st true=K,aI hs st false=S at *
 obtain⟨ρ',e1,rows,y5,y6,y7,y8,hrl,hrg,rfl⟩:=Yv (gt:=ai 5) (fb:=t_) nD (λpre ρ=>∃(rows:List cY) (y5 y6 y7 y8:AS),rows.length=pre.length/\(∀r∈rows,r.1<hs.length/\∀x,r.2.1=some x->x<r.1)/\
  ρ=[↑(.lst (cells.map D.int)),↑c,↑(.int st),↑(.lst (S.map nD)),some (.ow (rows.map aB)),y5,y6,y7,y8]) K []
  [↑(.lst (cells.map D.int)),↑c,↑(.int st),↑(.lst (S.map nD)),some (.ow []),none,none,none,none] ⟨[],none,none,none,none,rfl,by simp,rfl⟩ (by
   rintro q k r ρ e ⟨rows,y5,y6,y7,y8,hrl,hrg,rfl⟩
   have hk:k∈K:=by rw[Qj]at e;rw[e];simp
   have hq:q.length<=60:=by
    have:=congrArg List.length e;simp at this;ac_nf
   obtain⟨w,z6,z7,z8,w1,w2,hw⟩:=Vj cells S k (rows:=rows) ∅ (↑c) (↑(.int st)) y6 y7 y8;refine⟨_,_,rfl,hw,rows++[w],_,_,_,_,by simp[hrl],λx hx=>?_,rfl⟩;rcases qw hx with hx|hx
   .exact hrg x hx
   .rw[List.mem_singleton]at hx
    subst hx
    exact⟨by rw[w1];exact hKn k hk,λy hy=>by rw[w1];exact w2 y hy⟩)
 refine⟨rows,by rw[hrl];simpa using hKl,hrg,?_⟩;rw[uA,Yg (by rfl)];generalize rows.map aB=RR,cells.map D.int=cc,S.map nD=SS,K.map nD=KK at *;simp[DY,Yd,o1,o2,e1]
theorem Vl{rows:List cY}{n:Nat}(hn:n<=60)(hr:∀r∈rows,r.1<n/\∀x,r.2.1=some x->x<r.1)(h0:0<rows.length){st:Nat}(hst:st<n){w:Int}(hw:0<=w):
 ∃l:AZ,In .e n (.ei l)/\cz (.ei l)/\uB [.lst (rows.map aB),.int w,.int st,.int n]=some (ax (.ei l)):=by
 have hpI:(0:Int)<(rows.length:Int):=by ac_nf
 obtain⟨r,hm,e⟩:=jO (l:=rows) (i:=w%(rows.length:Int)) (Int.emod_nonneg _ ∅) (Int.emod_lt_of_pos _ hpI)
 have hat:aX (rows.map aB) (w%(rows.length:Int))=some (aB r):=by rw[dJ,e];rfl
 have hmod:aD (.int w) (.int (rows.length:Int))=some (.int (w%(rows.length:Int))):=k9 hpI
 have hlen:((rows.map aB).length:Int)=(rows.length:Int):=by simp
 have hne:¬((rows.length:Nat):Int)=0:=by ac_nf
 have hne':¬rows.length=0:=by ac_nf
 have hne2:¬rows=[]:=λz=>by rw[z]at h0;simp at h0
 have hi:=Fu r;obtain⟨hrn,hrx⟩:=hr r hm;rw[uB,Yg (by rfl)];have hst0:Yd 7 [.lst (rows.map aB),.int w,.int (st:Int),.int (n:Int)]=[↑(.lst (rows.map aB)),↑(.int w),↑(.int st),↑(.int n),none,none,none]:=rfl;rw[hst0]
 cases h:r.2.1 with
 | none=>
   rw[h]at hi;have i1:=vf false none
   have hd:(0:Int)<(n:Int)-st:=by ac_nf
   have g1:=Int.emod_nonneg (w/64) (show(n:Int)-st≠0 by ac_nf);have g2:=Int.emod_lt_of_pos (w/64) hd
   obtain⟨b,hb⟩:∃b:Nat,(st:Int)+w/64%((n:Int)-st)=(b:Int):=⟨((st:Int)+w/64%((n:Int)-st)).toNat,by ac_nf⟩
   have hmod2:aD (.int (w/64)) (.int ((n:Int)-st))=some (.int (w/64%((n:Int)-st))):=k9 hd;obtain⟨l,hl1,hl2,hl3⟩:=E_ (n:=n) (s:=(r.1,r.2.2)) (t:=(b,decide (w/4096%2=1))) hrn (show b<n by ac_nf) hn;refine⟨l,hl1,hl2,?_⟩;have hrl:ax (.ei l)=.tup (l.map af):=rfl;rw[hrl];have hsa:af (r.1,r.2.2)=.tup [.int r.1,.bl r.2.2]:=rfl;have hsb:af (b,decide (w/4096%2=1))=.tup [.int b,.bl (decide (w/4096%2=1))]:=rfl;rw[hsa,hsb]at hl3;generalize l.map af=ll,aB r=rr,rows.map aB=RR at *;simp[DZ,hlen,hne,hne',hne2,hmod,hat,hi,pC,kj,i1,hmod2,hb,hl3]
 | some x=>
   rw[h]at hi;have i1:=vf false (some x);have i3:ak (some x)=.int x:=rfl;rw[i3]at hi i1;have hxr:=hrx x h;obtain⟨l,hp,hw',hsrt⟩:=Md [(r.1,decide (w/64%2=1)),(x,!(decide (w/64%2=1)==r.2.2))] nofun (by simp;ac_nf);refine⟨l,⟨rfl,λs hs=>?_⟩,⟨by rw[hp.length_eq];simp,hw'⟩,?_⟩
   .have:=hp.mem_iff.mp hs
    simp at this;rcases this with rfl|rfl
    .exact hrn
    .exact Nat.lt_trans hxr hrn
   have hrl:ax (.ei l)=.tup (l.map af):=rfl;rw[hrl];have hsa:[((r.1,decide (w/64%2=1)):aP),(x,!(decide (w/64%2=1)==r.2.2))].map af=[.tup [.int r.1,.bl (decide (w/64%2=1))],.tup [.int x,.bl (!(decide (w/64%2=1)==r.2.2))]]:=rfl;rw[hsa]at hsrt;generalize l.map af=ll,aB r=rr,rows.map aB=RR at *;generalize hdd:decide (w/64%2=1)=dd at *;simp[DZ,hlen,hne,hne',hne2,hmod,hat,hi,pC,kj,i1,hdd,hsrt]
theorem vh(c:Bool)(a b:AG):ay c (.lst (a.map nD)) (.lst (b.map nD))=some (if c then !decide (a=b)else decide (a=b)):=by
 have h:∀l:AG,bw (l.map nD)<=1:=λl=>sC (λx=>by simp) l;have f:=h a;have d:=h b
 have e:bg (.lst (a.map nD)) (.lst (b.map nD))=da (a.map nD) (b.map nD):=by simp
 rw[eZ (by simp;ac_nf) (by simp;ac_nf),e,om lg]
noncomputable def ij(l:AG):Bool:=decide (l.Pairwise (·<·))
theorem Mw:∀{a b:AG},a.Pairwise (·<·)->b.Pairwise (·<·)->(∀x,x∈a↔x∈b)->a=b
 | [],[],_,_,_=>rfl
 | [],y::b,_,_,h=>absurd ((h y).mpr qh) nofun
 | x::a,[],_,_,h=>absurd ((h x).mp qh) nofun
 | x::a,y::b,d,g,h=>by
   rw[List.pairwise_cons]at d g
   have c:x=y:=by
    have f:=(h x).mp qh;have e:=(h y).mpr qh;grind
   subst c
   have:=Mw d.2 g.2 λz=>by
    grind
   rw[this]
theorem Fz{l:AG}(h:∀x∈l,x<60)(g:l.length<=3700):∃a:AG,iE (l.map nD)=some (a.map nD)/\decide (l=a)=ij l:=by
 obtain⟨a,b,c,f⟩:=EJ ∅ l h ∅;refine⟨a,f,?_⟩;unfold ij;by_cases d:l.Pairwise (·<·)
 .have:=Mw d b λx=>(c x).symm
  simp[d,<-this]
 .have:¬l=a:=λe=>d (e ▸ b)
  simp[d,this]
def Mx{l:AG}(h:∀x∈l,x<60)(d:l.length<=3700):iM [.tup (l.map nD)]=some (.bl (ij l)):=by
 obtain⟨c,a,e⟩:=Fz h d;have b:=vh false l c;simp [e]at b;rw[iM,Yg (by rfl)];simp[C_,Yd,a,b]
abbrev b_:=Nat×List Nat×Bool
def az(r:b_):D:=.tup [.int r.1,.tup (r.2.1.map nD),.bl r.2.2]
@[simp] def FA(r:b_):Yc (az r)=some [.int r.1,.tup (r.2.1.map nD),.bl r.2.2]:=nr rfl
def FB(a b c:D):aX [a,b,c] 1=some b:=rfl
def FC(a b c:D):aX [a,b,c] 2=some c:=rfl
def gj(S:AG)(r:b_):Bool:=ij r.2.1&&r.2.1.all λx=>decide (x∈S)&&decide (x<r.1)
def Vm{r:b_}(h:∀x∈r.2.1,x<60)(f:r.2.1.length<=3700)(S:AG):tm [az r,.lst (S.map nD)]=some (.bl (gj S r)):=by
 have b:=FA r;have a:=Mx h f
 have e:=bP (fe:=tj) (r:=[↑(.lst (S.map nD)),↑(az r)]) (enc:=nD) (λx=>.bl (decide (x∈S)&&decide (x<r.1))) (l:=r.2.1) (λx _=>by
  have i2:=bK (c:=.lst (S.map nD)) x S false rfl;by_cases c:x∈S
  .simp[tj,b,i2,c]
  .simp[tj,b,i2,c])
 rw[tm,Yg (by rfl)];unfold gj;generalize ij r.2.1=d at *
 cases d with
 | true=>simp[Dk,Yd,b,a,aq,e]
 | false=>simp[Dk,Yd,b,a]
def kl(rows:List b_):D:=.dct false (rows.map λr=>nD r.1) (rows.map az)
theorem My:∀rows:List b_,iD (rows.map λr=>.tup [.int r.1,az r])=some (rows.map λr=>((r.1:Int),az r))
 | []=>rfl
 | r::l=>by rw[Qd,iD,My l];rfl
theorem Mz:∀(c:List (Int×a)) (ns:AH) (vs:List a),(ns++c.map (·.1)).Nodup->cg ns vs c=(ns++c.map (·.1),vs++c.map (·.2))
 | [],ns,vs,_=>by simp[cg]
 | p::c,ns,vs,h=>by
   rw[cg,cW,if_neg (λb=>by
    grind)]
   have d:((ns++[p.1])++c.map (·.1)).Nodup:=by simpa using h
   rw[Mz c _ _ d];simp
theorem Vn{l:AG}(h:l.Nodup):(l.map λx:Nat=>(x:Int)).Nodup:=by grind
theorem Vo{rows:List b_}(h:rows.length<=1000)(f:(rows.map (·.1)).Nodup):jY [.tup (rows.map az)]=some (kl rows):=by
 have g:pairsOf (.lst (rows.map λr=>.tup [.int r.1,az r]))=some (rows.map λr=>((r.1:Int),az r)):=My rows;have d:=Vn f
 have c:(rows.map λr=>((r.1:Int),az r)).length<1000000:=by rw[qf];ac_nf
 rw[jY,Yg (by rfl)]
 have a:(lF (Yo (b1 (ab 0) Yc) [none] (ai 0) tY Yq)) [↑(.tup (rows.map az))]=some (.lst (rows.map λr=>.tup [.int r.1,az r])):=by
  simp[aq,(bP (fe:=Yq) (r:=[]) (enc:=az) (λr=>.tup [.int r.1,az r]) (l:=rows) (λr _=>by
  simp[Yq]))]
 have e:Yd 1 [D.tup (rows.map az)]=[↑(.tup (rows.map az))]:=rfl
 rw[De,e,Jy,JT,a,qd,g,qd,JF,if_pos c,(Mz (rows.map λr=>(r.1,az r)) [] [] (by
  rw[Qf];rw[Qf]at d
  exact d))]
 simp[kl,wn]
theorem MD(x:Nat):∀rows:List b_,bf (rows.map λr=>((r.1:Nat):Int)) (rows.map az) (x:Int)=(rows.find? (λr=>r.1==x)).map az
 | []=>rfl
 | r::l=>by
   rw[Qd,Qd,bf,MD x l]
   split<;>ext
noncomputable def eD(rows:List b_)(x:Nat):b_:=(rows.find? (λr=>r.1==x)).getD (x,[x],false)
def fq(rows:List b_)(x:Nat):Sm:=(λy=>decide (y∈(eD rows x).2.1),(eD rows x).2.2)
theorem FD(h:∀r∈rows,r.2.1.Pairwise (·<·)/\∀y∈r.2.1,y<60)(b:x<60):(eD rows x).2.1.Pairwise (·<·)/\∀y∈(eD rows x).2.1,y<60:=by
 unfold eD
 cases e:rows.find? _ with
 | none=>exact⟨by simp,λy a=>by ext⟩
 | some r=>exact h r (List.mem_of_find?_eq_some e)
def FG(rows:List b_)(x:Nat):k0 (kl rows) (.int (x:Int)) (.tup [.int (x:Int),.tup [.int (x:Int)],.bl false])=some (az (eD rows x)):=by
 rw[kl,OQ,sj _ _,Option.map_some,MD];unfold eD;cases rows.find? _<;>rfl
def FH(h:∀r∈rows,r.2.1.Pairwise (·<·)/\∀y∈r.2.1,y<60)(b:x<60):D.tup [.tup ((eD rows x).2.1.map nD),.bl (eD rows x).2.2]=bN (fq rows x):=by
 obtain⟨a,c⟩:=FD h b;exact E3 a c _
def fu(rows:List b_)(a:Sm)(x:Nat):Sm:=(λy=>a.1 y != (fq rows x).1 y,a.2 != (fq rows x).2)
def cQ(rows:List b_)(l:AG):Sm:=l.foldl (fu rows) (λ_=>false,false)
theorem FJ(rows:List b_)(q:AG)(x:Nat):cQ rows (q++[x])=fu rows (cQ rows q) x:=by
 unfold cQ;grind
theorem Vp(h:∀r∈rows,r.2.1.Pairwise (·<·)/\∀y∈r.2.1,y<60)(a:Sm):tq [bN a,kl rows]=some (bN (cQ rows (fl 60 a.1))):=by
 have k:∀x∈fl 60 a.1,x<60:=λx c=>Qb (Qc c).1;have i:Yc (bN a)=some _:=rfl;generalize bN a=d,fl 60 a.1=F at *
 obtain⟨o,n,g,f,rfl⟩:=Yv (gt:=ai 3) (fb:=Dl) nD (λj l=>∃(g f:AS),l=[↑d,↑(kl rows),↑(bN (cQ rows j)),g,f]) F []
  _ ⟨none,none,rfl⟩ (by
   rintro q x r l e ⟨g,f,rfl⟩;have c:=k x (by ext)
   have b:jV [bN (cQ rows q),bN (fq rows x)]=some (bN (cQ rows (q++[x]))):=by rw[FJ];exact(L_ _ _ _ _)
   rw[<-(FH h c)]at b;refine⟨_,[some _,some _,some _,↑(nD x),↑(az (eD rows x))],rfl,?_,_,_,rfl⟩
   simp[Dl,FG rows x,FC,b])
 rw[tq,Yg (by rfl)];have m:.tup [.tup [],.bl false]=bN (cQ rows []):=rfl;simp[Kl,Yd,m,i,n]
def iR(rows:List b_)(a:Sm):Bool:=decide (fl 60 (cQ rows (fl 60 a.1)).1=[])&&((cQ rows (fl 60 a.1)).2==a.2)
theorem FK(a:Sm)(o:Bool):ay false (bN a) (.tup [.tup [],.bl o])=some (decide (fl 60 a.1=[])&&(a.2==o)):=by
 have hd:bw ((fl 60 a.1).map nD)<=1:=sC (λx=>by simp) _;have e:da ((fl 60 a.1).map nD) []=decide (fl 60 a.1=[]):=om lg (fl 60 a.1) [];rw[eZ (by simp;ac_nf) nofun];simp only[BV,JD,e];simp
def gK(rows:List b_)(R:List Sm)(K S:AG):Bool:=decide (rows.map (·.1)=K)&&rows.all (gj S)&&R.all (iR rows)
theorem Vq{rows:List b_}(s:rows.length<=1000)(f:∀r∈rows,r.2.1.length<=3700/\∀y∈r.2.1,y<60)(R:List Sm){K:AG}(n:K.Nodup)(S:AG):
 ts [.tup (rows.map az),.tup [.str "sums",.tup (R.map bN)],.lst (K.map nD),.lst (S.map nD)]=some (.bl (gK rows R K S)):=by
 have h0:=bP (fe:=Dm) (r:=[]) (enc:=az) (λr=>nD r.1) (l:=rows) (λr _=>by
  have u:=FA r
  simp[Dm])
 have m:(rows.map λr=>nD r.1)=(rows.map (·.1)).map nD:=by rw[Qf];rfl
 rw[m]at h0
 have l:=bP (fe:=Dn) (r:=[↑(.lst (S.map nD))]) (enc:=az) (λr=>.bl (gj S r)) (λr d=>by
  have h:=Vm (f r d).2 (f r d).1 S
  simp[Dn,h])
 have e:=vh true (rows.map (·.1)) K;rw[ts,Yg (by rfl)];have k:bz (rows.map λr=>D.bl (gj S r))=some (rows.map (gj S)):=gC _ rows;have hb:Yc (.tup [.str "sums",.tup (R.map bN)])=some [.str "sums",.tup (R.map bN)]:=rfl;by_cases c:rows.map (·.1)=K
 .have t:(rows.map (·.1)).Nodup:=by rw[c];exact n
  have hd:=Vo s t;simp [c]at e
  have g:gK rows R K S=(rows.all (gj S)&&R.all (iR rows)):=by simp[gK,c]
  rw[g];rw[c]at h0
  cases i:rows.all (gj S)with
  | false=>
    simp[tr,Yd,aq,h0,l,e,i]
  | true=>
    have b:∀r∈rows,r.2.1.Pairwise (·<·)/\∀y∈r.2.1,y<60:=λr d=>by
     have h:=List.all_eq_true.mp i r d;unfold gj ij at h;simp only[Qe,wg]at h;exact⟨h.1,(f r d).2⟩
    have o:=bP (fe:=Do) (r:=[↑(kl rows)]) (enc:=bN) (λa=>.bl (iR rows a)) (l:=R) (λa _=>by
     have h:=Vp b a;have p:Yc (bN a)=some [.tup ((fl 60 a.1).map nD),.bl a.2]:=rfl;have q:=FK (cQ rows (fl 60 a.1)) a.2;unfold iR
     simp[Do,h,q])
    have j:bz (R.map λa=>D.bl (iR rows a))=some (R.map (iR rows)):=gC _ R;simp[tr,Yd,aq,h0,l,e,i,hd,o]
 .have g:gK rows R K S=false:=by simp[gK,c]
  rw[g];simp only[c]at e;generalize (rows.map (·.1)).map nD=v at *;simp[tr,Yd,aq,h0,e]
theorem MH(x:Nat):∀l:AG,(l.map λy:Nat=>(y:Int)).count (x:Int)=l.count x
 | []=>rfl
 | y::l=>by
   rw[Qd,List.count_cons,List.count_cons,MH x l];by_cases h:y=x
   .simp[h]
   .have:¬(y:Int)=(x:Int):=by ac_nf
    simp[h,this]
theorem Vr{l:AG}(h:∀x∈l,x<60)(hl:l.length<4000):uI [.lst (l.map nD)]=some (.tup ((fl 60 λx=>decide (l.count x%2=1)).map nD)):=by
 obtain⟨l',hpw,hmem,hss⟩:=EJ (n:=60) ∅ l h hl
 have hcm:=dv (fc:=D1) (fe:=D2) (r:=[↑(.lst (l.map nD))]) (enc:=nD) (λx=>decide (l.count x%2=1)) nD (l:=l') (λx _=>by
  have hc:hV (.lst (l.map nD)) (.int (x:Int))=some (.int (l.count x:Nat)):=by
   have e:l.map nD=(l.map λy:Nat=>(y:Int)).map D.int:=by simp
   rw[e,CK,MH]
  have hm:((l.count x:Int)%2=1)↔(l.count x%2=1):=by ac_nf
  generalize D.lst (l.map nD)=cc at *
  simp[D1,hc,hm]) (λ_ _ _=>by simp[D2])
 have hfin:(l'.filter λx=>decide (l.count x%2=1))=fl 60 λx=>decide (l.count x%2=1):=by
  rw[kc (hpw.filter _) (n:=60) (λx hx=>h x ((hmem x).mp (Qc hx).1))];refine List.filter_congr λx hx=>?_;by_cases hc:l.count x%2=1
  .have:x∈l:=by
    refine Classical.byContradiction λz=>?_;rw[List.count_eq_zero_of_not_mem z]at hc;ac_nf
   simp[hc,(hmem x).mpr this]
  .simp[hc]
 rw[hfin]at hcm;rw[uI,Yg (by rfl)];generalize (fl 60 λx=>decide (l.count x%2=1)).map nD=TT,l'.map nD=LL,l.map nD=CC at *;simp[K9,Yd,hss,aq,hcm]
def par(n:Nat):Bool:=decide (n%2=1)
def il(n:Nat)(rows:List b_):Prop:=∀r∈rows,r.2.1.length<=n/\∀y∈r.2.1,y<60
theorem FL(cells:AH){S:AG}(hS:S.length<=40)(hS60:∀x∈S,x<60)(k:Nat){rows:List b_}(hl:rows.length<=100)(a1 a2 y6 y7 y8:AS):
 ∃(r:b_) (z6 z7 z8:AS),r.1=k/\(r.2.1.length<=40/\∀y∈r.2.1,y<60)/\uG [↑(.lst (cells.map D.int)),a1,a2,↑(.lst (S.map nD)),some (.ow (rows.map az)),↑(.int k),y6,y7,y8] =
  some (.nx [↑(.lst (cells.map D.int)),a1,a2,↑(.lst (S.map nD)),some (.ow ((rows++[r]).map az)),↑(.int k),z6,z7,z8]):=by
 obtain⟨v,hv⟩:∃v:Int,∀(b3 b4 b7 b8:AS),(aG (b2 (aa 5) (cC (Yb (aa 0) ae) aA) cZ) (ao 6 (cC (Yb (b2 (aa 0) (aa 5) aj) (Yb (Zb 1442695040888963407) ae)) Yr)) ar) [↑(.lst (cells.map D.int)),a1,a2,b3,b4,↑(.int k),↑(.int 0),b7,b8] =
  some (.nx [↑(.lst (cells.map D.int)),a1,a2,b3,b4,↑(.int k),↑(.int v),b7,b8]):=by
  have hlen:((cells.map D.int).length:Int)=(cells.length:Int):=by simp
  by_cases h:k<cells.length
  .obtain⟨c,_,hc⟩:=jO (l:=cells) (i:=(k:Int)) ∅ ∅
   have hat:aX (cells.map D.int) (k:Int)=some (.int c):=by rw[dJ,hc];rfl
   obtain⟨v,_,hv⟩:=iP c 1442695040888963407;refine⟨v,λb3 b4 b7 b8=>?_⟩
   have h':(k:Int)<(cells.length:Int):=by ac_nf
   generalize cells.map D.int=cc at *;simp[hlen,h,h',hat,hv]
  .refine⟨0,λb3 b4 b7 b8=>?_⟩
   have h':¬(k:Int)<(cells.length:Int):=by ac_nf
   generalize cells.map D.int=cc at *;simp[hlen,h,h']
 have hA:=dv (fc:=uC) (fe:=uD) (r:=[↑(.int (k:Int))]) (enc:=nD) (λx=>decide (x<k)) nD (l:=S) (λx _=>by
  simp[uC]) (λx _ _=>by simp[uD])
 have hAS:∀x∈S.filter (λx=>decide (x<k)),x<60:=λx hx=>hS60 x (Qc hx).1;have hAl:(S.filter (λx=>decide (x<k))).length<=40:=Qg (Qn _ _) hS;generalize S.filter (λx=>decide (x<k))=A at *;have hr:=fE (n:=(A.length:Int)) ∅ ∅;rw[dX]at hr
 have el:((A.length:Int)-0).toNat=A.length:=by ac_nf
 rw[el]at hr;simp only[Int.zero_add]at hr
 have hB:=dv (fc:=uE) (fe:=uF) (r:=[↑(.lst (A.map nD)),↑(.int v)]) (enc:=λi:Nat=>D.int ((i:Nat):Int)) (λi:Nat=>decide (v/2^(i%55+1)%3=1)) (λi:Nat=>nD (A.getD i 0)) (l:=List.range A.length) (λi _=>by
  have hsh:cB (.int v) (.int ((i:Int)%55+1))=some (.int (v/2^(i%55+1))):=by
   have hj:((i:Int)%55+1)=((i%55+1:Nat):Int):=by ac_nf
   rw[hj];exact jA _ _
  generalize v/2^(i%55+1)=vv at *
  simp[uE,hsh]) (λi hi _=>by
  have hi':i<A.length:=by simpa using hi
  have hat:aX (A.map nD) (i:Int)=some (nD (A.getD i 0)):=by
   rw[dJ,f_ hi'];simp[hi']
  generalize A.map nD=AA at *
  simp[uF,hat])
 have eB:(((List.range A.length).filter λi:Nat=>decide (v/2^(i%55+1)%3=1)).map λi:Nat=>nD (A.getD i 0))=(((List.range A.length).filter λi:Nat=>decide (v/2^(i%55+1)%3=1)).map λi:Nat=>A.getD i 0).map nD:=by rw[Qf];rfl
 rw[eB]at hB
 have hL1:(((List.range A.length).filter λi:Nat=>decide (v/2^(i%55+1)%3=1)).map λi:Nat=>A.getD i 0).length<=40:=by
  rw[qf];exact Qg (Qn _ _) (by simpa using hAl)
 have hL2:∀y∈(((List.range A.length).filter λi:Nat=>decide (v/2^(i%55+1)%3=1)).map λi:Nat=>A.getD i 0),y<60:=λy hy=>by
  obtain⟨i,hi,rfl⟩:=qy hy;have hi':i<A.length:=Qb (Qc hi).1
  have:A.getD i 0=A[i]:=by simp[hi']
  rw[this];exact hAS _ (List.getElem_mem hi')
 generalize (((List.range A.length).filter λi:Nat=>decide (v/2^(i%55+1)%3=1)).map λi:Nat=>A.getD i 0)=L at *;refine⟨(k,L,decide (v%2=1)),↑(.int v),↑(.lst (A.map nD)),some (.ow (L.map nD)),rfl,⟨hL1,hL2⟩,?_⟩;have happ:∀d:D,aT (rows.map az) d=some (rows.map az++[d]):=λd=>e_ (by rw[qf];ac_nf)
 have hr2:(rows++[((k,L,decide (v%2=1)):b_)]).map az=rows.map az++[.tup [.int k,.tup (L.map nD),.bl (decide (v%2=1))]]:=by rw[Qk];rfl
 rw[hr2]
 have hlenA:((A.map nD).length:Int)=(A.length:Int):=by simp
 generalize rows.map az=RR,L.map nD=LL,cells.map D.int=cc at *
 have s1:ao 6 (Zb 0) [↑(.lst cc),a1,a2,↑(.lst (S.map nD)),some (.ow RR),↑(.int (k:Int)),y6,y7,y8]=some (.nx [↑(.lst cc),a1,a2,↑(.lst (S.map nD)),some (.ow RR),↑(.int (k:Int)),↑(.int 0),y7,y8]):=by simp
 have s3:aF 7 (Yo (b1 (ab 3) Yc) [none,some 5] (ai 0) (uC) (uD)) [↑(.lst cc),a1,a2,↑(.lst (S.map nD)),some (.ow RR),↑(.int (k:Int)),↑(.int v),y7,y8]=some (.nx [↑(.lst cc),a1,a2,↑(.lst (S.map nD)),some (.ow RR),↑(.int (k:Int)),↑(.int v),some (.ow (A.map nD)),y8]):=by simp[aq,hA]
 generalize S.map nD=SS,A.map nD=AA at *
 have s4:(wF [7] (aF 8 (Yo (cF (Yb (cC (Yb (aa 7) ae) aA) ae) bx) [none,some 7,some 6] (ai 0) (uE) (uF)))) [↑(.lst cc),a1,a2,↑(.lst SS),some (.ow RR),↑(.int (k:Int)),↑(.int v),some (.ow AA),y8]=some (.nx [↑(.lst cc),a1,a2,↑(.lst SS),some (.ow RR),↑(.int (k:Int)),↑(.int v),↑(.lst AA),some (.ow LL)]):=by simp[aq,hlenA,hr,hB]
 rw[uG,dW,s1,qd,eI,dW,hv,qd,eI,dW,s3,qd,eI,dW,s4,qd,eI];simp[happ]
theorem Vs(cells:AH){c:D}{hs:AJ}(hc:Yc c=some (hs.map av))(hl:hs.length<=40){st:Nat}(hst:st<=hs.length):
 ∃rows:List b_,rows.length<=40/\il 40 rows/\(∀r∈rows,r.1<60)/\uH [.lst (cells.map D.int),c,.int st]=some (.lst (rows.map az)):=by
 have o1:=gc hs hc ∅ st hst true;have o2:=gc hs hc ∅ st hst false;simp only[av,if_true,Qo,if_false]at o1 o2;have hKl:(aI hs st true).length<=40:=Qg (Qn _ _) (by simpa using hl);have hSl:(aI hs st false).length<=40:=Qg (Qn _ _) (by simpa using hl)
 have hKn:∀x∈aI hs st true,x<60:=λx hx=>by have:=lz hx;ac_nf
 have hSn:∀x∈aI hs st false,x<60:=λx hx=>by have:=lz hx;ac_nf
 generalize aI hs st true=K,aI hs st false=S at *
 obtain⟨ρ',e1,rows,y5,y6,y7,y8,hrl,hrg,hrn,rfl⟩:=Yv (gt:=ai 5) (fb:=uG) nD (λpre ρ=>∃(rows:List b_) (y5 y6 y7 y8:AS),rows.length=pre.length/\il 40 rows/\(∀r∈rows,r.1<60)/\
  ρ=[↑(.lst (cells.map D.int)),↑c,↑(.int st),↑(.lst (S.map nD)),some (.ow (rows.map az)),y5,y6,y7,y8]) K []
  [↑(.lst (cells.map D.int)),↑c,↑(.int st),↑(.lst (S.map nD)),some (.ow []),none,none,none,none] ⟨[],none,none,none,none,rfl,λr hr=>(nomatch hr),λr hr=>(nomatch hr),rfl⟩ (by
   rintro q k r ρ e ⟨rows,y5,y6,y7,y8,hrl,hrg,hrn,rfl⟩
   have hk:k∈K:=by rw[Qj]at e;rw[e];simp
   have hq:q.length<=40:=by
    have:=congrArg List.length e;simp at this;ac_nf
   obtain⟨w,z6,z7,z8,w1,w2,hw⟩:=FL cells hSl hSn k (rows:=rows) ∅ (↑c) (↑(.int st)) y6 y7 y8;refine⟨_,_,rfl,hw,rows++[w],_,_,_,_,by simp[hrl],λx hx=>?_,λx hx=>?_,rfl⟩
   .rcases qw hx with hx|hx
    .exact hrg x hx
    .rw[List.mem_singleton]at hx
     subst hx;exact w2
   .rcases qw hx with hx|hx
    .exact hrn x hx
    .rw[List.mem_singleton]at hx
     subst hx;rw[w1]
     exact hKn k hk)
 refine⟨rows,by rw[hrl];simpa using hKl,hrg,hrn,?_⟩;rw[uH,Yg (by rfl)];generalize rows.map az=RR,cells.map D.int=cc,S.map nD=SS,K.map nD=KK at *;simp[D0,Yd,o1,o2,e1]
theorem Vt{rows:List b_}(hl:rows.length<=40)(hr:il 40 rows)(hn:∀r∈rows,r.1<60)(w:Int):∃ru:Sm,uK [.lst (rows.map az),.int w]=some (bN ru):=by
 have hg:=fE (n:=(rows.length:Int)) ∅ ∅;rw[dX]at hg
 have el:((rows.length:Int)-0).toNat=rows.length:=by ac_nf
 rw[el]at hg;simp only[Int.zero_add]at hg
 obtain⟨ρ',e1,Bs,odd,y4,hBl,hB,rfl⟩:=Yv (gt:=ai 4) (fb:=uJ) (λi:Nat=>D.int ((i:Nat):Int)) (λpre ρ=>∃(Bs:AG) (odd:Bool) (y4:AS),Bs.length<=41*pre.length/\(∀x∈Bs,x<60)/\
  ρ=[↑(.lst (rows.map az)),↑(.int w),some (.ow (Bs.map nD)),↑(.bl odd),y4]) (List.range rows.length) []
  [↑(.lst (rows.map az)),↑(.int w),some (.ow []),↑(.bl false),none] ⟨[],false,none,by simp,by simp,rfl⟩ (by
   rintro q i r ρ e ⟨Bs,odd,y4,hBl,hB,rfl⟩;rw[Qj]at e;have hi:i<rows.length:=Qb (by rw[e];simp)
   have hq:q.length<=40:=by
    have:=congrArg List.length e;simp at this;ac_nf
   obtain⟨ro,hm,hat0⟩:=jO (l:=rows) (i:=(i:Int)) ∅ ∅
   have hat:aX (rows.map az) (i:Int)=some (az ro):=by rw[dJ,hat0];rfl
   have hri:=FA ro;obtain⟨g1,g2⟩:=hr ro hm;have g3:=hn ro hm
   have hsh:cB (.int w) (.int ((i:Int)%55))=some (.int (w/2^(i%55))):=by
    have hj:((i:Int)%55)=((i%55:Nat):Int):=by ac_nf
    rw[hj];exact jA _ _
   generalize w/2^(i%55)=ww at *;by_cases d:ww%3=1
   .have c1:=gD (a:=Bs.map nD) (b:=[D.int (ro.1:Int)]) (by rw[qf];simp;ac_nf)
    have e1:Bs.map nD++[D.int (ro.1:Int)]=(Bs++[ro.1]).map nD:=by simp
    rw[e1]at c1;have c2:=gD (a:=(Bs++[ro.1]).map nD) (b:=ro.2.1.map nD) (by rw[qf,qf];simp;ac_nf);rw[<-Qk]at c2;have hlf:df [.tup (ro.2.1.map nD)]=some (ro.2.1.map nD):=rfl;refine⟨_,[↑(.lst (rows.map az)),↑(.int w),some (.ow ((Bs++[ro.1]++ro.2.1).map nD)),↑(.bl (!(odd==ro.2.2))),↑(.int (i:Int))],rfl,?_,Bs++[ro.1]++ro.2.1,_,_,?_,λx hx=>?_,rfl⟩
    .generalize (Bs++[ro.1]++ro.2.1).map nD=B3 at *
     generalize (Bs++[ro.1]).map nD=B2,Bs.map nD=B1,ro.2.1.map nD=R1,az ro=rr,rows.map az=RR at *;simp[uJ,hsh,d,hat,hri,FB,FC,hlf,c1,c2]
    .simp
     ac_nf
    .rcases qw hx with hx|hx
     .rcases qw hx with hx|hx
      .exact hB x hx
      .rw[List.mem_singleton]at hx
       ac_nf
     .exact g2 x hx
   .refine⟨_,[↑(.lst (rows.map az)),↑(.int w),some (.ow (Bs.map nD)),↑(.bl odd),↑(.int (i:Int))],rfl,?_,Bs,_,_,by simp;ac_nf,hB,rfl⟩
    generalize Bs.map nD=B1,rows.map az=RR at *
    simp[uJ,hsh,d])
 have hodd:=Vr hB (by simp at hBl;ac_nf);refine⟨(λx=>decide (Bs.count x%2=1),odd),?_⟩;have hsm:bN (λx=>decide (Bs.count x%2=1),odd)=.tup [.tup ((fl 60 λx=>decide (Bs.count x%2=1)).map nD),.bl odd]:=rfl;rw[hsm,uK,Yg (by rfl)];have hst:Yd 5 [.lst (rows.map az),.int w]=[↑(.lst (rows.map az)),↑(.int w),none,none,none]:=rfl;rw[hst]
 have hlen:((rows.map az).length:Int)=(rows.length:Int):=by simp
 generalize (fl 60 λx=>decide (Bs.count x%2=1)).map nD=OO,Bs.map nD=B1,rows.map az=RR at *;simp[D3,hlen,hg,e1,hodd]
abbrev c6:=Nat×AG
def aL(r:c6):D:=.tup [.int r.1,.tup (r.2.map nD)]
@[simp] def vi(r:c6):Yc (aL r)=some [.int r.1,.tup (r.2.map nD)]:=nr rfl
def iS(l K:AG):Bool:=ij l&&l.all λx=>decide (x∈K)
theorem MJ{l:AG}(h:∀x∈l,x<60)(c:l.length<=3700)(K:AG):oO [.tup (l.map nD),.lst (K.map nD)]=some (.bl (iS l K)):=by
 have b:=Mx h c;have hb:bz (l.map λx=>D.bl (decide (x∈K)))=some (l.map λx=>decide (x∈K)):=gC _ _
 have a:(l.map λx=>decide (x∈K)).all id=l.all λx=>decide (x∈K):=by rw[List.all_map];rfl
 rw[oO,Yg (by rfl)];unfold iS;rw[<-a];generalize (l.map λx=>decide (x∈K))=e,ij l=d at *
 cases d with
 | true=>simp[Dq,Yd,b,aq,(bP (fe:=Dp) (r:=[↑(.lst (K.map nD))]) (enc:=nD) (λx=>.bl (decide (x∈K))) (l:=l) (λx _=>by
   simp[Dp,(bK (c:=.lst (K.map nD)) x K false rfl)])),hb]
 | false=>simp[Dq,Yd,b]
theorem MK(l:AG)(x:Nat):oP [.tup (l.map nD),.int x]=some (.lst ((l.filter λy=>decide (y<x)).map nD)):=by
 rw[oP,Yg (by rfl)]
 simp[Kn,Yd,aq,dv (fc:=Dr) (fe:=Ds) (r:=[↑(.int x)]) (enc:=nD) (λy=>decide (y<x)) nD (l:=l) (λy _=>by
  simp[Dr]) (λy _ _=>by simp[Ds])]
def d6(first K:AG)(r:c6):Bool:=iS r.2 K&&decide ((r.2.filter λy=>decide (y<r.1))=first.filter λy=>decide (y<r.1))
def FM{r:c6}(h:∀x∈r.2,x<60)(c:r.2.length<=3700)(first K:AG):tv [aL r,.tup (first.map nD),.lst (K.map nD)]=some (.bl (d6 first K r)):=by
 have b:=vi r;have a:=MJ h c K;rw[tv,Yg (by rfl)];unfold d6;generalize iS r.2 K=d at *
 cases d with
 | true=>simp[Dt,Yd,b,a,MK r.2 r.1,MK first r.1,(vh false (r.2.filter λy=>decide (y<r.1)) (first.filter λy=>decide (y<r.1)))]
 | false=>simp[Dt,Yd,b,a]
noncomputable def aR(n:Nat)(l:AG):AJ:=(List.range n).map λx=>decide (x∈l)
theorem Vu{n:Nat}(e:n<=1000){R:List Rl}(d:∀r∈R,In .i n r)(l:AG):tw [Yt .i R,.lst (l.map nD),.int n]=some (.bl (decide (brk .i (aR n l) R=[]))):=by
 have c:=fE (n:=n) ∅ ∅;rw[dX]at c
 have b:=bP (fe:=Du) (r:=[↑(.lst (l.map nD))]) (enc:=λi=>D.int ((i:Nat))) (λx=>D.bl (decide (x∈l))) (l:=List.range n) (λx _=>by
  simp[Du,(bK (c:=.lst (l.map nD)) x l false rfl)])
 have e1:((List.range n).map λx=>D.bl (decide (x∈l)))=(aR n l).map D.bl:=by unfold aR;rw[Qf];rfl
 rw[e1]at b
 have a:(aR n l).length=n:=by unfold aR;simp
 rw[tw,Yg (by rfl)];simp[Ko,Yd,aq,c,b,(EN (c:=.lst ((aR n l).map D.bl)) rfl (by rw[a];exact d))]
theorem Vv(S:AG)(x:Nat):jW [.lst (S.map nD),.int x]=some (.tup ((S.filter λy=>!decide (y=x)).map nD)):=by
 rw[jW,Yg (by rfl)]
 simp[C7,Yd,aq,(dv (fc:=oM) (fe:=oN) (r:=[↑(.int x)]) (enc:=nD) (λy=>!decide (y=x)) nD (l:=S) (λy _=>by
  simp[oM]) (λy _ _=>by simp[oN]))]
noncomputable def bE(first:AG)(rows:List c6)(S:AG):List AG:=(S++first)::rows.map λr=>(S.filter λy=>!decide (y=r.1))++r.2
def gL(first:AG)(rows:List c6)(R:List Rl)(K S:AG)(n:Nat):Bool:=iS first K&&decide (rows.map (·.1)=S)&&rows.all (d6 first K)&&(bE first rows S).all λl=>decide (brk .i (aR n l) R=[])
theorem Vw{first:AG}(F:∀x∈first,x<60)(E:first.length<=100){rows:List c6}(O:rows.length<=100)(k:∀r∈rows,r.2.length<=100/\∀y∈r.2,y<60){n:Nat}(B:n<=1000){R:List Rl}(H:∀r∈R,In .i n r)(K:AG){S:AG}(M:S.length<=100):
 tB [.tup (first.map nD),.tup (rows.map aL),Yt .i R,.lst (K.map nD),.lst (S.map nD),.int n]=some (.bl (gL first rows R K S n)):=by
 have hs:=MJ F ∅ K
 have h0:=bP (fe:=Dv) (r:=[]) (enc:=aL) (λr=>nD r.1) (l:=rows) (λr _=>by
  have m:=vi r
  simp[Dv,m])
 have w:(rows.map λr=>nD r.1)=(rows.map (·.1)).map nD:=by rw[Qf];rfl
 rw[w]at h0;have g:=vh true (rows.map (·.1)) S
 have q:=bP (fe:=Dw) (r:=[↑(.tup (first.map nD)),↑(.lst (K.map nD))]) (enc:=aL) (λr=>.bl (d6 first K r)) (l:=rows) (λr f=>by
  have h:=FM (k r f).2 (by have:=(k r f).1;ac_nf) first K
  simp[Dw,h])
 have b:bz (rows.map λr=>D.bl (d6 first K r))=some (rows.map (d6 first K)):=gC _ rows
 have t:=bP (fe:=Dx) (r:=[↑(.lst (S.map nD))]) (enc:=aL) (λr=>.lst (((S.filter λy=>!decide (y=r.1))++r.2).map nD)) (l:=rows) (λr f=>by
  have m:=vi r;have u:=Vv S r.1;have I:(S.filter λy=>!decide (y=r.1)).length<=S.length:=Qn _ _;have p:=gD (a:=(S.filter λy=>!decide (y=r.1)).map nD) (b:=r.2.map nD) (by have:=(k r f).1;rw[qf,qf];ac_nf);rw[<-Qk]at p;have J:∀l:AR,df [.tup l]=some l:=λl=>rfl
  simp[Dx,m,u,J,p])
 have e2:(rows.map λr=>D.lst (((S.filter λy=>!decide (y=r.1))++r.2).map nD))=(rows.map λr=>(S.filter λy=>!decide (y=r.1))++r.2).map λl=>D.lst (l.map nD):=by rw[Qf];rfl
 rw[e2]at t;have e:=gD (a:=S.map nD) (b:=first.map nD) (by rw[qf,qf];ac_nf);rw[<-Qk]at e;have d:=gD (a:=[D.lst ((S++first).map nD)]) (b:=(rows.map λr=>(S.filter λy=>!decide (y=r.1))++r.2).map λl=>D.lst (l.map nD)) (by simp;ac_nf);have C:[D.lst ((S++first).map nD)]++((rows.map λr=>(S.filter λy=>!decide (y=r.1))++r.2).map λl=>D.lst (l.map nD))=(bE first rows S).map λl=>D.lst (l.map nD):=rfl;rw[C]at d
 have A:=bP (fe:=Dy) (r:=[↑(Yt .i R),↑(.int (n:Int))]) (enc:=λl:AG=>D.lst (l.map nD)) (λl=>.bl (decide (brk .i (aR n l) R=[]))) (l:=bE first rows S) (λl _=>by
  have h:=Vu B H l
  simp[Dy,h])
 have c:bz ((bE first rows S).map λl=>D.bl (decide (brk .i (aR n l) R=[])))=some ((bE first rows S).map λl=>decide (brk .i (aR n l) R=[])):=gC _ _
 have j:((bE first rows S).map λl=>decide (brk .i (aR n l) R=[])).all id=(bE first rows S).all λl=>decide (brk .i (aR n l) R=[]):=by rw[List.all_map];rfl
 have o:df [.tup (first.map nD)]=some (first.map nD):=rfl;rw[tB,Yg (by rfl)];unfold gL;rw[<-j];generalize ((rows.map λr=>(S.filter λy=>!decide (y=r.1))++r.2).map λl=>D.lst (l.map nD))=P,(S++first).map nD=L at *
 generalize iS first K=z at *
 generalize v:d6 first K=G at *
 cases z with
 | false=>simp[lq,Yd,hs]
 | true=>
   by_cases i:rows.map (·.1)=S
   .simp only[i,decide_true]at g
    rw[i]at h0
    cases s:rows.all G with
    | false=>simp[lq,Yd,hs,aq,h0,g,q,b,s,wn]
    | true=>simp[lq,Yd,hs,aq,h0,g,q,b,s,wn,i,o,e,t,d,A,c]
   .generalize (rows.map (·.1)).map nD=N at *
    simp[lq,Yd,hs,aq,h0,g,i]
theorem Vx{c:D}{ev:AJ}(hc:Yc c=some (ev.map D.bl)){k:Kd}{r:Rl}(hr:In k ev.length r):t6 [aC k,ax r,c]=some (.bl (so k ev r)):=by
 rw[t6,Yg (by rfl)]
 cases r with
 | ei l=>
   obtain⟨rfl,hl⟩:=hr
   have h:=bP (fe:=DS) (r:=[↑c]) (enc:=af) (λs=>.bl (at' ev s.1==s.2)) (l:=l) (λs hs=>by
    simp[DS,hc,iK (hl s hs)])
   simp[o4,Yd,aq,h,so,wn]
 | su b o=>
   obtain⟨rfl,hl⟩:=hr
   have h:=dv (fc:=DT) (fe:=DU) (r:=[↑c]) (enc:=nD) (at' ev) nD (l:=b) (λs hs=>by
    simp[DT,hc,nD,iK (hl s hs)]) (λs _ _=>by simp[DU])
   have e:∀n:Nat,decide (((n:Nat):Int)%2=1)=decide (n%2=1):=λn=>by
    by_cases z:n%2=1
    .have:((n:Nat):Int)%2=1:=by ac_nf
     simp[z,this]
    .have:¬((n:Nat):Int)%2=1:=by ac_nf
     simp[z,this]
   simp[o4,Yd,aq,h,so,e]
 | im b h=>
   obtain⟨hk,hl,hh⟩:=hr;generalize hw:decide (k=Kd.i)=w
   have h1:=bP (fe:=DV) (r:=[↑c,↑(.bl w)]) (enc:=nD) (λx=>.bl (at' ev x != w)) (l:=b) (λs hs=>by
    simp[DV,hc,nD,iK (hl s hs),bne])
   have hke:¬k=.e:=by rcases hk with rfl|rfl<;>decide
   have hks:¬k=.s:=by rcases hk with rfl|rfl<;>decide
   have pre:o4 (Yd 4 [aC k,ax (.im b h),c])=t5 [↑(aC k),↑(ax (.im b h)),↑c,↑(.bl w)]:=by
    simp[o4,Yd,hke,hks,hw,-t5]
   have p3:t5 [↑(aC k),↑(ax (.im b h)),↑c,↑(.bl w)]=if (b.any λx=>at' ev x != w)=true then some (.rt (.bl true))else DW [↑(aC k),↑(ax (.im b h)),↑c,↑(.bl w)]:=by
    cases hb:(b.any λx=>at' ev x != w)<;>simp[aq,h1,wn,hb,ax,-DW]
   rw[pre,p3];clear pre p3 h1
   cases hb:(b.any λx=>at' ev x != w)with
   | true=>simp[hb,so,hw]
   | false=>
     cases h with
     | none=>simp[hb,so,hw,ax,ak,hd]
     | some x=>simp[hb,so,hw,ax,ak,hd,hc,iK (hh x rfl)]
def eE(n:Nat)(l:AG):D:=.lst ((aR n l).map D.bl)
theorem Vy{first:AG}{rows:List c6}(hl:rows.length<=100){c:D}{hs:AJ}(hc:c=.tup (hs.map av))(hh:hs.length<=1000){st:Nat}(hst:st<=hs.length):
 uS [.tup (first.map nD),.tup (rows.map aL),c,.int st]=some (.lst ((bE first rows (aI hs st false)).map (eE hs.length))):=by
 have hci:Yc c=some (hs.map av):=by rw[hc];rfl
 have o2:=gc hs hci ∅ st hst false;simp only[av,Qo,if_false]at o2;generalize aI hs st false=S at *;have hg:=fE (n:=(hs.length:Int)) ∅ ∅;rw[dX]at hg
 have el:((hs.length:Int)-0).toNat=hs.length:=by ac_nf
 rw[el]at hg;simp only[Int.zero_add]at hg
 have hlen:aA [c]=some (.int (hs.length:Int)):=by rw[hc];simp
 generalize hs.length=n at *
 have h0:=bP (fe:=uR) (r:=[↑(.lst (S.map nD)),↑(.tup (first.map nD))]) (enc:=λi:Nat=>D.int ((i:Nat):Int)) (λx=>D.bl (decide (x∈S++first))) (l:=List.range n) (λx _=>by
  have i1:=bK (c:=.lst (S.map nD)) x S false rfl
  have i2:=bK (c:=.tup (first.map nD)) x first false rfl
  simp only[nD]at i1 i2;by_cases hm:x∈S
  .simp[uR,i1,i2,hm]
  .simp[uR,i1,i2,hm])
 have e0:∀l:AG,((List.range n).map λx=>D.bl (decide (x∈l)))=(aR n l).map D.bl:=λl=>by unfold aR;rw[Qf];rfl
 rw[e0]at h0
 have h1:∀r:c6,ej (ai 0) tY lx [none,↑(.lst (S.map nD)),↑(aL r)] ((List.range n).map λi:Nat=>D.int ((i:Nat):Int))=some ((aR n ((S.filter λy=>!decide (y=r.1))++r.2)).map D.bl):=λr=>by
  have h:=bP (fe:=lx) (r:=[↑(.lst (S.map nD)),↑(aL r)]) (enc:=λi:Nat=>D.int ((i:Nat):Int)) (λx=>D.bl (decide (x∈(S.filter λy=>!decide (y=r.1))++r.2))) (l:=List.range n) (λx _=>by
   have hi:=vi r;have i1:=bK (c:=.lst (S.map nD)) x S false rfl;have i2:=bK (c:=.tup (r.2.map nD)) x r.2 false rfl;simp only[nD]at i1 i2;generalize aL r=rr at *;by_cases hm:x∈S
   .by_cases hx:x=r.1
    .subst hx
     simp[lx,hi,i1,i2,hm]
    .simp[lx,hi,i1,i2,hm,hx]
   .simp[lx,hi,i1,i2,hm])
  rw[e0]at h;exact h
 obtain⟨ρ',e1,y6,rfl⟩:=Yv (gt:=ai 6) (fb:=D9) aL (λpre ρ=>∃y6:AS,ρ=[↑(.tup (first.map nD)),↑(.tup (rows.map aL)),↑c,↑(.int st),↑(.lst (S.map nD)),some (.ow ((bE first pre S).map (eE n))),y6]) rows []
  [↑(.tup (first.map nD)),↑(.tup (rows.map aL)),↑c,↑(.int st),↑(.lst (S.map nD)),some (.ow ((bE first [] S).map (eE n))),none] ⟨none,rfl⟩ (by
   rintro q r rs ρ e ⟨y6,rfl⟩
   have hq:q.length<=100:=by
    have:=congrArg List.length e;simp at this;ac_nf
   have hr:=h1 r;have happ:∀d:D,aT ((bE first q S).map (eE n)) d=some ((bE first q S).map (eE n)++[d]):=λd=>e_ (by simp[bE];ac_nf)
   have hL:(bE first (q++[r]) S).map (eE n)=(bE first q S).map (eE n)++[.lst ((aR n ((S.filter λy=>!decide (y=r.1))++r.2)).map D.bl)]:=by
    unfold bE;rw[Qk,<-List.cons_append,Qk];rfl
   refine⟨_,[↑(.tup (first.map nD)),↑(.tup (rows.map aL)),↑c,↑(.int st),↑(.lst (S.map nD)),some (.ow ((bE first (q++[r]) S).map (eE n))),↑(aL r)],rfl,?_,_,rfl⟩;rw[hL];generalize (aR n ((S.filter λy=>!decide (y=r.1))++r.2)).map D.bl=E1,(bE first q S).map (eE n)=E2,((List.range n).map λi:Nat=>D.int ((i:Nat):Int))=RG,rows.map aL=RR,aL r=rr at *
   generalize first.map nD=F1 at *
   generalize S.map nD=SS at *
   simp[D9,hlen,hg,aq,hr,happ])
 rw[Qj]at e1;have hL0:(bE first [] S).map (eE n)=[.lst ((aR n (S++first)).map D.bl)]:=rfl;rw[hL0]at e1;rw[uS,Yg (by rfl)];generalize (bE first rows S).map (eE n)=EE,(aR n (S++first)).map D.bl=E0,((List.range n).map λi:Nat=>D.int ((i:Nat):Int))=RG at *;generalize hRR:rows.map aL=RR at *
 generalize first.map nD=F1 at *
 generalize S.map nD=SS at *;simp[D_,Yd,o2,hlen,hg,aq,h0,e1]
def FN(k:Kd)(ev:AJ)(R:List Rl):decide (brk k ev R=[])=R.all λr=>so k ev r:=by
 unfold brk;rw[Bool.eq_iff_iff,wg,List.filter_eq_nil_iff,List.all_eq_true];constructor
 .intro h r hr
  obtain⟨i,hi,rfl⟩:=List.mem_iff_getElem.mp hr;have:=h i (List.mem_range.mpr hi)
  have hn:gF R i=R[i]:=by simp[gF,hi]
  rw[hn]at this;simpa using this
 .intro h i hi
  have:=h (gF R i) (JO (Qb hi));simp[this]
def km(n:Nat)(rows:List c6):Prop:=∀r∈rows,r.2.length<=n/\∀y∈r.2,y<60
def gk(A:AG)(p:AK):AG:=((List.range A.length).filter p).map λi=>A.getD i 0
def ML(A:AG)(p:AK):(gk A p).length<=A.length:=by
 unfold gk;rw[qf];exact Qg (Qn _ _) nofun
def MN{A:AG}{p:AK}{y:Nat}(h:y∈gk A p):y∈A:=by
 obtain⟨i,hi,rfl⟩:=qy h;have hi':i<A.length:=Qb (Qc hi).1
 have:A.getD i 0=A[i]:=by simp[hi']
 rw[this];exact List.getElem_mem hi'
def ko{A:AG}{i:Nat}(hi:i<A.length):aX (A.map nD) (i:Int)=some (nD (A.getD i 0)):=by
 rw[dJ,f_ hi];simp[hi]
theorem MO{A:AG}(hA:A.length<=1000):bx [.int (A.length:Int)]=some ((List.range A.length).map λi:Nat=>D.int ((i:Nat):Int)):=by
 have hr:=fE (n:=(A.length:Int)) ∅ ∅;rw[dX]at hr
 have el:((A.length:Int)-0).toNat=A.length:=by ac_nf
 rw[el]at hr;simp only[Int.zero_add]at hr;exact hr
theorem FO(cells:AH){K F:AG}(hK:K.length<=20)(hK60:∀x∈K,x<60)(hF:F.length<=20)(hF60:∀x∈F,x<60)(s:Nat){rows:List c6}(hl:rows.length<=100){b5:B}(hb5:b5=.ow (F.map nD)\/b5=.sh (.lst (F.map nD)))(a1 a2 a4 y8 y9:AS):
 ∃(r:c6) (z8 z9:AS),(r.2.length<=40/\∀y∈r.2,y<60)/\uO [↑(.lst (cells.map D.int)),a1,a2,↑(.lst (K.map nD)),a4,some b5,some (.ow (rows.map aL)),↑(.int s),y8,y9] =
  some (.nx [↑(.lst (cells.map D.int)),a1,a2,↑(.lst (K.map nD)),a4,↑(.lst (F.map nD)),some (.ow ((rows++[r]).map aL)),↑(.int s),z8,z9]):=by
 obtain⟨v,hv⟩:∃v:Int,∀(b3 b5 b6 b9:AS),(aG (b2 (b2 (Zb 1) (aa 7) cN) (cC (Yb (aa 0) ae) aA) cZ) (ao 8 (cC (Yb (b2 (aa 0) (b2 (Zb 1) (aa 7) cN) aj) (Yb (Zb 1283712873162387911) ae)) Yr)) ar) [↑(.lst (cells.map D.int)),a1,a2,b3,a4,b5,b6,↑(.int s),↑(.int 0),b9] =
  some (.nx [↑(.lst (cells.map D.int)),a1,a2,b3,a4,b5,b6,↑(.int s),↑(.int v),b9]):=by
  have hlen:((cells.map D.int).length:Int)=(cells.length:Int):=by simp
  by_cases h:1+(s:Int)<(cells.length:Int)
  .obtain⟨c,_,hc⟩:=jO (l:=cells) (i:=1+(s:Int)) ∅ h
   have hat:aX (cells.map D.int) (1+(s:Int))=some (.int c):=by rw[dJ,hc];rfl
   obtain⟨v,_,hv⟩:=iP c 1283712873162387911;refine⟨v,λb3 b5 b6 b9=>?_⟩;generalize cells.map D.int=cc at *;simp[hlen,h,hat,hv]
  .refine⟨0,λb3 b5 b6 b9=>?_⟩
   generalize cells.map D.int=cc at *;simp[hlen,h]
 have hA:=dv (fc:=uL) (fe:=uM) (r:=[↑(.int (s:Int))]) (enc:=nD) (λx=>decide (x<s)) nD (l:=F) (λx _=>by
  simp[uL]) (λx _ _=>by simp[uM])
 have hAl:(F.filter λx=>decide (x<s)).length<=20:=Qg (Qn _ _) hF;have hA60:∀x∈F.filter (λx=>decide (x<s)),x<60:=λx hx=>hF60 x (Qc hx).1;generalize F.filter (λx=>decide (x<s))=A at *;have hg:=MO (A:=K) ∅
 have hB:=dv (fc:=uN) (fe:=D6) (r:=[↑(.lst (K.map nD)),↑(.int (s:Int)),↑(.int v)]) (enc:=λi:Nat=>D.int ((i:Nat):Int)) (λi:Nat=>decide (s<K.getD i 0)&&decide (v/2^(i%59)%2=1)) (λi:Nat=>nD (K.getD i 0)) (l:=List.range K.length) (λi hi=>by
  have hat:=ko (A:=K) (i:=i) (by simpa using hi)
  have hsh:cB (.int v) (.int ((i:Int)%59))=some (.int (v/2^(i%59))):=by
   have hj:((i:Int)%59)=((i%59:Nat):Int):=by ac_nf
   rw[hj];exact jA _ _
  generalize v/2^(i%59)=vv,K.getD i 0=kk,K.map nD=KK at *;by_cases q:s<kk
  .simp[uN,hat,hsh,q]
  .simp[uN,hat,q]) (λi hi _=>by
  have hat:=ko (A:=K) (i:=i) (by simpa using hi);generalize K.map nD=KK at *
  simp[D6,hat])
 have eB:∀p:AK,(((List.range K.length).filter p).map λi:Nat=>nD (K.getD i 0))=(gk K p).map nD:=λp=>by unfold gk;rw[Qf];rfl
 rw[eB]at hB;have hPl:=ML K λi:Nat=>decide (s<K.getD i 0)&&decide (v/2^(i%59)%2=1);have hP60:∀y∈gk K (λi:Nat=>decide (s<K.getD i 0)&&decide (v/2^(i%59)%2=1)),y<60:=λy hy=>hK60 y (MN hy);generalize gk K (λi:Nat=>decide (s<K.getD i 0)&&decide (v/2^(i%59)%2=1))=P at *;have hcat:=gD (a:=A.map nD) (b:=P.map nD) (by rw[qf,qf];ac_nf);rw[<-Qk]at hcat;refine⟨(s,A++P),↑(.int v),some (.ow ((A++P).map nD)),⟨by simp;ac_nf,λy hy=>?_⟩,?_⟩
 .rcases qw hy with hy|hy
  .exact hA60 y hy
  .exact hP60 y hy
 have happ:∀d:D,aT (rows.map aL) d=some (rows.map aL++[d]):=λd=>e_ (by rw[qf];ac_nf)
 have hr2:(rows++[((s,A++P):c6)]).map aL=rows.map aL++[.tup [.int s,.tup ((A++P).map nD)]]:=by rw[Qk];rfl
 rw[hr2]
 have hlenK:((K.map nD).length:Int)=(K.length:Int):=by simp
 generalize rows.map aL=RR,(A++P).map nD=AP,A.map nD=AA,P.map nD=PP,cells.map D.int=cc,F.map nD=FF,K.map nD=KK at *
 have s1:ao 8 (Zb 0) [↑(.lst cc),a1,a2,↑(.lst KK),a4,some b5,some (.ow RR),↑(.int (s:Int)),y8,y9]=some (.nx [↑(.lst cc),a1,a2,↑(.lst KK),a4,some b5,some (.ow RR),↑(.int (s:Int)),↑(.int 0),y9]):=by simp
 have s3:(wF [5] (aF 9 (Yo (b1 (ab 5) Yc) [none,some 7] (ai 0) (uL) (uM)))) [↑(.lst cc),a1,a2,↑(.lst KK),a4,some b5,some (.ow RR),↑(.int (s:Int)),↑(.int v),y9]=some (.nx [↑(.lst cc),a1,a2,↑(.lst KK),a4,↑(.lst FF),some (.ow RR),↑(.int (s:Int)),↑(.int v),some (.ow AA)]):=by
  rcases hb5 with rfl|rfl<;>simp[aq,hA]
 rw[uO,dW,s1,qd,eI,dW,hv,qd,eI,dW,s3,qd,eI];simp[aq,hlenK,hg,hB,hcat,happ]
theorem Vz(cells:AH){hs:AJ}(hl:hs.length<=20){st:Nat}(hst:st<=hs.length):
 ∃(first:AG) (rows:List c6),first.length<=20/\(∀x∈first,x<60)/\rows.length<=20/\km 40 rows/\uQ [.lst (cells.map D.int),.tup (hs.map av),.int st]=some (.lst [.tup (first.map nD),.lst (rows.map aL)]):=by
 have o1:=gc hs (c:=.tup (hs.map av)) rfl ∅ st hst true;have o2:=gc hs (c:=.tup (hs.map av)) rfl ∅ st hst false;simp only[av,if_true,Qo,if_false]at o1 o2;have hKl:(aI hs st true).length<=20:=Qg (Qn _ _) (by simpa using hl);have hSl:(aI hs st false).length<=20:=Qg (Qn _ _) (by simpa using hl)
 have hKn:∀x∈aI hs st true,x<60:=λx hx=>by have:=lz hx;ac_nf
 generalize aI hs st true=K,aI hs st false=S,D.tup (hs.map av)=c at *
 obtain⟨v,hv⟩:∃v:Int,∀(b1' b2' b3 b5 b6 b7 b8 b9:AS),(aG (b2 (cC (Yb (aa 0) ae) aA) (Zb 0) eS) (ao 4 (cC (Yb (b2 (aa 0) (Zb 0) aj) (Yb (Zb 1442695040888963407) ae)) Yr)) ar) [↑(.lst (cells.map D.int)),b1',b2',b3,↑(.int 0),b5,b6,b7,b8,b9] =
  some (.nx [↑(.lst (cells.map D.int)),b1',b2',b3,↑(.int v),b5,b6,b7,b8,b9]):=by
  cases cells with
  | nil=>exact⟨0,λb1' b2' b3 b5 b6 b7 b8 b9=>by simp⟩
  | cons x l=>
    obtain⟨v,_,hv⟩:=iP x 1442695040888963407
    have hat:aX ((x::l).map D.int) 0=some (.int x):=by simp
    have hp:0<((x::l).map D.int).length:=by simp
    refine⟨v,λb1' b2' b3 b5 b6 b7 b8 b9=>?_⟩;generalize (x::l).map D.int=cc at *;simp[hp,hat,hv]
 have hg:=MO (A:=K) ∅
 have hB:=dv (fc:=D4) (fe:=D5) (r:=[↑(.lst (K.map nD)),↑(.int v)]) (enc:=λi:Nat=>D.int ((i:Nat):Int)) (λi:Nat=>decide (v/2^(i%59)%2=1)) (λi:Nat=>nD (K.getD i 0)) (l:=List.range K.length) (λi hi=>by
  have hsh:cB (.int v) (.int ((i:Int)%59))=some (.int (v/2^(i%59))):=by
   have hj:((i:Int)%59)=((i%59:Nat):Int):=by ac_nf
   rw[hj];exact jA _ _
  generalize v/2^(i%59)=vv at *
  simp[D4,hsh]) (λi hi _=>by
  have hat:=ko (A:=K) (i:=i) (by simpa using hi);generalize K.map nD=KK at *
  simp[D5,hat])
 have eB:∀p:AK,(((List.range K.length).filter p).map λi:Nat=>nD (K.getD i 0))=(gk K p).map nD:=λp=>by unfold gk;rw[Qf];rfl
 rw[eB]at hB;have hPl:=ML K λi:Nat=>decide (v/2^(i%59)%2=1);have hP60:∀y∈gk K (λi:Nat=>decide (v/2^(i%59)%2=1)),y<60:=λy hy=>hKn y (MN hy);generalize gk K (λi:Nat=>decide (v/2^(i%59)%2=1))=F at *
 obtain⟨ρ',e1,rows,b5,y7,y8,y9,hrl,hok,hb5,rfl⟩:=Yv (gt:=ai 7) (fb:=uO) nD (λpre ρ=>∃(rows:List c6) (b5:B) (y7 y8 y9:AS),rows.length=pre.length/\km 40 rows/\(b5=.ow (F.map nD)\/b5=.sh (.lst (F.map nD)))/\
  ρ=[↑(.lst (cells.map D.int)),↑c,↑(.int st),↑(.lst (K.map nD)),↑(.int v),some b5,some (.ow (rows.map aL)),y7,y8,y9]) S []
  [↑(.lst (cells.map D.int)),↑c,↑(.int st),↑(.lst (K.map nD)),↑(.int v),some (.ow (F.map nD)),some (.ow []),none,none,none] ⟨[],_,none,none,none,rfl,λr hr=>(nomatch hr),.inl rfl,rfl⟩ (by
   rintro q s rs ρ e ⟨rows,b5,y7,y8,y9,hrl,hok,hb5,rfl⟩
   have hq:q.length<=20:=by
    have:=congrArg List.length e;simp at this;ac_nf
   obtain⟨w,z8,z9,w2,hw⟩:=FO cells ∅ hKn (F:=F) ∅ hP60 s (rows:=rows) ∅ hb5 (↑c) (↑(.int st)) (↑(.int v)) y8 y9;refine⟨_,_,rfl,hw,rows++[w],_,_,_,_,by simp[hrl],λx hx=>?_,.inr rfl,rfl⟩;rcases qw hx with hx|hx
   .exact hok x hx
   .rw[List.mem_singleton]at hx
    subst hx
    exact w2)
 rw[Qj]at hrl;refine⟨F,rows,by ac_nf,hP60,by ac_nf,hok,?_⟩;rw[uQ,Yg (by rfl)];have hst0:Yd 10 [.lst (cells.map D.int),c,.int (st:Int)]=[↑(.lst (cells.map D.int)),↑c,↑(.int st),none,none,none,none,none,none,none]:=rfl;rw[hst0]
 have hlenK:((K.map nD).length:Int)=(K.length:Int):=by simp
 generalize rows.map aL=RR,cells.map D.int=cc,F.map nD=FF,S.map nD=SS,K.map nD=KK at *
 have s0:∀b3 b5 b6 b7 b8 b9:AS,lu [↑(.lst cc),↑c,↑(.int (st:Int)),b3,none,b5,b6,b7,b8,b9]=D7 [↑(.lst cc),↑c,↑(.int (st:Int)),b3,↑(.int v),b5,b6,b7,b8,b9]:=λb3 b5 b6 b7 b8 b9=>by
  rw[lu,dW];simp only[BN,nL,Option.map_some,qd,List.set,eI];rw[D8,dW,hv,qd,eI]
 have s1:uP [↑(.lst cc),↑c,↑(.int (st:Int)),none,none,none,none,none,none,none]=lu [↑(.lst cc),↑c,↑(.int (st:Int)),↑(.lst KK),none,none,none,none,none,none]:=by
  simp[uP,o1,-lu]
 rw[s1,s0];rcases hb5 with rfl|rfl<;>simp[hlenK,hg,aq,hB,o2,e1]
def FP(a b:AR):bV (.lst a) (.lst b)=if a.length+b.length<=aK then some (a++b)else none:=nr rfl
def pD(P:AK)(b:Nat):Prop:=b<60/\P b=true/\∀x,x<60->P x=true->x<=b
noncomputable def od(l:AG)(E:AK):Bool:=decide ((l.filter E).length%2=1)
def FQ(E:AK):od [] E=false:=rfl
theorem kr(a:Nat)(l:AG)(E:AK):od (a::l) E=(E a != od l E):=by
 unfold od;grind
def vj(h:∀x∈l,E x=F x):od l E=od l F:=by
 unfold od;rw[List.filter_congr h]
theorem MQ(h:∀x∈l,E x=false):od l E=false:=by
 unfold od;rw[List.filter_eq_nil_iff.mpr λx a=>by grind];rfl
theorem pE:∀{l:AG},l.Nodup->∀y:Nat,od l (λx=>decide (y=x))=decide (y∈l)
 | [],_,y=>by simp[FQ]
 | a::l,h,y=>by
   rw[List.nodup_cons]at h;rw[kr,pE h.2];by_cases e:y=a
   .subst e
    simp[h.1]
   .simp[e]
def xr(T E:AK):Bool:=od (.range 60) (λx=>T x&&E x)
theorem pF(f g:AK):∀l:AG,od l (λx=>f x != g x)=(od l f != od l g)
 | []=>rfl
 | a::l=>by
   rw[kr,kr,kr,pF f g l];cases f a<;>cases g a<;>cases od l f<;>cases od l g<;>rfl
def FR(T S E:AK):xr (λx=>T x != S x) E=(xr T E != xr S E):=by
 unfold xr;rw[<-pF]
 exact vj λx _=>show((T x != S x)&&E x)=((T x&&E x)!=(S x&&E x)) by cases T x<;>cases S x<;>cases E x<;>rfl
theorem FT(b:a<60)(E:AK):xr (λx=>decide (x=a)) E=E a:=by
 unfold xr
 have h:od (.range 60) (λx=>decide (x=a)&&E x)=od _ (λx=>decide (a=x)&&E a):=vj λx _=>by
  grind
 rw[h]
 cases E a with
 | false=>exact MQ λx _=>by simp
 | true=>
   have c:od (.range 60) (λx=>decide (a=x)&&true)=od _ (λx=>decide (a=x)):=vj λx _=>by simp
   rw[c,pE List.nodup_range];simp[b]
def pG(f E:AK):od (fl 60 f) E=xr f E:=by
 unfold od xr od fl;rw[List.filter_filter,List.filter_congr λx _=>Bool.and_comm _ _]
theorem pI(rows:List b_):∀(l:AG) (a:Sm),(∀y,(l.foldl (fu rows) a).1 y=(a.1 y != od l (λx=>(fq rows x).1 y)))/\(l.foldl (fu rows) a).2=(a.2 != od l (λx=>(fq rows x).2))
 | [],a=>⟨λy=>by rw[FQ];ext,by rw[FQ];ext⟩
 | x::l,a=>by
   obtain⟨b,c⟩:=pI _ l _;refine⟨λy=>?_,?_⟩
   .rw[List.foldl_cons,b y,kr]
    show((a.1 y != _)!=_)=_
    ext
   .rw[List.foldl_cons,c,kr]
    show((a.2 != _)!=_)=_
    ext
def kp(rows:List b_)(T:AK)(o:Bool):Prop:=(∀y,y<60->xr T (λx=>(fq rows x).1 y)=false)/\xr T (λx=>(fq rows x).2)=o
def FU(h:∀x,x<60->(T x&&E x)=(S x&&F x)):xr T E=xr S F:=vj λx a=>h x (Qb a)
theorem FV(rows:List b_)(T:AK):(∀y,(cQ rows (fl 60 T)).1 y=xr T (λx=>(fq rows x).1 y))/\(cQ rows (fl 60 T)).2=xr T (λx=>(fq rows x).2):=by
 obtain⟨a,b⟩:=pI _ _ _;refine⟨λy=>?_,?_⟩
 .show((fl 60 T).foldl (fu _) _).1 y=_
  rw[a y,pG];symm
 .show((fl 60 T).foldl (fu _) _).2=_
  rw[b,pG];symm
theorem fl_nil:fl 60 T=[]↔∀x,x<60->T x=false:=by ext
def kept_kp{rows:List b_}{T:AK}{o:Bool}:iR rows (T,o)=true↔kp rows T o:=by
 obtain⟨h1,h2⟩:=FV rows T;unfold iR kp;rw[Qe,wg,fl_nil,beq_iff_eq,h2]
 refine and_congr_left λ_=>⟨λh y hy=>by rw[<-h1 y];exact h y hy,λh y hy=>by rw[h1 y];exact h y hy⟩
def FW(h:kp rows T o)(h':kp rows S u):kp rows (λx=>T x != S x) (o != u):=
 ⟨λy a=>by rw[FR,h.1 y a,h'.1 y a];rfl,by rw[FR,h.2,h'.2]⟩
theorem FX(h:kp rows T o)(e:∀x,x<60->T x=S x):kp rows S o:=
 ⟨λy hy=>by rw[<-h.1 y hy];exact FU λx hx=>by rw[e x hx],by rw[<-h.2];exact FU λx hx=>by rw[e x hx]⟩
theorem FY(h:∀x,x<60->T x=false):xr T E=false:=MQ λx a=>by
 ext
def FZ(h:∀x,x<60->T x=false):kp rows T false:=⟨λ_ _=>FY h,FY h⟩
theorem F0{Q:(AK)->Bool->Prop}(h0:Q (λ_=>false) false)(c:∀{T S o u},Q T o->Q S u->Q (λx=>T x != S x) (o != u))(f:∀{T d o},Q T o->(∀x,x<60->T x=d x)->Q d o)(h:∀p∈ps,Q (rg R p).1 (rg R p).2):Q (λx=>decide (bF R ps x%2=1)) (cX R ps):=by
 have b:∀l:AG,(∀p∈l,Q (rg R p).1 (rg R p).2)->Q (λx=>decide (bF R l.reverse x%2=1)) (cX R l.reverse):=λl=>by
  induction l with
  | nil=>exact λ_=>f h0 λx _=>rfl
  | cons p l g=>
    intro e;rw[List.reverse_cons,Mb];refine f (c (g λq i=>e q (qg _ i)) (e p qh)) λx c=>?_;rw[Ma];cases a:(rg R p).1 x
    .rw[if_neg λz=>by rw[Ql,a]at z;exact qi z.2]
     cases decide (bF R _ x%2=1)<;>rfl
    .rw[if_pos (List.mem_filter.mpr ⟨List.mem_range.mpr c,a⟩)]
     by_cases z:bF R l.reverse x%2=1
     .rw[wh z,wj ∅];rfl
     .rw[wj z,wh ∅];rfl
 have:=b _ λp a=>h p (List.mem_reverse.mp a)
 rwa [List.reverse_reverse]at this
def F3(h:∀p∈ps,kp rows (rg R p).1 (rg R p).2):kp rows (λx=>decide (bF R ps x%2=1)) (cX R ps):=
 F0 (Q:=kp rows) (FZ λ_ _=>rfl) (λh1 h2=>FW h1 h2) (λh1 h2=>FX h1 h2) h
def MR(h:x∉rows.map (·.1)):eD rows x=(x,[x],false):=by
 unfold eD
 have e:(rows.find? λq=>q.1==x)=none:=by
  rw[List.find?_eq_none];intro q hq z;exact h (List.mem_map.mpr ⟨q,hq,by simpa using z⟩)
 rw[e];rfl
theorem VA(h:x∈rows.map (·.1)):eD rows x∈rows/\(eD rows x).1=x:=by
 unfold eD
 cases e:rows.find? _ with
 | none=>
   grind
 | some q=>grind
noncomputable def wl(T:AK)(k:Nat):AK:=λx=>T x&&!decide (x=k)
def F4(a:k<60)(b:T k=true)(E:AK):xr T E=(xr (wl T k) E != E k):=by
 rw[<-FT a E,<-FR];refine FU λx _=>?_;unfold wl;by_cases e:x=k
 .subst e
  simp[b]
 .simp[e]
theorem MU:∀{l:AG}{E:AK},od l E=true->∃x∈l,E x=true
 | [],_,h=>by cases h
 | a::l,E,h=>by
   rw[kr]at h
   cases c:E a with
   | true=>ext
   | false=>
     have b:od l E=true:=by grind
     obtain⟨x,d,e⟩:=MU b;grind
def F5(h:xr T E=true):∃x,x<60/\T x=true/\E x=true:=by
 obtain⟨x,a,e⟩:=MU h;rw[Qe]at e;exact⟨x,Qb a,e.1,e.2⟩
def F6{S:AG}{r:b_}(h:gj S r=true):∀y∈r.2.1,y∈S/\y<r.1:=λy hy=>by
 unfold gj at h;rw[Qe,List.all_eq_true]at h;have:=h.2 y hy;rw[Qe,wg,wg]at this;exact this
def VB(S:AG)(T:AK)(o:Bool):Prop:=fl 60 T=[]/\o=true\/∃l∈S,pD T l
theorem never(w:rows.map (·.1)=K)(v:∀r∈rows,∀y∈r.2.1,y<r.1)(i:∀x∈S,x∉K)(h:kp rows T o):¬VB S T o:=λn=>by
 rcases n with⟨f,rfl⟩|⟨l,p,b⟩
 .have:=h.2
  rw[FY (fl_nil.mp f)]at this;cases this
 .have m:=h.1 l b.1
  rw[F4 b.1 b.2.1]at m
  have q:(fq rows l).1 l=true:=by
   unfold fq;rw[MR (by grind)];simp
  have u:xr (wl T l) (λx=>(fq rows x).1 l)=false:=by
   cases e:xr _ _ with
   | false=>rfl
   | true=>
     obtain⟨x,k,c,g⟩:=F5 e;unfold wl at c;rw[Qe]at c
     have j:x<l:=by
      have:=b.2.2 x k c.1
      (simp;lia)
     have d:=wm g;by_cases a:x∈rows.map (·.1)
     .obtain⟨t,s⟩:=VA a
      grind
     .rw[MR a]at d
      ext
  grind
def Hl(A:AG)(r:bA):Prop:=(∀x∈r.1,x∈A)->∃y,r.2=some y/\y∈A
theorem F7{A b fs:AG}(h:kn b fs=true)(a:∀x∈fs,x∈A):∀x∈b,x∈A:=λx c=>by
 unfold kn at h
 ext
theorem F8(h:0<=i/\i<R.length):aE R i∈R:=by
 unfold aE
 ext
theorem vk(hR:∀r∈R,Hl A r):∀{is:AH}{fs:AG},cn R fs is=true->(∀x∈fs,x∈A)->∀x∈fs++bC R is,x∈A
 | [],fs,_,hf,x,hx=>by
   rcases qw hx with h|h
   .exact hf x h
   .cases h
 | i::is,fs,hd,hf,x,hx=>by
   have hd':(gG R fs i&&cn R (fs++[eK (aE R i)]) is)=true:=hd;rw[Qe]at hd';obtain⟨h1,h2⟩:=hd';unfold gG at h1;rw[Qe,Qe,wg]at h1;obtain⟨p1,p2,p3⟩:=h1;obtain⟨y,e,hy⟩:=hR _ (F8 p1) (F7 p3 hf)
   have hh:eK (aE R i)=y:=by unfold eK;rw[e];rfl
   have hf2:∀z∈fs++[eK (aE R i)],z∈A:=λz hz=>by
    symm
   refine vk hR h2 hf2 x ?_;have e2:bC R (i::is)=eK (aE R i)::bC R is:=rfl;symm
structure iT(R:List bA)(K S:AG)(first:AG)(rows:List c6):Prop where
 fK:first.Pairwise (·<·)/\∀y∈first,y∈K
 rs:rows.map (·.1)=S
 rK:∀r∈rows,r.2.Pairwise (·<·)/\(∀y∈r.2,y∈K)/\(r.2.filter λy=>decide (y<r.1))=first.filter λy=>decide (y<r.1)
 h0:∀q∈R,Hl (S++first) q
 hb:∀r∈rows,∀q∈R,Hl ((S.filter λy=>!decide (y=r.1))++r.2) q
theorem F9{R R':List bA}{K S:AG}{first:AG}{rows:List c6}(g:iT R K S first rows)(hRR:∀A,(∀q∈R,Hl A q)->∀q∈R',Hl A q)(fI:∀x∈S,x∉K){b:AN}{is js:AH}(h:kh R' K S b is js=true):False:=by
 unfold kh at h;rw[Qe]at h;obtain⟨h1,h2⟩:=h;have h0:=hRR _ g.h0;unfold ia at h2;simp only[Qe,wg,Bool.or_eq_true]at h2;obtain⟨_,p1,p2,p3,p4⟩:=h2
 cases b with
 | none=>
   have hfs:∀x∈gH none S++fH R' K none is,x∈S++first:=λx hx=>by
    rcases qw hx with q|q
    .exact List.mem_append.mpr (.inl (Qc q).1)
    .cases q
   obtain⟨y,e,hy⟩:=h0 _ (F8 p1) (F7 p3 (vk h0 p2 hfs));symm
 | some x=>
   have h1':(decide (x∈S)&&cn R' S is)=true:=h1;rw[Qe,wg]at h1';obtain⟨hxS,hder⟩:=h1';have hlit:=vk h0 hder (λy hy=>List.mem_append.mpr (.inl hy));have hx':=hxS;rw[<-g.rs]at hx';obtain⟨r,hr,e⟩:=qy hx';subst e;obtain⟨_,rk,re⟩:=g.rK r hr;have hb:=hRR _ (g.hb r hr)
   have hfs:∀z∈gH (some r.1) S++fH R' K (some r.1) is,z∈(S.filter λy=>!decide (y=r.1))++r.2:=λz hz=>by
    rcases qw hz with q|q
    .obtain⟨q1,q2⟩:=Qc q
     symm
    .have q':z∈K.filter λy=>decide (y<r.1)&&decide (y∈bC R' is):=q
     obtain⟨q1,q2⟩:=Qc q';rw[Qe,wg,wg]at q2
     have hz1:z∈first:=by
      rcases qw (hlit z (List.mem_append.mpr (.inr q2.2)))with w|w
      .grind
      .exact w
     have hz2:z∈first.filter λy=>decide (y<r.1):=List.mem_filter.mpr ⟨hz1,wh q2.1⟩
     symm
   obtain⟨y,e,hy⟩:=hb _ (F8 p1) (F7 p3 (vk hb p2 hfs));symm
def VC(s:aP):bh (bh s)=s:=by
 simp[bh]
def ed(L:AY)(s t:aP):Prop:=∃l∈L,bh s∈l/\t∈l/\(t=bh s->l.length=1)
inductive eO (L:AY) (s:aP):aP->Prop
 | refl:eO L s s
 | step {t u:aP}:eO L s t->ed L t u->eO L s u
def F_(rows:List cY)(s:aP):bM rows (bh s)=dn (bM rows s):=by
 unfold bM;have e:(bh s).1=s.1:=rfl;rw[e]
 cases rows.find? (λr=>r.1==s.1)with
 | none=>rfl
 | some r=>
   show(r.2.1,(!s.2)==r.2.2)=(r.2.1,!(s.2==r.2.2));cases s.2<;>cases r.2.2<;>rfl
def Ga(e:eN):dn e≠e:=by
 obtain⟨a,b⟩:=e;simp[dn]
theorem Gb(h:dn a=dn b):a=b:=by
 obtain⟨a1,a2⟩:=a;obtain⟨b1,b2⟩:=b;unfold dn at h
 ext
def lD(a b:eN):Prop:=a=(none,false)\/b=(none,true)\/a=b
theorem VD(h:lD a b)(h':lD b c):lD a c:=by
 rcases h with h|h|h
 .exact .inl h
 .rcases h' with h'|h'|h'
  .grind
  .exact .inr (.inl h')
  .exact .inr (.inl ⋯)
 symm
theorem Gc(hl:d8 l)(hk:ig (l.map (bM rows))=true)(h1:bh s∈l)(h2:t∈l)(h3:t=bh s->l.length=1):lD (bM rows s) (bM rows t):=by
 have hall:∀x∈l,x=bh s\/x=t:=λx hx=>by
  obtain⟨g1,g2⟩:=hl
  match l,g1,g2,h1,h2,h3,hx with
  | [a],_,_,h1,h2,h3,hx=>
    symm
  | [a,b],_,g2,h1,h2,h3,hx=>
    symm
 unfold ig at hk;obtain⟨e,he,hp⟩:=List.any_eq_true.mp hk;obtain⟨x,hx,rfl⟩:=qy he;rw[Bool.or_eq_true,wg,wg]at hp;have hfs:=F_ rows s
 have key:∀y∈l,dn (bM rows x)=bM rows y->lD (bM rows s) (bM rows t):=λy hy e=>by
  rcases hall x hx with rfl|rfl
  .rw[hfs]at e
   have e2:bM rows s=bM rows y:=by
    have:dn (dn (bM rows s))=bM rows s:=by simp[dn]
    symm
   rcases hall y hy with rfl|rfl
   .rw[hfs]at e2
    exact absurd e2.symm (Ga _)
   .exact .inr (.inr e2)
  .rcases hall y hy with rfl|rfl
   .rw[hfs]at e
    exact .inr (.inr (Gb e).symm)
   .exact absurd e (Ga _)
 rcases hp with hp|hp
 .rcases hall x hx with rfl|rfl
  .rw[hfs]at hp
   refine .inl ?_
   have:dn (dn (bM rows s))=bM rows s:=by simp[dn]
   rw[<-this,hp];rfl
  .exact .inr (.inl hp)
 symm
theorem vl(hL:∀l∈L,d8 l)(hk:∀l∈L,ig (l.map (bM rows))=true)(h:eO L s t):lD (bM rows s) (bM rows t):=by
 induction h with
 | refl=>exact .inr (.inr rfl)
 | step _ e ih=>
   obtain⟨l,hl,h1,h2,h3⟩:=e;exact VD ih (Gc (hL l hl) (hk l hl) h1 h2 h3)
def Gd(h:s.1∉rows.map (·.1)):bM rows s=(some s.1,s.2):=by
 unfold bM
 have e:rows.find? (λr=>r.1==s.1)=none:=by
  rw[List.find?_eq_none];intro q hq z;exact h (List.mem_map.mpr ⟨q,hq,by simpa using z⟩)
 rw[e]
def Ge(h:s.1∈rows.map (·.1)):∃r∈rows,r.1=s.1/\bM rows s=(r.2.1,s.2==r.2.2):=by
 unfold bM
 cases e:rows.find? (λr=>r.1==s.1)with
 | none=>
   rw[List.find?_eq_none]at e;obtain⟨q,hq,z⟩:=qy h;exact absurd (by simpa using z) (e q hq)
 | some r=>exact⟨r,List.mem_of_find?_eq_some e,by simpa using List.find?_some e,rfl⟩
structure iU(L:AY)(K S:AG)(rows:List cY):Prop where
 ks:rows.map (·.1)=K
 row:∀r∈rows,d0 S r=true
 kept:∀l∈L,ig (l.map (bM rows))=true
inductive gm (L:AY) (K S:AG):Prop
 | broken:[]∈L->gm L K S
 | clash (s:aP):eO L s (bh s)->eO L (bh s) s->gm L K S
 | cross (s t:aP):s.1∈S->t.1∈S->s≠t->eO L s t->gm L K S
 | late (s t:aP):s.1∈S->t.1∈K->t.1<s.1->eO L s t->eO L t s->gm L K S
theorem Gf(hL:∀l∈L,d8 l)(fI:∀x∈S,x∉K)(g:iU L K S rows):¬gm L K S:=λh=>by
 have hst:∀s:aP,s.1∈S->bM rows s=(some s.1,s.2):=λs hs=>Gd (by rw[g.ks];symm)
 have half:∀s:aP,eO L s (bh s)->bM rows s=(none,false):=λs h1=>by
  have e:=vl hL g.kept h1;rw[F_]at e;rcases e with e|e|e
  .exact e
  .have:dn (dn (bM rows s))=bM rows s:=by simp[dn]
   rw[<-this,e];rfl
  .exact absurd e.symm (Ga _)
 cases h with
 | broken h=>
   have:=g.kept [] h;cases this
 | clash s h1 h2=>
   have e1:=half s h1;have e2:=half (bh s) (by rw[VC];exact h2);rw[F_,e1]at e2;cases e2
 | cross s t hs ht hne h1=>
   have e:=vl hL g.kept h1;rw[hst s hs,hst t ht]at e;rcases e with e|e|e
   .cases e
   .cases e
   symm
 | late s t hs ht hlt h1 h2=>
   have e1:=vl hL g.kept h1;have e2:=vl hL g.kept h2;rw[hst s hs]at e1 e2
   have e3:bM rows t=(some s.1,s.2):=by
    rcases e1 with e|e|e
    .cases e
    .rcases e2 with e'|e'|e'
     .grind
     .cases e'
     .exact e'
    symm
   obtain⟨r,hr,he,hc⟩:=Ge (rows:=rows) (s:=t) (by rw[g.ks];exact ht);rw[e3]at hc;injection hc with hc1 _;have hrow:=g.row r hr;unfold d0 at hrow;symm
def clash(L:AY)(o k:AZ):Bool:=there L o k&&decide (cy o=bh (cq o 0))
def Gg{L:AY}(hL:L.length<=1000){o k:AZ}{co ck:D}(ho:Yc co=some (o.map af))(hk:Yc ck=some (k.map af))(hol:o.length<=200)(hkl:k.length<=200):
 tH [co,ck,br L]=some (.bl (clash L o k)):=by
 have h1:=Mm hL ho hk hol hkl;rw[tH,Yg (by rfl)];unfold clash;generalize br L=bk at *
 cases d:there L o k with
 | false=>simp[DF,Yd,h1,d]
 | true=>
   have p1:0<o.length:=by
    unfold there at d;rw[Qe]at d;exact pv d.1
   have a1:=kg p1;have a3:=pq p1;have hc:=EO (cq o 0);simp[DF,Yd,h1,d,ho,a1,a3,hc,fF]
def VE{L:AY}(hL:L.length<=1000){o k:AZ}(hol:o.length<=200)(hkl:k.length<=200)(x y:D):
 Yl [bZ "clash" [.tup (o.map af),.tup (k.map af)],br L,x,y]=some (.bl (clash L o k)):=by
 have h:=Gg hL (o:=o) (k:=k) (co:=.tup (o.map af)) (ck:=.tup (k.map af)) rfl rfl hol hkl;have e:=eC "clash" false;have h2:∀a b c:D,aX [a,b,c] 2=some c:=λa b c=>rfl;rw[Yl,Yg (by rfl)];generalize D.tup (o.map af)=oo,D.tup (k.map af)=kk,br L=bk at *;simp at e;simp[tU,Yd,e,h,h2]
def cross(L:AY)(S:AG)(o:AZ):Bool:=fG L o&&(!decide (cq o 0=cy o)&&(decide ((cq o 0).1∈S)&&decide ((cy o).1∈S)))
def Gh{L:AY}(hL:L.length<=1000){o:AZ}{co:D}(ho:Yc co=some (o.map af))(hol:o.length<=200)(S:AG):tI [co,br L,.lst (S.map nD)]=some (.bl (cross L S o)):=by
 have h1:=Fe hL ho hol;rw[tI,Yg (by rfl)];unfold cross;generalize br L=bk at *
 cases d1:fG L o with
 | false=>simp[oT,Yd,h1,d1]
 | true=>
   have p1:=pv d1;have a1:=kg p1;have a3:=pq p1;have n1:=lA (cq o 0).1 S;have n2:=lA (cy o).1 S;generalize cy o=A,cq o 0=B,S.map nD=SS at *;by_cases e:B=A
   .simp[oT,Yd,h1,d1,ho,a1,a3,fF,e]
   .by_cases e2:B.1∈S
    .simp[oT,Yd,h1,d1,ho,a1,a3,fF,e,n1,n2,e2]
    .simp[oT,Yd,h1,d1,ho,a1,a3,fF,e,n1,n2,e2]
def VF{L:AY}(hL:L.length<=1000){o:AZ}(hol:o.length<=200)(x:D)(S:AG):
 Yl [bZ "cross" [.tup (o.map af)],br L,x,.lst (S.map nD)]=some (.bl (cross L S o)):=by
 have h:=Gh hL (o:=o) (co:=.tup (o.map af)) rfl hol S;have e1:=dw (a:="cross") (b:="clash") (by decide +kernel) false;have e2:=eC "cross" false;rw[Yl,Yg (by rfl)];generalize D.tup (o.map af)=oo,br L=bk,S.map nD=SS at *;simp at e2;simp[tU,Yd,e1,e2,h]
def late(L:AY)(Kp S:AG)(o k:AZ):Bool:=there L o k&&(decide ((cq o 0).1∈S)&&(decide ((cy o).1∈Kp)&&decide ((cy o).1<(cq o 0).1)))
def VG{L:AY}{o k:AZ}(h:there L o k=true):0<o.length:=by
 unfold there at h;rw[Qe]at h;exact pv h.1
def Gi{L:AY}(hL:L.length<=1000){o k:AZ}{co ck:D}(ho:Yc co=some (o.map af))(hk:Yc ck=some (k.map af))(hol:o.length<=200)(hkl:k.length<=200)(Kp S:AG):
 tJ [co,ck,br L,.lst (Kp.map nD),.lst (S.map nD)]=some (.bl (late L Kp S o k)):=by
 have h1:=Mm hL ho hk hol hkl;rw[tJ,Yg (by rfl)];unfold late;generalize br L=bk at *
 cases d:there L o k with
 | false=>simp[oU,Yd,h1,d]
 | true=>
   have p1:=VG d;have a1:=kg p1;have a3:=pq p1;have n1:=lA (cq o 0).1 S;have n2:=lA (cy o).1 Kp;generalize cy o=A,cq o 0=B,S.map nD=SS,Kp.map nD=KK at *;by_cases e1:B.1∈S
   .by_cases e2:A.1∈Kp
    .simp[oU,Yd,h1,d,ho,a1,a3,n1,n2,e1,e2]
    .simp[oU,Yd,h1,d,ho,a1,a3,n1,n2,e1,e2]
   .simp[oU,Yd,h1,d,ho,a1,a3,n1,n2,e1]
theorem VH{L:AY}(hL:L.length<=1000){o k:AZ}(hol:o.length<=200)(hkl:k.length<=200)(Kp S:AG):
 Yl [bZ "late" [.tup (o.map af),.tup (k.map af)],br L,.lst (Kp.map nD),.lst (S.map nD)]=some (.bl (late L Kp S o k)):=by
 have h:=Gi hL (o:=o) (k:=k) (co:=.tup (o.map af)) (ck:=.tup (k.map af)) rfl rfl hol hkl Kp S;have e1:=dw (a:="late") (b:="clash") (by decide +kernel) false;have e2:=dw (a:="late") (b:="cross") (by decide +kernel) false;have e3:=eC "late" false;have h2:∀a b c:D,aX [a,b,c] 2=some c:=λa b c=>rfl;rw[Yl,Yg (by rfl)];generalize D.tup (o.map af)=oo,D.tup (k.map af)=kk,br L=bk,S.map nD=SS,Kp.map nD=KK at *;simp at e3;simp[tU,Yd,e1,e2,e3,h,h2]
def gn(r:Sm):Rl:=.su (fl 60 r.1) r.2
def MV(R:List Sm):Yt .s (R.map gn)=d9 R:=by unfold Yt;rw[Qf];rfl
theorem pJ{n:Nat}(hn:n<=60):∀{Q:List Rl},(∀r∈Q,In .s n r/\cz r)->∃R:List Sm,Q.map ax=R.map bN/\R.length=Q.length
 | [],_=>⟨[],rfl,rfl⟩
 | r::Q,h=>by
   obtain⟨R,e,hl⟩:=pJ hn (Q:=Q) λx hx=>h x (qg _ hx);have hr:=h r qh
   cases r with
   | ei l=>cases hr.1.1
   | im b o=>rcases hr.1.1 with h|h<;>cases h
   | su b o=>
     have hb:=kc (n:=60) hr.2 (λx hx=>Qi (hr.1.2 x hx) hn);refine⟨(λx=>decide (x∈b),o)::R,?_,by simp[hl]⟩;rw[Qd,Qd,e]
     have:ax (.su b o)=bN (λx=>decide (x∈b),o):=by
      show D.tup [.tup (b.map nD),.bl o]=D.tup [.tup ((fl 60 λx=>decide (x∈b)).map nD),.bl o];rw[<-hb]
     rw[this]
theorem VI(R:List Sm){c:D}{hs:AJ}(hc:Yc c=some (hs.map av))(hl:hs.length<=60){st:Nat}(hst:st<=hs.length){is:AH}(hil:is.length<=63):
 gb [bZ "odd" [.tup (is.map D.int)],d9 R,c,.int st]=some (.bl (fo R (aI hs st false) is)):=by
 have h:=Vb (R:=R) (S:=aI hs st false) hil;have b1:=Yk hs hc ∅ st hst true;have b2:=Yk hs hc ∅ st hst false;simp only[av,if_true,Qo,if_false]at b1 b2;rw[gb,Yp,Yg (by rfl)];have e1:=dw (a:="odd") (b:="broken") (by decide +kernel) false;have e3:=eC "odd" false;have k1:=dw (a:="sums") (b:="nots") (by decide +kernel) false;have k2:=dw (a:="sums") (b:="eithers") (by decide +kernel) false;have k3:=eC "sums" false;have hib:Yc (d9 R)=some [.str "sums",.tup (R.map bN)]:=rfl;generalize aI hs st true=Kp,aI hs st false=S,R.map bN=RR,d9 R=bk at *;generalize Kp.map nD=KK,S.map nD=SS,D.tup (is.map D.int)=ii at *;simp at e3 k3;simp[jZ,Yd,hib,b1,b2,e1,e3,k1,k2,k3,h]
theorem MX(j:Nat)(R:List bA)(hR:∀r∈R,∀x,r.2=some x->x<60){c:D}{hs:AJ}(hc:Yc c=some (hs.map av))(hl:hs.length<=60){st:Nat}(hst:st<=hs.length)(b:AN){is js:AH}(hil:is.length<=300)(hjl:js.length<=300):
 Yp (j+1) [bZ "lone" [ak b,.tup (is.map D.int),.tup (js.map D.int)],cx R,c,.int st]=some (.bl (kh R (aI hs st true) (aI hs st false) b is js)):=by
 have hKn:∀x∈aI hs st true,x<60:=λx hx=>Qi (lz hx) hl;have hSn:∀x∈aI hs st false,x<60:=λx hx=>Qi (lz hx) hl;have hSl:(aI hs st false).length<=60:=Qg (Qn _ _) (by simpa using hl);have hKl:(aI hs st true).length<=60:=Qg (Qn _ _) (by simpa using hl);have h:=U6 R (n:=60) ∅ hR hKn hSn ∅ ∅ b hil hjl;have b1:=Yk hs hc ∅ st hst true;have b2:=Yk hs hc ∅ st hst false;simp only[av,if_true,Qo,if_false]at b1 b2;rw[Yp,Yg (by rfl)];have e1:=dw (a:="lone") (b:="broken") (by decide +kernel) false;have e2:=dw (a:="lone") (b:="odd") (by decide +kernel) false;have e3:=eC "lone" false;have k1:=dw (a:="ifs") (b:="nots") (by decide +kernel) false;have k2:=dw (a:="ifs") (b:="eithers") (by decide +kernel) false;have k3:=eC "ifs" false;generalize aI hs st true=Kp,aI hs st false=S at *;have hib:Yc (cx R)=some [.str "ifs",.tup (R.map aW)]:=rfl;generalize R.map aW=RR at *;generalize hbk:cx R=bk at *;generalize Kp.map nD=KK,S.map nD=SS,ak b=ob,D.tup (is.map D.int)=ii,D.tup (js.map D.int)=jj at *;simp at e3 k3;simp[jZ,Yd,hib,b1,b2,e1,e2,e3,k1,k2,k3,h]
theorem pK{n:Nat}{k:Kd}(hk:k=.i\/k=.n):∀{Q:List Rl},(∀r∈Q,In k n r/\cz r)->∃R:List bA,Q=R.map dN/\(∀r∈R,∀x,r.2=some x->x<n)/\R.length=Q.length
 | [],_=>⟨[],rfl,by simp,rfl⟩
 | r::Q,h=>by
   obtain⟨R,e,hg,hl⟩:=pK hk (Q:=Q) λx hx=>h x (qg _ hx);have hr:=h r qh
   cases r with
   | ei l=>have:=hr.1.1;subst this;rcases hk with h|h<;>cases h
   | su b o=>have:=hr.1.1;subst this;rcases hk with h|h<;>cases h
   | im b o=>exact⟨(b,o)::R,by rw[e];rfl,λx hx=>by
    rcases qu hx with rfl|hx
    .exact hr.1.2.2
    .exact hg x hx,by simp[hl]⟩
def VJ{rows:List cY}(hl:rows.length<=1000)(L:AY){c:D}{hs:AJ}(hc:Yc c=some (hs.map av))(hh:hs.length<=1000){st:Nat}(hst:st<=hs.length):
 Yx [bZ "plan" [.tup (rows.map aB)],Yt .e (L.map Rl.ei),c,.int st]=some (.bl (gJ rows L (aI hs st true) (aI hs st false))):=by
 have hnd:(aI hs st true).Nodup:=List.Pairwise.filter _ List.nodup_range;have h:=Vi hl L hnd (aI hs st false);have b1:=Yk hs hc hh st hst true;have b2:=Yk hs hc hh st hst false;simp only[av,if_true,Qo,if_false]at b1 b2;rw[Yx,Ys,Yg (by rfl)];have e1:=eC "plan" false;simp at e1;have hib:Yc (Yt .e (L.map Rl.ei))=some [.str "eithers",.tup ((L.map Rl.ei).map ax)]:=rfl;have k1:=dw (a:="eithers") (b:="nots") (by decide +kernel) false;have k3:=eC "eithers" false;simp at k3;generalize gJ rows L (aI hs st true) (aI hs st false)=pb,(aI hs st true).map nD=KK,(aI hs st false).map nD=SS,Yt .e (L.map Rl.ei)=bk,(L.map Rl.ei).map ax=LL,rows.map aB=RR at *;simp[oQ,Yd,hib,b1,b2,e1,k1,k3,h]
def Gj(R:List Sm):(R.map gn).map ax=R.map bN:=by rw[Qf];rfl
theorem VL{rows:List b_}(hl:rows.length<=1000)(hr:∀r∈rows,r.2.1.length<=3700/\∀y∈r.2.1,y<60)(R:List Sm){c:D}{hs:AJ}(hc:Yc c=some (hs.map av))(hh:hs.length<=1000){st:Nat}(hst:st<=hs.length):
 Yx [bZ "sums" [.tup (rows.map az)],Yt .s (R.map gn),c,.int st]=some (.bl (gK rows R (aI hs st true) (aI hs st false))):=by
 have hnd:(aI hs st true).Nodup:=List.Pairwise.filter _ List.nodup_range;have h:=Vq hl hr R hnd (aI hs st false);have b1:=Yk hs hc hh st hst true;have b2:=Yk hs hc hh st hst false;simp only[av,if_true,Qo,if_false]at b1 b2;rw[Yx,Ys,Yg (by rfl)];have e1:=eC "sums" false;simp at e1
 have hbk:Yt .s (R.map gn)=.tup [.str "sums",.tup (R.map bN)]:=by rw[Yt,Gj];rfl
 have hib:Yc (Yt .s (R.map gn))=some [.str "sums",.tup (R.map bN)]:=by rw[hbk];rfl
 rw[<-hbk]at h;have k1:=dw (a:="sums") (b:="nots") (by decide +kernel) false;have k2:=dw (a:="sums") (b:="plan") (by decide +kernel) false;have k3:=dw (a:="sums") (b:="eithers") (by decide +kernel) false;clear hbk;generalize gK rows R (aI hs st true) (aI hs st false)=pb,(aI hs st true).map nD=KK,(aI hs st false).map nD=SS,Yt .s (R.map gn)=bk,R.map bN=LL,rows.map az=RR at *;simp[oQ,Yd,hib,b1,b2,e1,k1,k2,k3,h]
theorem MY(j:Nat){first:AG}(hf:∀x∈first,x<60)(hfl:first.length<=100){rows:List c6}(hl:rows.length<=100)(hr:∀r∈rows,r.2.length<=100/\∀y∈r.2,y<60){hs:AJ}(hh:hs.length<=60){R:List Rl}(hR:∀r∈R,In .i hs.length r){st:Nat}(hst:st<=hs.length):
 Ys (j+1) [bZ "rows" [.tup (first.map nD),.tup (rows.map aL)],Yt .i R,.tup (hs.map av),.int st]=some (.bl (gL first rows R (aI hs st true) (aI hs st false) hs.length)):=by
 have hSl:(aI hs st false).length<=100:=Qg (Qn _ _) (by simp;ac_nf);have h:=Vw hf hfl hl hr (n:=hs.length) ∅ hR (aI hs st true) hSl;have b1:=Yk hs (c:=.tup (hs.map av)) rfl ∅ st hst true;have b2:=Yk hs (c:=.tup (hs.map av)) rfl ∅ st hst false;simp only[av,if_true,Qo,if_false]at b1 b2
 have hlen:aA [.tup (hs.map av)]=some (.int (hs.length:Int)):=by simp
 rw[Ys,Yg (by rfl)];have e1:=eC "rows" false;have e2:=dw (a:="rows") (b:="sums") (by decide +kernel) false;have e3:=dw (a:="rows") (b:="plan") (by decide +kernel) false;simp at e1;have hib:Yc (Yt .i R)=some [.str "ifs",.tup (R.map ax)]:=rfl;have k1:=dw (a:="ifs") (b:="nots") (by decide +kernel) false;have k3:=eC "ifs" false;simp at k3;have a2:∀a b c:D,aX [a,b,c] 2=some c:=λa b c=>rfl
 generalize gL first rows R (aI hs st true) (aI hs st false) hs.length=pb at *
 generalize (aI hs st true).map nD=KK,(aI hs st false).map nD=SS,Yt .i R=bk,R.map ax=RL,rows.map aL=RR at *
 generalize first.map nD=FF at *
 generalize hs.length=nn,D.tup (hs.map av)=c at *;simp[oQ,Yd,hib,b1,b2,e1,e2,e3,k1,k3,a2,hlen,h]
theorem VM{n:Nat}{first:AG}(hf:∀x∈first,x<60)(hfl:first.length<=100){rows:List c6}(hl:rows.length<=100)(hr:∀r∈rows,r.2.length<=100/\∀y∈r.2,y<60){hs:AJ}(hn:hs.length=n)(hh:hs.length<=60){R:List Rl}(hR:∀r∈R,In .i n r/\cz r){st:Nat}(hst:st<=hs.length):
 Yx [bZ "rows" [.tup (first.map nD),.tup (rows.map aL)],Yt .n R,.tup (hs.map av),.int st]=some (.bl (gL first rows R (aI hs st true) (aI hs st false) hs.length)):=by
 have hRn:∀r∈R,In .n n r/\cz r:=λr hm=>by
  have h:=hR r hm
  cases r with
  | ei l=>cases h.1.1
  | su b o=>cases h.1.1
  | im b o=>exact⟨⟨.inr rfl,h.1.2⟩,h.2⟩
 have hx:=ET hRn
 have hex:R.map dY=R:=by
  refine(Qq (g:=id) λr hm=>?_).trans (List.map_id R);have h:=hR r hm
  cases r with
  | ei l=>cases h.1.1
  | su b o=>cases h.1.1
  | im b o=>rfl
 rw[hex]at hx;simp only[h8]at hx;have h1:=MY 10 hf hfl hl hr hh (R:=R) (λr hm=>by rw[hn];exact(hR r hm).1) hst;rw[Yx,Ys,Yg (by rfl)]
 generalize gL first rows R (aI hs st true) (aI hs st false) hs.length=pb at *
 generalize D.tup (hs.map av)=c,rows.map aL=RR at *
 generalize first.map nD=FF at *
 simp[oQ,Yd,hx,h1]
def Gk(hL:∀l∈L,d8 l)(h:t∈bL L s):ed L s t:=by
 have:=Mj (s:=s) (t:=t) hL;rw[wh h,List.any_eq_true]at this;obtain⟨l,hl,e⟩:=this;unfold dZ at e;simp only[Qe,Bool.or_eq_true,wg,Bool.not_eq_true',decide_eq_false_iff_not]at e;exact⟨l,hl,e.1,e.2.1,λz=>e.2.2.resolve_left λw=>w z⟩
theorem Gm{L:AY}(hL:∀l∈L,d8 l){o:AZ}(h:fG L o=true):eO L (cq o 0) (cy o):=by
 unfold fG at h;rw[Qe,wg,List.all_eq_true]at h;obtain⟨h0,h1⟩:=h
 have key:∀i,i<o.length->eO L (cq o 0) (cq o i):=λi=>by
  induction i with
  | zero=>exact λ_=>.refl
  | succ i ih=>
    intro hi;have:=h1 i (List.mem_range.mpr ∅);exact .step (ih ∅) (Gk hL (wm this))
 exact key _ ∅
def MZ{L:AY}(hL:∀l∈L,d8 l){o k:AZ}(h:there L o k=true):eO L (cq o 0) (cy o)/\eO L (cy o) (cq o 0):=by
 unfold there at h;simp only[Qe,wg]at h;obtain⟨h1,h2,h3,h4⟩:=h;have:=Gm hL h2;rw[<-h3,h4]at this;exact⟨Gm hL h1,this⟩
def Gn{L:AY}(hL:∀l∈L,d8 l){K S:AG}(fI:∀x∈S,x∉K){rows:List cY}(hp:gJ rows L K S=true):(∀o k,clash L o k=false)/\(∀o,cross L S o=false)/\(∀o k,late L K S o k=false)/\[]∉L:=by
 have g:iU L K S rows:=by
  unfold gJ at hp;simp only[Qe,wg,List.all_eq_true]at hp;exact⟨hp.1.1,hp.1.2,hp.2⟩
 have nv:=Gf hL fI g;refine⟨λo k=>?_,λo=>?_,λo k=>?_,λh=>nv (.broken h)⟩
 .cases e:clash L o k with
  | false=>rfl
  | true=>
    unfold clash at e;rw[Qe,wg]at e;obtain⟨r1,r2⟩:=MZ hL e.1;rw[e.2]at r1 r2;exact absurd (.clash _ r1 r2) nv
 .cases e:cross L S o with
  | false=>rfl
  | true=>
    unfold cross at e;simp only[Qe,wg,Bool.not_eq_true',decide_eq_false_iff_not]at e;exact absurd (.cross _ _ e.2.2.1 e.2.2.2 e.2.1 (Gm hL e.1)) nv
 .cases e:late L K S o k with
  | false=>rfl
  | true=>
    unfold late at e;simp only[Qe,wg]at e;obtain⟨r1,r2⟩:=MZ hL e.1;exact absurd (.late _ _ e.2.1 e.2.2.1 e.2.2.2 r1 r2) nv
theorem Gp{T:AK}(h:fl 60 T≠[]):pD T ((fl 60 T).getD ((fl 60 T).length-1) 0):=by
 have hpw:(fl 60 T).Pairwise (·<·):=List.Pairwise.filter _ List.pairwise_lt_range
 have hm:∀x,x∈fl 60 T↔x<60/\T x=true:=λx=>by unfold fl;simp[Ql]
 have hpos:0<(fl 60 T).length:=List.length_pos_iff.mpr h;generalize fl 60 T=l at *
 have hl:l.getD (l.length-1) 0=l[l.length-1]'∅:=by simp[List.getD_eq_getElem?_getD,qr (show l.length-1<l.length by ac_nf)]
 rw[hl];have h1:=(hm _).mp (List.getElem_mem (show l.length-1<l.length by ac_nf));refine⟨h1.1,h1.2,λx hx hT=>?_⟩;obtain⟨i,hi,rfl⟩:=List.mem_iff_getElem.mp ((hm x).mpr ⟨hx,hT⟩);by_cases z:i=l.length-1
 .subst z
  exact qv _
 .exact Nat.le_of_lt (List.pairwise_iff_getElem.mp hpw _ _ _ _ ∅)
def Gq{R:List Sm}{K S:AG}(fI:∀x∈S,x∉K){rows:List b_}(hp:gK rows R K S=true):(∀is,fo R S is=false)/\∀ru∈R,¬(fl 60 ru.1=[]/\ru.2=true):=by
 unfold gK at hp;simp only[Qe,wg,List.all_eq_true]at hp;obtain⟨⟨h1,h2⟩,h3⟩:=hp;have hr:∀r∈rows,∀y∈r.2.1,y<r.1:=λr hr y hy=>(F6 (h2 r hr) y hy).2;have hk:∀ru∈R,kp rows ru.1 ru.2:=λru hm=>kept_kp.mp (h3 ru hm);refine⟨λis=>?_,λru hm h=>never h1 hr fI (hk ru hm) (.inl h)⟩
 cases e:fo R S is with
 | false=>rfl
 | true=>
   unfold fo at e;simp only[Qe]at e;obtain⟨_,e2,e3⟩:=e;obtain⟨_,hps⟩:=pB e2
   have kt:=F3 (R:=R) (rows:=rows) (ps:=gi is) λp hp=>by
    have:rg R p∈R:=by
     unfold rg;rw[List.getD_eq_getElem?_getD,qr (hps p hp)];exact List.getElem_mem _
    exact hk _ this
   refine absurd ?_ (never h1 hr fI kt);unfold ki at e3
   split at e3
   .rename_i z
    exact .inl ⟨z,e3⟩
   .rename_i z
    exact .inr ⟨_,wm e3,Gp z⟩
def Gs{n:Nat}{l:AG}{r:bA}(hb:∀x∈r.1,x<n)(hh:∀x,r.2=some x->x<n)(h:so .i (aR n l) (dN r)=true):Hl l r:=λhx=>by
 have at_lit:∀{x:Nat},x<n->at' (aR n l) x=decide (x∈l):=λ{x} hx=>by
  unfold at' aR;simp[hx]
 have h:((r.1.any λx=>at' (aR n l) x != decide (Kd.i=.i))||Bk.hd (aR n l) (decide (Kd.i=.i)) r.2)=true:=h;rw[Bool.or_eq_true,List.any_eq_true]at h;rcases h with⟨x,hm,e⟩|h
 .rw[at_lit (hb x hm),wh (hx x hm)]at e
  cases e
 .cases e:r.2 with
  | none=>rw[e]at h;cases h
  | some y=>
    rw[e]at h;have h:(at' (aR n l) y==true)=true:=h;rw[at_lit (hh y e)]at h;exact⟨y,rfl,by simpa using h⟩
theorem Gu{R:List bA}{n:Nat}(hb:∀r∈R,(∀x∈r.1,x<n)/\∀x,r.2=some x->x<n){K S first:AG}(fI:∀x∈S,x∉K){rows:List c6}(hp:gL first rows (R.map dN) K S n=true):(∀b is js,kh R K S b is js=false)/\([],none)∉R:=by
 have g:iT R K S first rows:=by
  unfold gL at hp;simp only[Qe,wg,List.all_eq_true]at hp;obtain⟨⟨⟨h1,h2⟩,h3⟩,h4⟩:=hp
  have hs:∀l,iS l K=true->l.Pairwise (·<·)/\∀y∈l,y∈K:=λl h=>by
   unfold iS ij at h;simp only[Qe,wg,List.all_eq_true]at h;exact h
  have hH:∀l∈bE first rows S,∀q∈R,Hl l q:=λl hl q hq=>by
   have:=h4 l hl;have e:=FN .i (aR n l) (R.map dN);rw[wh this]at e;exact Gs (hb q hq).1 (hb q hq).2 (List.all_eq_true.mp e.symm _ (Qs hq))
  refine⟨hs _ h1,h2,λr hr=>?_,hH _ qh,λr hr=>hH _ (qg _ (List.mem_map.mpr ⟨r,hr,rfl⟩))⟩;have:=h3 r hr;unfold d6 at this;rw[Qe,wg]at this;exact⟨(hs _ this.1).1,(hs _ this.1).2,this.2⟩
 refine⟨λb is js=>?_,λh=>?_⟩
 .cases e:kh R K S b is js with
  | false=>rfl
  | true=>exact(F9 g (λ_ h=>h) fI e).elim
 .obtain⟨y,e,_⟩:=g.h0 _ h λx hx=>nomatch hx
  cases e
def bj{f g:AT}{ρ ρ':Ro}{o:Option iA}(h:f ρ=some (.nx ρ'))(k:g ρ'=o):ag f g ρ=o:=by rwa [dW,h]
def pL{f g:AT}{ρ:Ro}{d:D}(h:f ρ=some (.rt d)):ag f g ρ=some (.rt d):=by rw[dW,h,qd];rfl
def cR{c:AV}{f g:AT}{ρ:Ro}(h:c ρ=some true):aG c f g ρ=f ρ:=by rw[rP,h];rfl
def cu{c:AV}{f g:AT}{ρ:Ro}(h:c ρ=some false):aG c f g ρ=g ρ:=by rw[rP,h];rfl
def Gv{p bk hh:D}{st:Int}{b:Bool}(h:Yx [p,bk,hh,.int st]=some (.bl b)):j0 [p,bk,hh,.int st,.str "keeper"]=some (.bl b):=by
 rw[j0,Yg (by rfl)];rw[show DM _=_ from pL ((cR (eC "keeper" false)).trans (by simp[Yd,h];rfl))];rfl
theorem Gw{p bk hh:D}{st:Int}{b:Bool}(h:gb [p,bk,hh,.int st]=some (.bl b)):j0 [p,bk,hh,.int st,.str "storm"]=some (.bl b):=by
 rw[j0,Yg (by rfl)];rw[show DM _=_ from bj (cu (by exact dw (a:="storm") (b:="keeper") (by decide +kernel) false)) (by simp[Yd,h];rfl)];rfl
def Pb(bk hh:D)(st:Int)(held:Bool)(p:D):Prop:=∃d,gb [p,bk,hh,.int st]=some (.bl d)/\(held=true->d=false)
def FE(p:D):Prop:=p=eM\/(∃o k:AZ,o.length<=200/\k.length<=200/\(p=bZ "clash" [.tup (o.map af),.tup (k.map af)]\/p=bZ "late" [.tup (o.map af),.tup (k.map af)]))\/∃o:AZ,o.length<=200/\p=bZ "cross" [.tup (o.map af)]
def FS(p:D):Prop:=p=eM\/∃is:AH,is.length<=63/\p=bZ "odd" [.tup (is.map D.int)]
def FI(p:D):Prop:=p=eM\/∃(b:AN) (is js:AH),is.length<=300/\js.length<=300/\p=bZ "lone" [ak b,.tup (is.map D.int),.tup (js.map D.int)]
def fI(hs:AJ)(st:Nat):∀x∈aI hs st false,x∉aI hs st true:=λx h1 h2=>by
 unfold aI at h1 h2;have h1:=(Qc h1).2;have h2:=(Qc h2).2;rw[Qe]at h1 h2;have e1:=eq_of_beq h1.2;have e2:=eq_of_beq h2.2;rw[e1]at e2;cases e2
section
variable {hs:AJ}{st:Nat}(hl:hs.length<=60)(hst:st<=hs.length)
include hl hst
theorem Gx{L:AY}(hLl:L.length<=60)(hR:∀r∈L.map Rl.ei,In .e hs.length r/\cz r){rows:List cY}{p:D}(hp:FE p):Pb (Yt .e (L.map Rl.ei)) (.tup (hs.map av)) st (gJ rows L (aI hs st true) (aI hs st false)) p:=by
 have hL:∀l∈L,d8 l:=λl h=>Mi (hR _ (Qs h)).2;have nv:=λh=>Gn hL (fI hs st) (rows:=rows) h
 have ow:∀{x:String},(Str.ofString x==Str.ofString "broken")=false->pj x ["broken"]:=λh y hy=>by rw[List.mem_singleton]at hy;subst hy;exact h
 have hb:=Ml L;rcases hp with rfl|⟨o,k,ho,hk,rfl|rfl⟩|⟨o,ho,rfl⟩
 .refine⟨_,E6 hR hl (c:=.tup (hs.map av)) rfl ∅ hst,λh=>?_⟩
  rw[List.any_eq_false];intro r hr e;obtain⟨l,hm,rfl⟩:=qy hr
  have e:da (l.map af) []=true:=by simpa [eL,vd,ax]using e
  cases l with
  | nil=>exact(nv h).2.2.2 hm
  | cons a l=>simp at e
 .refine⟨_,Fg (c:=.tup (hs.map av)) rfl ∅ hst (ow (by decide +kernel)) (by rw[hb];exact VE ∅ ho hk _ _),λh=>(nv h).1 _ _⟩
 .refine⟨_,Fg (c:=.tup (hs.map av)) rfl ∅ hst (ow (by decide +kernel)) (by rw[hb];exact VH ∅ ho hk _ _),λh=>(nv h).2.2.1 _ _⟩
 .refine⟨_,Fg (c:=.tup (hs.map av)) rfl ∅ hst (ow (by decide +kernel)) (by rw[hb];exact VF ∅ ho _ _),λh=>(nv h).2.1 _⟩
theorem Gy{R:List Sm}{rows:List b_}{p:D}(hp:FS p):Pb (d9 R) (.tup (hs.map av)) st (gK rows R (aI hs st true) (aI hs st false)) p:=by
 have nv:=λh=>Gq (fI hs st) (rows:=rows) (R:=R) h;rcases hp with rfl|⟨is,hi,rfl⟩
 .have hR:∀r∈R.map gn,In .s 60 r/\cz r:=λr hr=>by
   obtain⟨q,_,rfl⟩:=qy hr;exact⟨⟨rfl,λx hx=>Qb (Qc hx).1⟩,List.Pairwise.filter _ List.pairwise_lt_range⟩
  have:=E6 hR (qv _) (c:=.tup (hs.map av)) rfl ∅ hst;rw[MV]at this;refine⟨_,this,λh=>?_⟩;rw[List.any_eq_false];intro r hr e;obtain⟨q,hm,rfl⟩:=qy hr
  have e:(da ((fl 60 q.1).map nD) []&&q.2)=true:=by simpa [eL,vd,ax,gn]using e
  rw[Qe]at e;refine(nv h).2 q hm ⟨?_,e.2⟩
  cases e2:fl 60 q.1 with
  | nil=>rfl
  | cons a l=>rw[e2]at e;simp at e
 .exact⟨_,VI R (c:=.tup (hs.map av)) rfl hl hst hi,λh=>(nv h).1 _⟩
theorem Gz{k:Kd}(hk:k=.i\/k=.n){R:List bA}(hR:∀r∈R.map dN,In k hs.length r/\cz r){first:AG}{rows:List c6}{p:D}(hp:FI p):Pb (Yt k (R.map dN)) (.tup (hs.map av)) st (gL first rows (R.map dN) (aI hs st true) (aI hs st false) hs.length) p:=by
 have hb:∀r∈R,(∀x∈r.1,x<hs.length)/\∀x,r.2=some x->x<hs.length:=λr hr=>(hR _ (Qs hr)).1.2;have nv:=λh=>Gu hb (fI hs st) (rows:=rows) (first:=first) h;rcases hp with rfl|⟨b,is,js,hi,hj,rfl⟩
 .refine⟨_,E6 hR hl (c:=.tup (hs.map av)) rfl ∅ hst,λh=>?_⟩
  rw[List.any_eq_false];intro r hr e;obtain⟨q,hm,rfl⟩:=qy hr
  have hv:vd k=.im [] none:=by rcases hk with rfl|rfl<;>rfl
  obtain⟨qb,qh⟩:=q
  have e:(da (qb.map nD) []&&bg (ak qh) .non)=true:=by simpa [eL,hv,ax,dN,ak]using e
  rw[Qe]at e;refine(nv h).2 ?_
  cases qb with
  | cons a l=>simp at e
  | nil=>
    cases qh with
    | none=>exact hm
    | some y=>exact absurd (e.2.symm.trans (show bg (D.int (y:Int)) .non=false from rfl)) (by decide)
 .have h60:∀r∈R,∀x,r.2=some x->x<60:=λr hr x hx=>Qi ((hb r hr).2 x hx) hl
  rcases hk with rfl|rfl
  .rw[Mn]
   exact⟨_,MX 11 R h60 (c:=.tup (hs.map av)) rfl hl hst b hi hj,λh=>(nv h).1 _ _ _⟩
  .have hx:=ET (k:=.n) (n:=hs.length) hR
   have he:(R.map dN).map dY=R.map dN:=by rw[Qf];rfl
   rw[he]at hx
   have hx:lk [Yt .n (R.map dN)]=some (cx R):=by rw[hx];exact congrArg some (Mn R)
   have h:=MX 10 R h60 (c:=.tup (hs.map av)) rfl hl hst b hi hj;refine⟨_,?_,λh=>(nv h).1 b is js⟩;rw[gb,Yp,Yg (by rfl)];have hbi:Yc (Yt .n (R.map dN))=some [aC .n,.tup ((R.map dN).map ax)]:=rfl;generalize Yt .n (R.map dN)=bk,cx R=bk' at *;simp[jZ,Yd,hbi,hx,h]
end
theorem ku(ns:AH)(a b:Nat):∃cells:AH,cells.length<=b-a/\cf (ns.map D.int) (some (a:Int)) (some (b:Int))=cells.map D.int:=by
 refine⟨_,?_,EM ns a b⟩;rw[List.length_take];ac_nf
theorem M0(n:Nat)(h:n<=1000):bx [.int (n:Int)]=some ((List.range' 0 n).map λn:Nat=>D.int (n:Int)):=by
 rw[fE ∅ ∅,dX];simp[List.range_eq_range']
theorem VN{Q:AR}(hQ:Q.length<=60):∃PP:AR,(∀p∈PP,FS p)/\j8 [.tup Q]=some (.lst PP):=by
 rw[j8,Yg (by rfl)];have hst:Yd 4 [D.tup Q]=[↑(.tup Q),none,none,none]:=rfl
 obtain⟨m,hm⟩:∃m:Nat,(if (Q.length:Int)<6 then (Q.length:Int)else 6)=(m:Int)/\m<=6:=by
  by_cases h:Q.length<6
  .exact⟨Q.length,by rw[if_pos ∅],by ac_nf⟩
  .exact⟨6,by rw[if_neg ∅];rfl,by ac_nf⟩
 have hr:=M0 m ∅
 obtain⟨ρ1,e1,PP,y2,y3,hp,hlen,rfl⟩:=Yv (gt:=ai 2) (fb:=Et) (λi:Nat=>D.int (1+(i:Nat))) (λpre ρ=>∃(PP:AR) (y2 y3:AS),(∀p∈PP,FS p)/\PP.length=1+pre.length/\ρ=[↑(.tup Q),some (.ow PP),y2,y3]) (List.range 63) []
  [↑(.tup Q),some (.ow [eM]),none,none] ⟨[eM],none,none,λp hp=>.inl (List.mem_singleton.mp hp),rfl,rfl⟩ (by
   rintro q i r ρ e ⟨PP,y2,y3,hp,hlen,rfl⟩;have hq:=congrArg List.length e;rw[Qj,List.length_range,qz]at hq
   have hc:=dv (fc:=Es) (fe:=LJ) (r:=[↑(.int (1+(i:Int)))]) (enc:=λj:Nat=>D.int (j:Int)) (λj=>decide ((1+(i:Int))/2^j%2=1)) (λj:Nat=>D.int (j:Int)) (l:=List.range' 0 m) (λj _=>by
    have:=jA (1+(i:Int)) j
    simp[Es,this]) (λ_ _ _=>rfl)
   generalize hW:(List.range' 0 m).filter (λj=>decide ((1+(i:Int))/2^j%2=1))=W at hc
   have hWl:W.length<=63:=by
    rw[<-hW];refine Qg (Qn _ _) ?_;rw[List.length_range'];ac_nf
   have hap:=e_ (l:=PP) (d:=bZ "odd" [.tup (W.map λj:Nat=>D.int (j:Int))]) (by simp at hq;ac_nf);refine⟨_,[↑(.tup Q),some (.ow (PP++[bZ "odd" [.tup (W.map λj:Nat=>D.int (j:Int))]])),↑(.int (1+(i:Int))),some (.ow (W.map λj:Nat=>D.int (j:Int)))],rfl,?_,_,_,_,λp h=>?_,by simp[hlen];ac_nf,rfl⟩
   .generalize W.map (λj:Nat=>D.int (j:Int))=WW at *
    generalize (List.range' 0 m).map (λj:Nat=>D.int (j:Int))=XX at *;refine bj (ρ':=[↑(.tup Q),some (.ow PP),↑(.int (1+(i:Int))),some (.ow WW)]) ?_ ?_
    .simp[hm.1,hr,hc,aq]
    .simp[hap]
   .rcases qw h with h|h
    .exact hp p h
    .rw[List.mem_singleton]at h
     exact .inr ⟨W.map λj:Nat=>(j:Int),by simpa using hWl,by rw[h,Qf];rfl⟩)
 have hr2:=oe (a:=1) (n:=64) ∅ ∅ ∅ ∅;rw[dX]at hr2;refine⟨PP,hp,?_⟩;rw[hst]
 have hl:Eu [↑(.tup Q),none,none,none]=some (.rt (.lst PP)):=by
  refine bj (ρ':=[↑(.tup Q),some (.ow [eM]),none,none]) nofun (bj (ρ':=[↑(.tup Q),some (.ow PP),y2,y3]) ?_ nofun);rw[fD];have e1:M.forM (ai 2) Et ((List.range ((64:Int)-1).toNat).map λi:Nat=>D.int (1+(i:Nat))) _=_:=e1;generalize (List.range ((64:Int)-1).toNat).map (λi:Nat=>D.int (1+(i:Nat)))=XX at *;simp[hr2,e1]
 rw[hl];rfl
theorem VO{R:List bA}{hs:AJ}(hl:hs.length<=60)(hR:∀r∈R,∀x,r.2=some x->x<60)(hRl:R.length<=60){st:Nat}(hst:st<=hs.length):∃PP:AR,(∀p∈PP,FI p)/\Yu [.tup (R.map aW),.tup (hs.map av),.int st]=some (.lst PP):=by
 rw[Yu,Yg (by rfl)];have hst0:Yd 5 [.tup (R.map aW),.tup (hs.map av),.int (st:Int)]=[↑(.tup (R.map aW)),↑(.tup (hs.map av)),↑(.int st),none,none]:=rfl
 have lone:∀b:AN,∃p,FI p/\iO [.tup (R.map aW),.tup (hs.map av),.int st,ak b]=some p:=λb=>by
  obtain⟨ps,qs,h1,h2,h3⟩:=U8 R hl hR ∅ hst b;exact⟨_,.inr ⟨b,ps.map λx:Nat=>(x:Int),qs.map λx:Nat=>(x:Int),by simp;ac_nf,by simp;ac_nf,by rw[Qf,Qf];rfl⟩,h3⟩
 obtain⟨p0,f0,e0⟩:=lone none;have o2:=gc hs (c:=.tup (hs.map av)) rfl ∅ st hst false;simp only[av,Qo,if_false]at o2;have hSl:(aI hs st false).length<=60:=Qg (Qn _ _) (by simpa using hl)
 obtain⟨ρ1,e1,PP,y4,hp,hlen,rfl⟩:=Yv (gt:=ai 4) (fb:=Ew) nD (λpre ρ=>∃(PP:AR) (y4:AS),(∀p∈PP,FI p)/\PP.length=2+pre.length/\ρ=[↑(.tup (R.map aW)),↑(.tup (hs.map av)),↑(.int st),some (.ow PP),y4]) (aI hs st false) []
  [↑(.tup (R.map aW)),↑(.tup (hs.map av)),↑(.int st),some (.ow [eM,p0]),none] ⟨[eM,p0],none,λp hp=>by
   simp at hp;rcases hp with rfl|rfl
   .exact .inl rfl
   .exact f0,rfl,rfl⟩ (by
   rintro q i r ρ e ⟨PP,y4,hp,hlen,rfl⟩;have hq:=congrArg List.length e;rw[Qj,qz]at hq;obtain⟨p,f,g⟩:=lone (some i);have g:iO [.tup (R.map aW),.tup (hs.map av),.int st,nD i]=some p:=g;have hap:=e_ (l:=PP) (d:=p) ∅;refine⟨_,[↑(.tup (R.map aW)),↑(.tup (hs.map av)),↑(.int st),some (.ow (PP++[p])),↑(nD i)],rfl,?_,_,_,λx h=>?_,by simp[hlen];ac_nf,rfl⟩
   .generalize R.map aW=RR at *
    generalize hs.map av=HH,nD i=ii at *;simp[Ew,g,hap]
   .rcases qw h with h|h
    .exact hp x h
    .rw[List.mem_singleton]at h
     rw[h]
     exact f)
 refine⟨PP,hp,?_⟩;rw[hst0];have e0:iO [.tup (R.map aW),.tup (hs.map av),.int st,.non]=some p0:=e0;generalize R.map aW=RR,hs.map av=HH,(aI hs st false).map nD=SS at *
 have hl:Ex [↑(.tup RR),↑(.tup HH),↑(.int st),none,none]=some (.rt (.lst PP)):=by
  refine bj (ρ':=[↑(.tup RR),↑(.tup HH),↑(.int st),some (.ow [eM,p0]),none]) (by simp[e0]) (bj (ρ':=[↑(.tup RR),↑(.tup HH),↑(.int st),some (.ow PP),y4]) ?_ nofun);rw[fD];simp[o2,e1]
 rw[hl];rfl
inductive PK (n:Nat):Kd->D->Prop
 | e (rows:List cY):rows.length<=60->(∀r∈rows,r.1<n/\∀x,r.2.1=some x->x<r.1)->PK n .e (bZ "plan" [.tup (rows.map aB)])
 | s (rows:List b_):rows.length<=40->il 40 rows->(∀r∈rows,r.1<60)->PK n .s (bZ "sums" [.tup (rows.map az)])
 | i {k:Kd} (first:AG) (rows:List c6):(k=.i\/k=.n)->first.length<=20->(∀x∈first,x<60)->rows.length<=20->km 40 rows->PK n k (bZ "rows" [.tup (first.map nD),.tup (rows.map aL)])
def gM(n:Nat)(k:Kd)(r:Rl):Prop:=In k (if k=.s then 60 else n) r/\cz r
def GA{n:Nat}(hn:n<=60){k:Kd}{r:Rl}(h:In k n r)(s:cz r):gM n k r:=by
 refine⟨?_,s⟩;by_cases t:k=.s
 .subst t
  rw[if_pos rfl]
  cases r with
  | su b o=>exact⟨rfl,λx hx=>Qi (h.2 x hx) hn⟩
  | ei l=>cases h.1
  | im b o=>rcases h.1 with z|z<;>cases z
 .rw[if_neg t]
  exact h
section
variable {hs:AJ}{st:Nat}(hl:hs.length<=7)(hst:st<=hs.length)
include hl hst
theorem VP(k:Kd)(ns:AH):∃pp,PK hs.length k pp/\uW [aC k,.scr ns,.tup (hs.map av),.int st]=some pp:=by
 have hst0:Yd 5 [aC k,.scr ns,.tup (hs.map av),.int (st:Int)]=[↑(aC k),↑(.scr ns),↑(.tup (hs.map av)),↑(.int st),none]:=rfl;rw[uW,Yg (by rfl),hst0];obtain⟨c1,_,h1⟩:=ku ns 3 10;obtain⟨c2,_,h2⟩:=ku ns 3 11;have n3:((3:Nat):Int)=3:=rfl;have n10:((10:Nat):Int)=10:=rfl;have n11:((11:Nat):Int)=11:=rfl;rw[n3,n10]at h1;rw[n3,n11]at h2;by_cases N:k=.e
 .subst N
  obtain⟨rows,r1,r2,r3⟩:=Vk c1 (c:=.tup (hs.map av)) rfl ∅ hst;refine⟨_,.e rows r1 r2,?_⟩
  rw[show Ey _=some (.rt (bZ "plan" [.tup (rows.map aB)])) from pL ((cR nofun).trans (by
   generalize aC .e=kd;generalize rows.map aB=RR,hs.map av=HH,c1.map D.int=CC at *
   simp[h1,r3]))]
  rfl
 .have s1:∀{o},LQ [↑(aC k),↑(.scr ns),↑(.tup (hs.map av)),↑(.int st),none]=o->Ey [↑(aC k),↑(.scr ns),↑(.tup (hs.map av)),↑(.int st),none]=o:=λz=>bj (cu (by simp[N])) z
  by_cases t:k=.s
  .subst t
   obtain⟨rows,r1,r2,r3,r4⟩:=Vs c1 (c:=.tup (hs.map av)) rfl ∅ hst;refine⟨_,.s rows r1 r2 r3,?_⟩
   rw[s1 (o:=some (.rt (bZ "sums" [.tup (rows.map az)]))) (pL ((cR nofun).trans (by
    generalize aC .s=kd;generalize rows.map az=RR,hs.map av=HH,c1.map D.int=CC at *
    simp[h1,r4])))]
   rfl
  .have G:k=.i\/k=.n:=by cases k<;>simp at N t ⊢
   obtain⟨first,rows,r1,r2,r3,r4,r5⟩:=Vz c2 (hs:=hs) ∅ hst;refine⟨_,.i first rows G r1 r2 r3 r4,?_⟩
   rw[s1 (o:=some (.rt (bZ "rows" [.tup (first.map nD),.tup (rows.map aL)]))) (bj (cu (by simp[t])) (by
    generalize aC k=kd;generalize rows.map aL=RR at *
    generalize first.map nD=FF at *
    generalize hs.map av=HH,c2.map D.int=CC at *;refine bj (ρ':=[↑kd,↑(.scr ns),↑(.tup HH),↑(.int st),↑(.lst [.tup FF,.lst RR])]) ?_ ?_
    .simp[h2,r5]
    .simp))]
   rfl
theorem VQ{k:Kd}{pp:D}(hk:PK hs.length k pp)(c:Int)(hs2:st<hs.length):∃r,gM hs.length k r/\o8 [aC k,pp,.int c,.tup (hs.map av),.int st]=some (ax r):=by
 have hst0:Yd 6 [aC k,pp,.int c,.tup (hs.map av),.int (st:Int)]=[↑(aC k),↑pp,↑(.int c),↑(.tup (hs.map av)),↑(.int st),none]:=rfl;rw[o8,Yg (by rfl),hst0];obtain⟨v,hv0,hv⟩:=iP c 2049848353892358983;obtain⟨r,g1,g2,_,g4⟩:=Me k c st hs.length hs2 ∅;have hll:(hs.map av).length=hs.length:=qf ..
 have s0:∀{o},LS [↑(aC k),↑pp,↑(.int c),↑(.tup (hs.map av)),↑(.int st),↑(.int v)]=o->LU [↑(aC k),↑pp,↑(.int c),↑(.tup (hs.map av)),↑(.int st),none]=o:=λz=>bj (by
  generalize aC k=kd;generalize hs.map av=HH
  simp[hv]) z
 have fin:k≠.s->LR [↑(aC k),↑pp,↑(.int c),↑(.tup (hs.map av)),↑(.int st),↑(.int v)]=some (.rt (ax r)):=λt=>bj (cu (by simp[t])) (by
  generalize aC k=kd,hs.map av=HH,ax r=rr at *
  simp[hll,g4])
 cases hk with
 | e rows r1 r2=>
   by_cases h0:0<rows.length
   .obtain⟨l,l1,l2,l3⟩:=Vl (n:=hs.length) ∅ r2 h0 hs2 hv0
    refine⟨.ei l,⟨l1,l2⟩,?_⟩;have hrl:(rows.map aB).length=rows.length:=qf ..
    rw[s0 (o:=some (.rt (ax (.ei l)))) (pL ((cR (by
     simp[h0])).trans (by
     generalize aC .e=kd,hs.map av=HH,rows.map aB=RR,ax (.ei l)=rr at *
     have hcap:RR.length<=1000000:=by ac_nf
     simp[hll,l3,df,hcap])))]
    rfl
   .refine⟨r,GA ∅ g1 g2,?_⟩
    rw[s0 (o:=some (.rt (ax r))) (bj (cu (by
     have:rows=[]:=List.length_eq_zero_iff.mp ∅;subst this
     simp)) (fin (by decide)))]
    rfl
 | s rows r1 r2 r3=>
   obtain⟨ru,l3⟩:=Vt r1 r2 r3 v;refine⟨gn ru,⟨⟨rfl,λx hx=>Qb (Qc hx).1⟩,List.Pairwise.filter _ List.pairwise_lt_range⟩,?_⟩;have hru:ax (gn ru)=bN ru:=rfl;have hrl:(rows.map az).length=rows.length:=qf ..
   rw[s0 (o:=some (.rt (ax (gn ru)))) (bj (cu nofun) (pL ((cR nofun).trans (by
    rw[hru];generalize aC .s=kd,hs.map av=HH,rows.map az=RR,bN ru=rr at *
    have hcap:RR.length<=1000000:=by ac_nf
    simp[hll,l3,df,hcap]))))]
   rfl
 | i first rows G _ _ _ _=>
   have hN:k≠.e/\k≠.s:=by rcases G with rfl|rfl<;>exact⟨by decide,by decide⟩
   refine⟨r,GA ∅ g1 g2,?_⟩;rw[s0 (o:=some (.rt (ax r))) (bj (cu (by simp[hN.1])) (fin hN.2))];rfl
theorem VR{first:AG}{rows:List c6}(hr:rows.length<=20){k:Kd}(hk:k=.i\/k=.n){r:Rl}(h:In k hs.length r):∃b,o9 [bZ "rows" [.tup (first.map nD),.tup (rows.map aL)],ax r,.tup (hs.map av),.int st]=some (.bl b):=by
 have hst0:Yd 5 [bZ "rows" [.tup (first.map nD),.tup (rows.map aL)],ax r,.tup (hs.map av),.int (st:Int)]=[↑(bZ "rows" [.tup (first.map nD),.tup (rows.map aL)]),↑(ax r),↑(.tup (hs.map av)),↑(.int st),none]:=rfl;rw[o9,Yg (by rfl),hst0]
 have hi:In .i hs.length r:=by
  rcases hk with rfl|rfl
  .exact h
  .cases r with
   | ei l=>cases h.1
   | su b o=>cases h.1
   | im b o=>exact⟨.inl rfl,h.2⟩
 have he:=Vy (first:=first) (rows:=rows) ∅ (c:=.tup (hs.map av)) rfl ∅ hst
 generalize bE first rows (aI hs st false)=Ls at he
 have hc:=bP (fe:=Ez) (r:=[↑(ax r)]) (enc:=eE hs.length) (λl=>D.bl (so .i (aR hs.length l) r)) (l:=Ls) (λl _=>by
  have:=Vx (c:=eE hs.length l) (ev:=aR hs.length l) rfl (k:=.i) (r:=r) (by rw[show(aR hs.length l).length=hs.length by simp[aR]];exact hi);have k1:aC .i=.str "ifs":=rfl;rw[k1]at this;generalize eE hs.length l=ee,ax r=rr at *
  simp[Ez,this])
 refine⟨Ls.all λl=>so .i (aR hs.length l) r,?_⟩
 have hall:bW [.lst (Ls.map λl=>D.bl (so .i (aR hs.length l) r))]=some (.bl (Ls.all λl=>so .i (aR hs.length l) r)):=by
  have:=gC (λl=>so .i (aR hs.length l) r) Ls;rw[B6,this];simp[List.all_map,wn]
 generalize (Ls.all λl=>so .i (aR hs.length l) r)=bb,(Ls.map λl=>D.bl (so .i (aR hs.length l) r))=XX,Ls.map (eE hs.length)=YY,ax r=rr,rows.map aL=RR at *
 generalize first.map nD=FF at *
 generalize hs.map av=HH at *
 have hfin:LV [↑(bZ "rows" [.tup FF,.tup RR]),↑rr,↑(.tup HH),↑(.int st),none]=some (.rt (.bl bb)):=by
  refine bj (ρ':=[↑(bZ "rows" [.tup FF,.tup RR]),↑rr,↑(.tup HH),↑(.int st),↑(.lst YY)]) ?_ ?_
  .simp[he,FC]
  .simp[hc,aq,hall]
 rw[hfin];rfl
end
section
variable {hs:AJ}{st:Nat}(hl:hs.length<=7)(hst:st<hs.length)
include hl hst
theorem GB{k:Kd}{pp:D}(hk:PK hs.length k pp)(c:Int){R:List Rl}(hR:∀r∈R,gM hs.length k r)(hRl:R.length<=100)(a2 a5 y8:AS):∃(R':List Rl) (z8:AS),(∀r∈R',gM hs.length k r)/\R'.length<=R.length+1/\uX [↑(aC k),↑pp,a2,↑(.tup (hs.map av)),↑(.int st),a5,some (.ow (R.map ax)),↑(.int c),y8]=some (.nx [↑(aC k),↑pp,a2,↑(.tup (hs.map av)),↑(.int st),a5,some (.ow (R'.map ax)),↑(.int c),z8]):=by
 obtain⟨r,g1,g2⟩:=VQ hl (Nat.le_of_lt hst) hk c hst;have hap:=e_ (l:=R.map ax) (d:=ax r) (by rw[qf];ac_nf)
 have hmem:∀x∈R++[r],gM hs.length k x:=λx hx=>by
  rcases qw hx with hx|hx
  .exact hR x hx
  .rw[List.mem_singleton.mp hx]
   exact g1
 have s1:ao 8 (cC (Yb (ab 0) (Yb (ab 1) (Yb (ab 7) (Yb (ab 3) (Yb (ab 4) ae))))) o8) [↑(aC k),↑pp,a2,↑(.tup (hs.map av)),↑(.int st),a5,some (.ow (R.map ax)),↑(.int c),y8]=some (.nx [↑(aC k),↑pp,a2,↑(.tup (hs.map av)),↑(.int st),a5,some (.ow (R.map ax)),↑(.int c),↑(ax r)]):=by
  generalize aC k=kd,hs.map av=HH,R.map ax=RR,ax r=rr at *;simp[g2]
 have ap:bp 6 (ab 8) aT [↑(aC k),↑pp,a2,↑(.tup (hs.map av)),↑(.int st),a5,some (.ow (R.map ax)),↑(.int c),↑(ax r)]=some (.nx [↑(aC k),↑pp,a2,↑(.tup (hs.map av)),↑(.int st),a5,some (.ow ((R++[r]).map ax)),↑(.int c),↑(ax r)]):=by
  rw[Qk,List.map_singleton];generalize aC k=kd,hs.map av=HH,R.map ax=RR,ax r=rr at *;simp[hap]
 have other:∀{x:String}{ps:AR},pp=bZ x ps->(Str.ofString x==Str.ofString "rows")=false->∃(R':List Rl) (z8:AS),(∀r∈R',gM hs.length k r)/\R'.length<=R.length+1/\uX [↑(aC k),↑pp,a2,↑(.tup (hs.map av)),↑(.int st),a5,some (.ow (R.map ax)),↑(.int c),y8]=some (.nx [↑(aC k),↑pp,a2,↑(.tup (hs.map av)),↑(.int st),a5,some (.ow (R'.map ax)),↑(.int c),z8]):=λ{x ps} e hx=>by
  refine⟨R++[r],_,hmem,by simp,bj s1 ((cR ?_).trans ap)⟩;subst e;have:=dw hx true;simp[this]
 cases hk with
 | e rows _ _=>exact other rfl (by decide +kernel)
 | s rows _ _ _=>exact other rfl (by decide +kernel)
 | i first rows G q1 q2 q3 q4=>
   have hIn:In k hs.length r:=by
    have:=g1.1
    rwa [if_neg (by rcases G with rfl|rfl<;>decide)]at this
   obtain⟨b,hb⟩:=VR hl (Nat.le_of_lt hst) (first:=first) q3 G hIn
   have cond:dO (b2 (b2 (aa 1) (Zb 0) aj) (kD (.str "rows")) (ay true)) (b1 (cC (Yb (ab 1) (Yb (ab 8) (Yb (ab 3) (Yb (ab 4) ae)))) o9) aN) [↑(aC k),↑(bZ "rows" [.tup (first.map nD),.tup (rows.map aL)]),a2,↑(.tup (hs.map av)),↑(.int st),a5,some (.ow (R.map ax)),↑(.int c),↑(ax r)]=some b:=by
    have:=eC "rows" true;simp only[Bool.not_true]at this;clear s1 ap other hap g2;generalize aC k=kd,hs.map av=HH,R.map ax=RR,ax r=rr at *
    generalize first.map nD=FF at *
    generalize rows.map aL=WW at *;simp[this,hb]
   cases b with
   | true=>exact⟨R++[r],_,hmem,by simp,bj s1 ((cR cond).trans ap)⟩
   | false=>exact⟨R,_,hR,by ac_nf,bj s1 (cu cond)⟩
theorem VS{k:Kd}{pp:D}(hk:PK hs.length k pp)(ns:AH){v:Int}(hv:0<=v):∃R:List Rl,(∀r∈R,gM hs.length k r)/\R.length<=7/\uY [aC k,pp,.scr ns,.tup (hs.map av),.int st,.int v]=some (Yt k R):=by
 have hst0:Yd 9 [aC k,pp,.scr ns,.tup (hs.map av),.int (st:Int),.int v]=[↑(aC k),↑pp,↑(.scr ns),↑(.tup (hs.map av)),↑(.int st),↑(.int v),none,none,none]:=rfl;rw[uY,Yg (by rfl),hst0];obtain⟨cells,hcl,hcut⟩:=ku ns 11 17;have n11:((11:Nat):Int)=11:=rfl;have n17:((17:Nat):Int)=17:=rfl;rw[n11,n17]at hcut
 obtain⟨ρ1,e1,R,y7,y8,hR,hRl,rfl⟩:=Yv (gt:=ai 7) (fb:=uX) D.int (λpre ρ=>∃(R:List Rl) (y7 y8:AS),(∀r∈R,gM hs.length k r)/\R.length<=pre.length/\ρ=[↑(aC k),↑pp,↑(.scr ns),↑(.tup (hs.map av)),↑(.int st),↑(.int v),some (.ow (R.map ax)),y7,y8]) cells []
  [↑(aC k),↑pp,↑(.scr ns),↑(.tup (hs.map av)),↑(.int st),↑(.int v),some (.ow []),none,none] ⟨[],none,none,λ_ h=>(nomatch h),qv _,rfl⟩ (by
   rintro q c r ρ e ⟨R,y7,y8,hR,hRl,rfl⟩;have hq:=congrArg List.length e;rw[Qj,qz]at hq;obtain⟨R',z8,g1,g2,g3⟩:=GB hl hst hk c hR ∅ (↑(.scr ns)) (↑(.int v)) y8
   exact⟨_,_,rfl,g3,R',_,_,g1,by rw[qz];exact Qg g2 (Nat.succ_le_succ hRl),rfl⟩)
 rw[Qj]at hRl
 have fin:∀(R:List Rl),LW [↑(aC k),↑pp,↑(.scr ns),↑(.tup (hs.map av)),↑(.int st),↑(.int v),some (.ow (R.map ax)),y7,y8]=some (.rt (Yt k R)):=λR=>by
  have hb:Yt k R=.tup [aC k,.tup (R.map ax)]:=rfl;rw[hb];generalize aC k=kd;generalize hs.map av=HH;generalize R.map ax=RR;simp
 have run:∀{o},LX [↑(aC k),↑pp,↑(.scr ns),↑(.tup (hs.map av)),↑(.int st),↑(.int v),some (.ow (R.map ax)),y7,y8]=o->LY [↑(aC k),↑pp,↑(.scr ns),↑(.tup (hs.map av)),↑(.int st),↑(.int v),none,none,none]=o:=λz=>by
  refine bj (ρ':=[↑(aC k),↑pp,↑(.scr ns),↑(.tup (hs.map av)),↑(.int st),↑(.int v),some (.ow []),none,none]) (by generalize aC k=kd;generalize hs.map av=HH;simp) (bj ?_ z);rw[fD];generalize aC k=kd,hs.map av=HH,cells.map D.int=CC at *;simp[hcut,e1]
 by_cases h4:0<v%4
 .have c17:=u9 ns 17 17 rfl
  generalize ns.getD 17 0=x at c17;obtain⟨r,g1,g2,_,g4⟩:=Me k x st hs.length hst ∅
  have hp:(0:Int)<(R.length:Int)+1:=by ac_nf
  obtain⟨i,hi⟩:∃i:Nat,v/4%((R.length:Int)+1)=(i:Int):=⟨_,(Int.toNat_of_nonneg (Int.emod_nonneg _ ∅)).symm⟩
  have hlt:=Int.emod_lt_of_pos (v/4) hp
  have hm:aD (.int (v/4)) (.int ((R.length:Int)+1))=some (.int (i:Int)):=by rw[<-hi];exact k9 hp
  have hins:fV (R.map ax) (.int (i:Int)) (ax r)=some ((R.take i++r::R.drop i).map ax):=by
   unfold fV
   have hb:(decide (0<=(i:Int))&&decide ((i:Int)<=((R.map ax).length:Int))&&decide ((R.map ax).length<aK))=true:=by
    rw[qf]
    have h1:(i:Int)<=(R.length:Int):=by ac_nf
    have h2:R.length<1000000:=by ac_nf
    simp[h1,h2]
   show(if _ then _ else _)=_;rw[if_pos hb];simp
  refine⟨R.take i++r::R.drop i,λx hx=>?_,by simp;ac_nf,?_⟩
  .rcases qw hx with hx|hx
   .exact hR x (List.mem_of_mem_take hx)
   .rcases qu hx with rfl|hx
    .exact GA ∅ g1 g2
    .exact hR x (List.mem_of_mem_drop hx)
  .rw[run (o:=some (.rt (Yt k (R.take i++r::R.drop i)))) (bj ((cR (by
    generalize aC k=kd;generalize hs.map av=HH;generalize R.map ax=RR
    simp[h4])).trans (by
    have hll:(hs.map av).length=hs.length:=qf ..;have hrl:(R.map ax).length=R.length:=qf ..;generalize (R.take i++r::R.drop i).map ax=XX at *;clear run fin e1;generalize aC k=kd,hs.map av=HH,R.map ax=RR,ax r=rr at *;rw[B7]
    simp[c17,hll,g4,hrl,hm,hins])) (fin _))]
   rfl
 .refine⟨R,hR,by ac_nf,?_⟩
  rw[run (o:=some (.rt (Yt k R))) (bj (cu (by
   generalize aC k=kd;generalize hs.map av=HH;generalize R.map ax=RR
   simp[h4])) (fin R))]
  rfl
end
def cS(s:aP):AH:=[(s.1:Int),if s.2 then 1 else 0]
def cP(p:aP×aP):List AH:=[cS p.1,cS p.2]
def bO(p:aP×aP):D:=.tup [af p.1,af p.2]
theorem pM{s t:aP}(h:cS s=cS t):s=t:=by
 obtain⟨a,p⟩:=s;obtain⟨b,q⟩:=t;unfold cS at h;injection h with h1 h2;injection h2 with h2 _;have h1:(a:Int)=b:=h1
 have h2:(if p=true then (1:Int)else 0)=if q=true then 1 else 0:=h2
 refine Prod.ext (by show a=b;ac_nf) ?_
 cases p<;>cases q<;>first|rfl|exact absurd h2 (by decide)
def M3(s:aP):fW (af s)=some (cS s):=rfl
theorem GC:∀l:AZ,fA (l.map af)=some (l.map cS)
 | []=>rfl
 | s::l=>by rw[Qd,fA,M3,GC l];rfl
theorem pN:∀l:List (aP×aP),fg (l.map bO)=some (l.map cP)
 | []=>rfl
 | p::l=>by rw[Qd,fg,pN l];rfl
theorem M4{W:aP->D}:∀{l:AZ}{s:aP},s∈l->bf (l.map cS) (l.map W) (cS s)=some (W s)
 | a::l,s,h=>by
   rw[Qd,Qd,bf];by_cases e:cS a=cS s
   .rw[if_pos e,pM e]
   .rw[if_neg e]
    rcases qu h with rfl|h
    .exact absurd rfl e
    .exact M4 h
theorem M5{α β:Type}[DecidableEq α]:∀{ks:List α}{vs:List β}{x:α},vs.length=ks.length->x∈ks->∃v∈vs,bf ks vs x=some v
 | k::ks,v::vs,x,hl,h=>by
   rw[bf];by_cases e:k=x
   .exact⟨v,qh,by rw[if_pos e]⟩
   .rcases qu h with rfl|h
    .exact absurd rfl e
    .obtain⟨w,h1,h2⟩:=M5 (vs:=vs) (by simpa using hl) h
     exact⟨w,qg _ h1,by rw[if_neg e];exact h2⟩
 | k::ks,[],x,hl,_=>by cases hl
theorem M6{α β:Type}[DecidableEq α]{x:α}{y z:β}:∀{ks:List α}{vs:List β},z∈aZ ks vs x y->z∈vs\/z=y
 | [],vs,h=>by cases vs<;>exact .inl h
 | k::ks,[],h=>.inl h
 | k::ks,v::vs,h=>by
   rw[aZ]at h
   split at h
   .rcases qu h with h|h
    .exact .inr h
    .exact .inl (qg _ h)
   .rcases qu h with rfl|h
    .exact .inl qh
    .rcases M6 h with h|h
     .exact .inl (qg _ h)
     .exact .inr h
def Rv(d:D):Prop:=∃o:AZ,o.length<=200/\d=.tup (o.map af)
def Fd(m:Nat)(ks vs:AR):Prop:=∃KK:List (aP×aP),ks=KK.map bO/\vs.length=KK.length/\KK.length<=m/\∀v∈vs,Rv v
theorem GE{m:Nat}{ks vs:AR}(h:Fd m ks vs)(hm:m<100000){p:aP×aP}{d:D}(hd:Rv d):∃ks' vs',lh ks vs (bO p) d=some (ks',vs')/\Fd (m+1) ks' vs'/\ks'≠[]:=by
 obtain⟨KK,rfl,hl,hk,hv⟩:=h
 have hcap:vs.length<aK:=by show vs.length<1000000;ac_nf
 have e:lh (KK.map bO) vs (bO p) d=some (if cP p∈KK.map cP then (KK.map bO,aZ (KK.map cP) vs (cP p) d)else (KK.map bO++[bO p],vs++[d])):=by
  unfold lh;rw[pN];show(if vs.length<aK then _ else _)=_;rw[if_pos hcap];rfl
 rw[e];by_cases hm:cP p∈KK.map cP
 .rw[if_pos hm]
  refine⟨_,_,rfl,⟨KK,rfl,by rw[mK,hl],by ac_nf,λv hvm=>?_⟩,λz=>?_⟩
  .rcases M6 hvm with h|h
   .exact hv v h
   .rw[h]
    exact hd
  .have:KK=[]:=List.map_eq_nil_iff.mp z
   subst this;cases hm
 .rw[if_neg hm]
  refine⟨_,_,rfl,⟨KK++[p],by rw[Qk];rfl,by rw[qz,qz,hl];rfl,by rw[qz];exact Nat.succ_le_succ hk,λv hvm=>?_⟩,λz=>by simp at z⟩;rcases qw hvm with h|h
  .exact hv v h
  .rw[List.mem_singleton.mp h]
   exact hd
section
variable {L:AY}(hL:∀l∈L,d8 l)(hSL:SL.length<=14)
abbrev pO(L:AY)(SL:AZ)(s:aP):AZ:=SL.filter λt=>decide (t∈bL L s)
abbrev cI(L:AY)(SL:AZ)(s:aP):D:=.lst ((pO L SL s).map af)
include hL hSL in
theorem GF(hn:SL.Nodup)(a1 a2 a6 a7 a8 a9 a10 a11:AS):∃z5,M.forM (ai 5) o7 (SL.map af) [↑(br L),a1,a2,↑(.lst (SL.map af)),some (.od true [] []),none,a6,a7,a8,a9,a10,a11]=some (.nx [↑(br L),a1,a2,↑(.lst (SL.map af)),some (.od true (SL.map af) (SL.map (cI L SL))),z5,a6,a7,a8,a9,a10,a11]):=by
 obtain⟨ρ1,e1,z5,rfl⟩:=Yv (gt:=ai 5) (fb:=o7) af (λpre ρ=>∃z5,ρ=[↑(br L),a1,a2,↑(.lst (SL.map af)),some (.od true (pre.map af) (pre.map (cI L SL))),z5,a6,a7,a8,a9,a10,a11]) SL []
  [↑(br L),a1,a2,↑(.lst (SL.map af)),some (.od true [] []),none,a6,a7,a8,a9,a10,a11] ⟨_,rfl⟩ (by
   rintro q s r ρ e ⟨z5,rfl⟩
   have hc:=dv (fc:=Ek) (fe:=Lu) (r:=[↑(br L),↑(af s)]) (enc:=af) (λt=>decide (t∈bL L s)) af (l:=SL) (λt _=>by
    have:=UZ hL s t;generalize br L=bk,af s=ss,af t=tt at *
    simp[Ek,this]) (λ_ _ _=>rfl)
   have hq:=congrArg List.length e;rw[Qj,qz]at hq;rw[Qj]at e
   have hnq:cS s∉q.map cS:=λh=>by
    obtain⟨t,ht,z⟩:=qy h;have:=pM z;subst this;rw[e,List.nodup_append]at hn;exact hn.2.2 _ ht _ qh rfl
   have hput:gZ (q.map af) (q.map (cI L SL)) (af s) (cI L SL s)=some ((q++[s]).map af,(q++[s]).map (cI L SL)):=by
    unfold gZ;rw[GC,M3];show(if (q.map (cI L SL)).length<aK then _ else _)=_;rw[if_pos (by rw[qf];show q.length<1000000;ac_nf),if_neg hnq,Qk,Qk];rfl
   refine⟨_,[↑(br L),a1,a2,↑(.lst (SL.map af)),some (.od true ((q++[s]).map af) ((q++[s]).map (cI L SL))),↑(af s),a6,a7,a8,a9,a10,a11],rfl,?_,_,rfl⟩;have hw:cI L SL s=.lst ((SL.filter λt=>decide (t∈bL L s)).map af):=rfl;rw[hw]at hput;generalize (SL.filter λt=>decide (t∈bL L s)).map af=XX,SL.map af=SD,(q++[s]).map af=Q1,(q++[s]).map (cI L SL)=Q2,q.map af=Q3,q.map (cI L SL)=Q4,af s=ss,br L=bk at *;have hgo:∀(a b c d e f g h i j k:AS),jv 4 [a,b,c,d,some (.od true Q3 Q4),e,f,g,h,i,j,k]=some (Q3,Q4):=λ_ _ _ _ _ _ _ _ _ _ _=>rfl
   simp[o7,g0,hc,aq,hgo,hput])
 exact⟨z5,e1⟩
end
abbrev bB(o:AZ):D:=.tup (o.map af)
def Rs(SL:AZ)(b:Nat)(roads:AY):Prop:=∀o∈roads,0<o.length/\o.length<=b/\∀s∈o,s∈SL
section
variable {L:AY}(hSL:SL.length<=14)
include hSL
theorem GG{b m kk:Nat}{roads:AY}{seen:AZ}{o:AZ}(hb:b<=20)(hm:m<=300)(h1:roads.length<=m)(h2:seen.length<=m)(hR:Rs SL (b+1) roads)(ho:roads[kk]?=some o)(hol:o.length<=b)(hoS:∀s∈o,s∈SL)(l:AZ)(hl:l.length<=14)(hlS:∀s∈l,s∈SL)(a0 a1 a2 a3 a4 a5 a6 y10 a11:AS):
 ∃(roads':AY) (seen':AZ) (z10:AS),roads'.length<=m+14/\seen'.length<=m+14/\Rs SL (b+1) roads'/\0<roads'.length/\M.forM (ai 10) El (l.map af) [a0,a1,a2,a3,a4,a5,a6,some (.ow (roads.map bB)),some (.ow (seen.map af)),↑(.int kk),y10,a11]=some (.nx [a0,a1,a2,a3,a4,a5,a6,some (.ow (roads'.map bB)),some (.ow (seen'.map af)),↑(.int kk),z10,a11]):=by
 obtain⟨ρ1,e1,roads',seen',z10,g1,g2,g3,g4,rfl⟩:=Yv (gt:=ai 10) (fb:=El) af (λpre ρ=>∃(roads':AY) (seen':AZ) (z10:AS),roads'.length<=m+pre.length/\seen'.length<=m+pre.length/\Rs SL (b+1) roads'/\roads'[kk]?=some o/\ρ=[a0,a1,a2,a3,a4,a5,a6,some (.ow (roads'.map bB)),some (.ow (seen'.map af)),↑(.int kk),z10,a11]) l []
  [a0,a1,a2,a3,a4,a5,a6,some (.ow (roads.map bB)),some (.ow (seen.map af)),↑(.int kk),y10,a11] ⟨roads,seen,y10,h1,h2,hR,ho,rfl⟩ (by
   rintro q t r ρ e ⟨roads',seen',z10,g1,g2,g3,g4,rfl⟩;have hq:=congrArg List.length e;rw[Qj,qz,qt]at hq;have htS:t∈SL:=hlS t (by rw[Qj]at e;rw[e];simp);have hin:=oq (c:=.lst (seen'.map af)) t seen' true rfl;simp only[if_true]at hin;by_cases ht:t∈seen'
   .refine⟨_,[a0,a1,a2,a3,a4,a5,a6,some (.ow (roads'.map bB)),some (.ow (seen'.map af)),↑(.int kk),↑(af t),a11],rfl,?_,roads',seen',_,by rw[qz];ac_nf,by rw[qz];ac_nf,g3,g4,rfl⟩
    refine(cu ?_).trans rfl;generalize roads'.map bB=RR,seen'.map af=SS,af t=tt at *;simp[hin,ht]
   .have hat:aX (roads'.map bB) (kk:Int)=some (bB o):=by
     obtain⟨hk,e2⟩:=qo g4;rw[dJ,f_ hk,e2];rfl
    have hcat:nz (bB o) (.tup [af t])=some (bB (o++[t])):=by
     rw[PF,if_pos (by rw[qf];show o.length+1<=1000000;ac_nf)];show some (D.tup (o.map af++[af t]))=some (.tup ((o++[t]).map af));rw[Qk];rfl
    have a1':=e_ (l:=seen'.map af) (d:=af t) (by rw[qf];ac_nf);have a2':=e_ (l:=roads'.map bB) (d:=bB (o++[t])) (by rw[qf];ac_nf);refine⟨_,[a0,a1,a2,a3,a4,a5,a6,some (.ow ((roads'++[o++[t]]).map bB)),some (.ow ((seen'++[t]).map af)),↑(.int kk),↑(af t),a11],rfl,?_,roads'++[o++[t]],seen'++[t],_,by rw[qz,qz];simp;ac_nf,by rw[qz,qz];simp;ac_nf,λx hx=>?_,?_,rfl⟩
    .rw[Qk,Qk,List.map_singleton,List.map_singleton]
     generalize roads'.map bB=RR,seen'.map af=SS,bB (o++[t])=oo,bB o=od,af t=tt at *;refine(cR (by simp[hin,ht])).trans (bj (ρ':=[a0,a1,a2,a3,a4,a5,a6,some (.ow RR),some (.ow (SS++[tt])),↑(.int kk),↑tt,a11]) (by simp[a1']) ?_);simp[hat,hcat,a2']
    .rcases qw hx with hx|hx
     .exact g3 x hx
     .rw[List.mem_singleton.mp hx]
      refine⟨by simp,by simp;ac_nf,λs hs=>?_⟩;rcases qw hs with hs|hs
      .exact hoS s hs
      .rw[List.mem_singleton.mp hs]
       exact htS
    .obtain⟨hk,e2⟩:=qo g4
     rw[List.getElem?_append_left hk]
     exact g4)
 rw[Qj]at g1 g2;exact⟨roads',seen',z10,by ac_nf,by ac_nf,g3,by have:=(qo g4).1;ac_nf,e1⟩
theorem GH{s:aP}(hs:s∈SL)(a0 a1 a2 a6 y9 y10 a11:AS):∃(roads:AY) (z8 z9 z10:AS),roads.length<=300/\Rs SL 15 roads/\0<roads.length/\
 M.forM (ai 9) Em ((List.range' 0 SL.length).map λi:Nat=>D.int (i:Int)) [a0,a1,a2,↑(.lst (SL.map af)),some (.od true (SL.map af) (SL.map (cI L SL))),↑(af s),a6,some (.ow [bB [s]]),some (.ow [af s]),y9,y10,a11]=some (.nx [a0,a1,a2,↑(.lst (SL.map af)),some (.od true (SL.map af) (SL.map (cI L SL))),↑(af s),a6,some (.ow (roads.map bB)),z8,z9,z10,a11]):=by
 obtain⟨ρ1,e1,roads,seen,z9,z10,g1,g2,g3,g4,rfl⟩:=Yv (gt:=ai 9) (fb:=Em) (λi:Nat=>D.int (i:Int)) (λpre ρ=>∃(roads:AY) (seen:AZ) (z9 z10:AS),roads.length<=1+14*pre.length/\seen.length<=1+14*pre.length/\Rs SL (pre.length+1) roads/\0<roads.length/\ρ=[a0,a1,a2,↑(.lst (SL.map af)),some (.od true (SL.map af) (SL.map (cI L SL))),↑(af s),a6,some (.ow (roads.map bB)),some (.ow (seen.map af)),z9,z10,a11]) (List.range' 0 SL.length) []
  [a0,a1,a2,↑(.lst (SL.map af)),some (.od true (SL.map af) (SL.map (cI L SL))),↑(af s),a6,some (.ow [bB [s]]),some (.ow [af s]),y9,y10,a11] ⟨[[s]],[s],y9,y10,by simp,by simp,λo ho=>by
   rw[List.mem_singleton.mp ho]
   exact⟨by simp,by simp,λt ht=>by rw[List.mem_singleton.mp ht];exact hs⟩,by simp,rfl⟩ (by
   rintro q kk r ρ e ⟨roads,seen,z9,z10,g1,g2,g3,g4,rfl⟩;have hq:=congrArg List.length e;rw[Qj,List.length_range',qz,qt]at hq
   have up:Rs SL (q.length+1+1) roads:=λo ho=>⟨(g3 o ho).1,Nat.le_succ_of_le (g3 o ho).2.1,(g3 o ho).2.2⟩
   rw[qz,w4];have hrl:(roads.map bB).length=roads.length:=qf ..;by_cases hk:kk<roads.length
   .obtain⟨o,ho⟩:∃o,roads[kk]?=some o:=⟨_,qr hk⟩
    have hom:o∈roads:=List.mem_of_getElem? ho;obtain⟨o1,o2,o3⟩:=g3 o hom
    have hlast:cy o∈SL:=o3 _ (by
     unfold cy cq;rw[List.getD_eq_getElem?_getD,qr ∅]
     exact List.getElem_mem _)
    have hat:aX (roads.map bB) (kk:Int)=some (bB o):=by
     obtain⟨hk,e2⟩:=qo ho;rw[dJ,f_ hk,e2];rfl
    have hla:=kg o1
    have hget:fX (.dct true (SL.map af) (SL.map (cI L SL))) (af (cy o))=some (cI L SL (cy o)):=by
     show(fA (SL.map af)).bind _=_;rw[GC];exact M4 hlast
    have hwl:(pO L SL (cy o)).length<=14:=Qg (Qn _ _) hSL;obtain⟨roads',seen',z10',p1,p2,p3,p4,p5⟩:=GG hSL (b:=q.length+1) (m:=1+14*q.length) ∅ ∅ g1 g2 up ho o2 o3 (pO L SL (cy o)) hwl (λt ht=>(Qc ht).1) a0 a1 a2 (↑(.lst (SL.map af))) (some (.od true (SL.map af) (SL.map (cI L SL)))) (↑(af s)) a6 z10 a11;refine⟨_,_,rfl,?_,roads',seen',↑(.int kk),z10',by ac_nf,by ac_nf,p3,p4,rfl⟩;have hwd:cI L SL (cy o)=.lst ((pO L SL (cy o)).map af):=rfl;rw[hwd]at hget;generalize (pO L SL (cy o)).map af=WW,SL.map (cI L SL)=WD,SL.map af=SD,roads'.map bB=R2,seen'.map af=S2,roads.map bB=R1,seen.map af=S1 at *;have hrd:bB o=.tup (o.map af):=rfl;rw[hrd]at hat;generalize o.map af=OO,af (cy o)=la,af s=ss at *;refine(cR ?_).trans ?_
    .simp[hrl,hk]
    .rw[fD]
     simp[hat,hla,hget,p5]
   .refine⟨_,[a0,a1,a2,↑(.lst (SL.map af)),some (.od true (SL.map af) (SL.map (cI L SL))),↑(af s),a6,some (.ow (roads.map bB)),some (.ow (seen.map af)),↑(.int kk),z10,a11],rfl,?_,roads,seen,_,_,by ac_nf,by ac_nf,up,g4,rfl⟩
    refine(cu ?_).trans rfl;generalize SL.map (cI L SL)=WD,SL.map af=SD,roads.map bB=R1,seen.map af=S1,af s=ss at *
    have hk':¬(kk:Int)<(roads.length:Int):=by ac_nf
    simp[hrl,hk,hk'])
 rw[Qj,List.length_range']at g1 g3;exact⟨roads,_,z9,z10,by ac_nf,λo ho=>⟨(g3 o ho).1,by have:=(g3 o ho).2.1;ac_nf,(g3 o ho).2.2⟩,g4,e1⟩
end
theorem GI{SL:AZ}{s:aP}{roads:AY}(hR:Rs SL 15 roads)(h0:0<roads.length)(hr:roads.length<=300){m:Nat}(hm:m<=50000){ks vs:AR}(hf:Fd m ks vs)(a0 a1 a2 a3 a4 a7 a8 a9 a10 y11:AS):∃(ks' vs':AR) (z11:AS),Fd (m+300) ks' vs'/\ks'≠[]/\
 M.forM (ai 11) uU (roads.map bB) [a0,a1,a2,a3,a4,↑(af s),some (.od true ks vs),a7,a8,a9,a10,y11]=some (.nx [a0,a1,a2,a3,a4,↑(af s),some (.od true ks' vs'),a7,a8,a9,a10,z11]):=by
 obtain⟨ρ1,e1,ks',vs',z11,g1,g2,rfl⟩:=Yv (gt:=ai 11) (fb:=uU) bB (λpre ρ=>∃(ks' vs':AR) (z11:AS),Fd (m+pre.length) ks' vs'/\(ks'≠[]\/pre=[])/\ρ=[a0,a1,a2,a3,a4,↑(af s),some (.od true ks' vs'),a7,a8,a9,a10,z11]) roads []
  [a0,a1,a2,a3,a4,↑(af s),some (.od true ks vs),a7,a8,a9,a10,y11] ⟨ks,vs,y11,hf,.inr rfl,rfl⟩ (by
   rintro q o r ρ e ⟨ks',vs',z11,g1,g2,rfl⟩;have hq:=congrArg List.length e;rw[Qj,qz,qt]at hq;obtain⟨o1,o2,o3⟩:=hR o (by rw[Qj]at e;rw[e];simp);obtain⟨ks2,vs2,p1,p2,p3⟩:=GE g1 ∅ (p:=(s,cy o)) (d:=bB o) ⟨o,by ac_nf,rfl⟩;have hla:=kg o1;refine⟨_,[a0,a1,a2,a3,a4,↑(af s),some (.od true ks2 vs2),a7,a8,a9,a10,↑(bB o)],rfl,?_,ks2,vs2,_,by rw[qz];exact p2,.inl p3,rfl⟩;have hpk:bO (s,cy o)=.tup [af s,af (cy o)]:=rfl;have hrd:bB o=.tup (o.map af):=rfl;rw[hpk,hrd]at p1;rw[hrd];generalize o.map af=OO,af (cy o)=la,af s=ss at *;have hgo:jv 6 [a0,a1,a2,a3,a4,↑ss,some (.od true ks' vs'),a7,a8,a9,a10,↑(.tup OO)]=some (ks',vs'):=rfl
   simp[uU,hla,hgo,p1])
 refine⟨ks',vs',z11,?_,g2.resolve_right λz=>?_,e1⟩
 .obtain⟨KK,k1,k2,k3,k4⟩:=g1
  exact⟨KK,k1,k2,by rw[Qj]at k3;ac_nf,k4⟩
 .rw[Qj]at z
  rw[z]at h0;cases h0
noncomputable def c7(st n:Nat):AZ:=((List.range (n-st)).map λi=>((st+i,false):aP))++(List.range (n-st)).map λi=>((st+i,true):aP)
theorem GJ(st n:Nat):(c7 st n).length=2*(n-st):=by simp[c7];lia
theorem GK(st n:Nat):(c7 st n).Nodup:=by
 have h:∀b:Bool,((List.range (n-st)).map λi=>((st+i,b):aP)).Nodup:=λb=>by
  rw[List.nodup_iff_pairwise_ne,List.pairwise_map];refine List.nodup_range.imp λ{x y} hxy z=>hxy ?_;have:=congrArg Prod.fst z;have:st+x=st+y:=this;ac_nf
 unfold c7;rw[List.nodup_append];refine⟨h false,h true,λx hx y hy z=>?_⟩;obtain⟨i,_,rfl⟩:=qy hx;obtain⟨j,_,rfl⟩:=qy hy;cases congrArg Prod.snd z
section
variable {L:AY}(hL:∀l∈L,d8 l)
theorem GL{SL:AZ}(hSL:SL.length<=14)(h0:0<SL.length)(a0 a1 a2 a5:AS):∃(ks vs:AR) (z5 z7 z8 z9 z10 z11:AS),Fd 5000 ks vs/\ks≠[]/\
 M.forM (ai 5) En (SL.map af) [a0,a1,a2,↑(.lst (SL.map af)),some (.od true (SL.map af) (SL.map (cI L SL))),a5,some (.od true [] []),none,none,none,none,none]=some (.nx [a0,a1,a2,↑(.lst (SL.map af)),some (.od true (SL.map af) (SL.map (cI L SL))),z5,some (.od true ks vs),z7,z8,z9,z10,z11]):=by
 obtain⟨ρ1,e1,ks,vs,z5,z7,z8,z9,z10,z11,g1,g2,rfl⟩:=Yv (gt:=ai 5) (fb:=En) af (λpre ρ=>∃(ks vs:AR) (z5 z7 z8 z9 z10 z11:AS),Fd (300*pre.length) ks vs/\(ks≠[]\/pre=[])/\ρ=[a0,a1,a2,↑(.lst (SL.map af)),some (.od true (SL.map af) (SL.map (cI L SL))),z5,some (.od true ks vs),z7,z8,z9,z10,z11]) SL []
  [a0,a1,a2,↑(.lst (SL.map af)),some (.od true (SL.map af) (SL.map (cI L SL))),a5,some (.od true [] []),none,none,none,none,none] ⟨[],[],a5,none,none,none,none,none,⟨[],rfl,rfl,by simp,λ_ h=>(nomatch h)⟩,.inr rfl,rfl⟩ (by
   rintro q s r ρ e ⟨ks,vs,z5,z7,z8,z9,z10,z11,g1,g2,rfl⟩;have hq:=congrArg List.length e;rw[Qj,qz,qt]at hq
   have hs:s∈SL:=by rw[Qj]at e;rw[e];simp
   obtain⟨roads,w8,w9,w10,r1,r2,r3,r4⟩:=GH (L:=L) hSL hs a0 a1 a2 (some (.od true ks vs)) z9 z10 z11;obtain⟨ks',vs',w11,f1,f2,f3⟩:=GI (s:=s) r2 r3 r1 (m:=300*q.length) ∅ g1 a0 a1 a2 (↑(.lst (SL.map af))) (some (.od true (SL.map af) (SL.map (cI L SL)))) (↑(.lst (roads.map bB))) w8 w9 w10 z11;have hr:=M0 SL.length ∅;have hsl:(SL.map af).length=SL.length:=qf ..;refine⟨_,[a0,a1,a2,↑(.lst (SL.map af)),some (.od true (SL.map af) (SL.map (cI L SL))),↑(af s),some (.od true ks' vs'),↑(.lst (roads.map bB)),w8,w9,w10,w11],rfl,?_,ks',vs',_,_,_,_,_,_,by rw[qz,w4,Nat.mul_add];exact f1,.inl f2,rfl⟩;have hrd:bB [s]=.tup [af s]:=rfl;rw[hrd]at r4;generalize SL.map (cI L SL)=WD,SL.map af=SD,roads.map bB=RR,(List.range' 0 SL.length).map (λi:Nat=>D.int (i:Int))=XX,af s=ss at *;refine bj (ρ':=[a0,a1,a2,↑(.lst SD),some (.od true SD WD),↑ss,some (.od true ks vs),some (.ow [.tup [ss]]),z8,z9,z10,z11]) nofun (bj (ρ':=[a0,a1,a2,↑(.lst SD),some (.od true SD WD),↑ss,some (.od true ks vs),some (.ow [.tup [ss]]),some (.ow [ss]),z9,z10,z11]) nofun (bj (ρ':=[a0,a1,a2,↑(.lst SD),some (.od true SD WD),↑ss,some (.od true ks vs),some (.ow RR),w8,w9,w10,z11]) ?_ ?_))
   .rw[fD]
    simp[hsl,hr,r4]
   .rw[nP]
    show aY _ _ _ [a0,a1,a2,↑(.lst SD),some (.od true SD WD),↑ss,some (.od true ks vs),↑(.lst RR),w8,w9,w10,z11]=_;rw[fD]
    simp[f3])
 rw[Qj]at g1;refine⟨ks,vs,z5,z7,z8,z9,z10,z11,?_,g2.resolve_right λz=>?_,e1⟩
 .obtain⟨KK,k1,k2,k3,k4⟩:=g1
  exact⟨KK,k1,k2,by ac_nf,k4⟩
 .rw[Qj]at z
  rw[z]at h0;cases h0
include hL in
theorem VT{st n:Nat}(hst:st<n)(hn:n<=7):∃ks vs:AR,Fd 5000 ks vs/\ks≠[]/\uV [br L,.int st,.int n]=some (.dct true ks vs):=by
 have hst0:Yd 12 [br L,.int (st:Int),.int (n:Int)]=[↑(br L),↑(.int st),↑(.int n),none,none,none,none,none,none,none,none,none]:=rfl;rw[uV,Yg (by rfl),hst0];have hr:=oe (a:=(st:Int)) (n:=(n:Int)) ∅ ∅ ∅ ∅;rw[dX,show((n:Int)-st).toNat=n-st by ac_nf]at hr
 have hc0:=bP (fe:=Ei) (r:=[]) (enc:=λi:Nat=>D.int ((st:Int)+(i:Nat))) (λi=>af (st+i,false)) (l:=List.range (n-st)) (λi _=>by
  simp[Ei,af])
 have hc1:=bP (fe:=Ej) (r:=[]) (enc:=λi:Nat=>af (st+i,false)) (λi=>af (st+i,true)) (l:=List.range (n-st)) (λi _=>by
  simp[Ej,af])
 have hcat:=FP ((List.range (n-st)).map λi=>af (st+i,false)) ((List.range (n-st)).map λi=>af (st+i,true));rw[if_pos (by rw[qf,qf,List.length_range];show n-st+(n-st)<=1000000;ac_nf)]at hcat;have hsl:=GJ st n;obtain⟨z5,hw⟩:=GF hL (SL:=c7 st n) ∅ (GK st n) (↑(.int st)) (↑(.int n)) none none none none none none;obtain⟨ks,vs,y5,y7,y8,y9,y10,y11,f1,f2,f3⟩:=GL (L:=L) (SL:=c7 st n) ∅ ∅ (↑(br L)) (↑(.int st)) (↑(.int n)) z5;refine⟨ks,vs,f1,f2,?_⟩
 have hSD:(c7 st n).map af=((List.range (n-st)).map λi=>af (st+i,false))++(List.range (n-st)).map λi=>af (st+i,true):=by
  unfold c7;rw[Qk,Qf,Qf];rfl
 rw[<-hSD]at hcat;generalize (c7 st n).map (cI L (c7 st n))=WD,(c7 st n).map af=SD,((List.range (n-st)).map λi=>af (st+i,false))=A0,((List.range (n-st)).map λi=>af (st+i,true))=A1,((List.range (n-st)).map λi:Nat=>D.int ((st:Int)+(i:Nat)))=XX,br L=bk at *
 have hfin:Eo [↑bk,↑(.int st),↑(.int n),none,none,none,none,none,none,none,none,none]=some (.rt (.dct true ks vs)):=by
  refine bj (ρ':=[↑bk,↑(.int st),↑(.int n),some (.ow A0),none,none,none,none,none,none,none,none]) (by simp[hr,hc0,aq]) ?_;refine bj (ρ':=[↑bk,↑(.int st),↑(.int n),some (.ow SD),none,none,none,none,none,none,none,none]) ?_ ?_
  .rw[nP]
   show aF _ _ [↑bk,↑(.int st),↑(.int n),↑(.lst A0),none,none,none,none,none,none,none,none]=_;simp[hc1,aq,hcat]
  refine bj (ρ':=[↑bk,↑(.int st),↑(.int n),some (.ow SD),some (.od true [] []),none,none,none,none,none,none,none]) nofun ?_;refine bj (ρ':=[↑bk,↑(.int st),↑(.int n),↑(.lst SD),some (.od true SD WD),z5,none,none,none,none,none,none]) ?_ ?_
  .rw[nP]
   show aY _ _ _ [↑bk,↑(.int st),↑(.int n),↑(.lst SD),some (.od true [] []),none,none,none,none,none,none,none]=_;rw[fD];simp[hw]
  refine bj (ρ':=[↑bk,↑(.int st),↑(.int n),↑(.lst SD),some (.od true SD WD),z5,some (.od true [] []),none,none,none,none,none]) nofun ?_;refine bj (ρ':=[↑bk,↑(.int st),↑(.int n),↑(.lst SD),some (.od true SD WD),y5,some (.od true ks vs),y7,y8,y9,y10,y11]) ?_ ?_
  .rw[nP]
   show aY _ _ _ [↑bk,↑(.int st),↑(.int n),↑(.lst SD),some (.od true SD WD),z5,some (.od true [] []),none,none,none,none,none]=_;rw[fD];simp[f3]
  .show wF [6] (ah (ab 6)) _=_
   rw[nP];show ah (ab 6) [↑bk,↑(.int st),↑(.int n),↑(.lst SD),some (.od true SD WD),y5,↑(.dct true ks vs),y7,y8,y9,y10,y11]=_;simp
 rw[hfin];rfl
end
section
variable {KK:List (aP×aP)}{vs:AR}(hl:vs.length=KK.length)(hv:∀v∈vs,Rv v)
def GM(p:aP×aP):bq (.dct true (KK.map bO) vs) (bO p)=bf (KK.map cP) vs (cP p):=by
 show(fg (KK.map bO)).bind _=_;rw[pN];rfl
def GN(p:aP×aP):dM false (bO p) (.dct true (KK.map bO) vs)=some (decide (cP p∈KK.map cP)):=by
 show(fg (KK.map bO)).bind _=_;rw[pN];show some (decide (cP p∈KK.map cP)!=false)=_;rw[Bool.bne_false]
include hl hv in
def pP{p:aP×aP}(h:cP p∈KK.map cP):∃o:AZ,o.length<=200/\bq (.dct true (KK.map bO) vs) (bO p)=some (bB o):=by
 obtain⟨v,h1,h2⟩:=M5 (ks:=KK.map cP) (vs:=vs) (by rw[qf];exact hl) h;obtain⟨o,h3,rfl⟩:=hv v h1;exact⟨o,h3,by rw[GM];exact h2⟩
def lE{c1 c2:AV}{ρ:Ro}{x y:Bool}(h1:c1 ρ=some x)(h2:c2 ρ=some y):aU c1 c2 ρ=some (x&&y):=by
 rw[BJ,h1];cases x
 .rfl
 .exact h2
theorem ky{c:AV}{f:AW}{ρ:Ro}{PP:AR}{a0 a1 a2 a3 a4 a6 a7 a8:AS}(hρ:ρ=[a0,a1,a2,a3,a4,some (.ow PP),a6,a7,a8])(hP:∀p∈PP,FE p)(hPl:PP.length<900000){b:Bool}(hc:c ρ=some b)(hf:b=true->∃p,FE p/\f ρ=some p):∃PP',(∀p∈PP',FE p)/\PP'.length<=PP.length+1/\aG c (bp 5 f aT) ar ρ=some (.nx [a0,a1,a2,a3,a4,some (.ow PP'),a6,a7,a8]):=by
 cases b with
 | true=>
   obtain⟨p,h1,h2⟩:=hf rfl;have hap:=e_ (l:=PP) (d:=p) ∅;refine⟨PP++[p],λx hx=>?_,by simp,?_⟩
   .rcases qw hx with hx|hx
    .exact hP x hx
    .rw[List.mem_singleton.mp hx]
     exact h1
   .rw[cR hc,BO,h2]
    subst hρ;show((cM 5 [a0,a1,a2,a3,a4,some (.ow PP),a6,a7,a8]).bind _)=_;simp[hap]
 | false=>exact⟨PP,hP,by ac_nf,by rw[cu hc,hρ];rfl⟩
include hl hv in
theorem GO{p:aP×aP}(hp:p∈KK){PP:AR}(hP:∀p∈PP,FE p)(hPl:PP.length<=50000)(S:AG)(a0 a1 a2 y7 y8:AS):∃PP',(∀p∈PP',FE p)/\PP'.length<=PP.length+3/\Ep [a0,a1,a2,↑(.dct true (KK.map bO) vs),↑(.lst (S.map nD)),some (.ow PP),↑(bO p),y7,y8]=some (.nx [a0,a1,a2,↑(.dct true (KK.map bO) vs),↑(.lst (S.map nD)),some (.ow PP'),↑(bO p),↑(af p.1),↑(af p.2)]):=by
 obtain⟨o,ho,hg⟩:=pP hl hv (p:=p) (Qs hp);have hh:=GN (KK:=KK) (vs:=vs) (p.2,p.1);have hw:cP (p.2,p.1)∈KK.map cP->∃o:AZ,o.length<=200/\bq (.dct true (KK.map bO) vs) (bO (p.2,p.1))=some (bB o):=λh=>pP hl hv h;have hpk:bO (p.2,p.1)=.tup [af p.2,af p.1]:=rfl;have hpk1:bO p=.tup [af p.1,af p.2]:=rfl;have hco:=Mh p.1;have hq1:=fF false p.2 (bh p.1);have hq2:=fF true p.1 p.2;simp only[Qo,if_false,if_true]at hq1 hq2;have hi1:=lA p.1.1 S;have hi2:=lA p.2.1 S;have hn2:=E4 p.2.1 S;have t1:Yc (af p.1)=some [.int p.1.1,.bl p.1.2]:=rfl;have t2:Yc (af p.2)=some [.int p.2.1,.bl p.2.2]:=rfl;rw[hpk]at hh hw;have tp:Yc (bO p)=some [af p.1,af p.2]:=rfl
 obtain⟨hb,hbe⟩:∃hb,decide (cP (p.2,p.1)∈KK.map cP)=hb:=⟨_,rfl⟩
 rw[hbe]at hh;have hw:hb=true->∃o:AZ,o.length<=200/\bq (.dct true (KK.map bO) vs) (.tup [af p.2,af p.1])=some (bB o):=λz=>hw (wm (hbe.trans z));clear hbe hpk hpk1 hl hv hp;generalize D.dct true (KK.map bO) vs=dc,S.map nD=SS,bO p=pk at *
 have key:∀PP:AR,(∀p∈PP,FE p)->PP.length<=50000->∃PP',(∀p∈PP',FE p)/\PP'.length<=PP.length+3/\(ag (aG (aU (b2 (aa 8) (cC (Yb (ab 7) ae) j5) (ay false)) (b2 (aw (Yb (ab 8) (Yb (ab 7) ae))) (aa 3) (dM false))) (bp 5 (aw (Yb (kD (.str "clash")) (Yb (b2 (aa 3) (aa 6) bq) (Yb (b2 (aa 3) (aw (Yb (ab 8) (Yb (ab 7) ae))) bq) ae)))) aT) ar) (ag (aG (aU (b2 (aa 7) (aa 8) (ay true)) (aU (b2 (b2 (aa 7) (Zb 0) aj) (aa 4) (bc false)) (b2 (b2 (aa 8) (Zb 0) aj) (aa 4) (bc false)))) (bp 5 (aw (Yb (kD (.str "cross")) (Yb (b2 (aa 3) (aa 6) bq) ae))) aT) ar) (aG (aU (b2 (b2 (aa 7) (Zb 0) aj) (aa 4) (bc false)) (aU (b2 (b2 (aa 8) (Zb 0) aj) (b2 (aa 7) (Zb 0) aj) cZ) (aU (b2 (b2 (aa 8) (Zb 0) aj) (aa 4) (bc true)) (b2 (aw (Yb (ab 8) (Yb (ab 7) ae))) (aa 3) (dM false))))) (bp 5 (aw (Yb (kD (.str "late")) (Yb (b2 (aa 3) (aa 6) bq) (Yb (b2 (aa 3) (aw (Yb (ab 8) (Yb (ab 7) ae))) bq) ae)))) aT) ar))) [a0,a1,a2,↑dc,↑(.lst SS),some (.ow PP),↑pk,↑(af p.1),↑(af p.2)]=some (.nx [a0,a1,a2,↑dc,↑(.lst SS),some (.ow PP'),↑pk,↑(af p.1),↑(af p.2)]):=λPP hP hPl=>by
  have two:∀{x:String} (PP:AR),hb=true->∃o2:AZ,o2.length<=200/\aw (Yb (kD (.str (Str.ofString x))) (Yb (b2 (aa 3) (aa 6) bq) (Yb (b2 (aa 3) (aw (Yb (ab 8) (Yb (ab 7) ae))) bq) ae))) [a0,a1,a2,↑dc,↑(.lst SS),some (.ow PP),↑pk,↑(af p.1),↑(af p.2)]=some (bZ x [bB o,bB o2]):=λ{x} PP z=>by
   obtain⟨o2,ho2,hg2⟩:=hw z;refine⟨o2,ho2,?_⟩;generalize bB o=oo at *;generalize bB o2=o2' at *;generalize af p.1=s1 at *;generalize af p.2=s2 at *;simp[hg,hg2]
  have c2:∀PP:AR,b2 (aw (Yb (ab 8) (Yb (ab 7) ae))) (aa 3) (dM false) [a0,a1,a2,↑dc,↑(.lst SS),some (.ow PP),↑pk,↑(af p.1),↑(af p.2)]=some hb:=λPP=>by
   generalize af p.1=s1 at *;generalize af p.2=s2 at *;simp[hh]
  have c1:b2 (aa 8) (cC (Yb (ab 7) ae) j5) (ay false) [a0,a1,a2,↑dc,↑(.lst SS),some (.ow PP),↑pk,↑(af p.1),↑(af p.2)]=some (decide (p.2=bh p.1)):=by
   generalize af p.1=s1 at *;generalize af p.2=s2 at *;generalize af (bh p.1)=s3 at *;simp[hco,hq1]
  obtain⟨P1,p1,p2,p3⟩:=ky rfl hP ∅ (lE c1 (c2 PP)) (f:=aw (Yb (kD (.str "clash")) (Yb (b2 (aa 3) (aa 6) bq) (Yb (b2 (aa 3) (aw (Yb (ab 8) (Yb (ab 7) ae))) bq) ae)))) (λz=>by
   rw[Qe]at z;obtain⟨o2,h1,h2⟩:=two PP z.2
   exact⟨_,.inr (.inl ⟨o,o2,ho,h1,.inl rfl⟩),h2⟩)
  have d1:∀PP:AR,b2 (b2 (aa 7) (Zb 0) aj) (aa 4) (bc false) [a0,a1,a2,↑dc,↑(.lst SS),some (.ow PP),↑pk,↑(af p.1),↑(af p.2)]=some (decide (p.1.1∈S)):=λPP=>by
   generalize af p.1=s1 at *;generalize af p.2=s2 at *;simp[t1,hi1]
  have d2:∀PP:AR,b2 (b2 (aa 8) (Zb 0) aj) (aa 4) (bc false) [a0,a1,a2,↑dc,↑(.lst SS),some (.ow PP),↑pk,↑(af p.1),↑(af p.2)]=some (decide (p.2.1∈S)):=λPP=>by
   generalize af p.1=s1 at *;generalize af p.2=s2 at *;simp[t2,hi2]
  have d3:∀PP:AR,b2 (b2 (aa 8) (Zb 0) aj) (aa 4) (bc true) [a0,a1,a2,↑dc,↑(.lst SS),some (.ow PP),↑pk,↑(af p.1),↑(af p.2)]=some (!decide (p.2.1∈S)):=λPP=>by
   generalize af p.1=s1 at *;generalize af p.2=s2 at *;simp[t2,hn2]
  have d4:∀PP:AR,b2 (b2 (aa 8) (Zb 0) aj) (b2 (aa 7) (Zb 0) aj) cZ [a0,a1,a2,↑dc,↑(.lst SS),some (.ow PP),↑pk,↑(af p.1),↑(af p.2)]=some (decide ((p.2.1:Int)<(p.1.1:Int))):=λPP=>by
   generalize af p.1=s1 at *;generalize af p.2=s2 at *;simp[t1,t2]
  have d5:∀PP:AR,b2 (aa 7) (aa 8) (ay true) [a0,a1,a2,↑dc,↑(.lst SS),some (.ow PP),↑pk,↑(af p.1),↑(af p.2)]=some (!decide (p.1=p.2)):=λPP=>by
   generalize af p.1=s1 at *;generalize af p.2=s2 at *;simp[hq2]
  obtain⟨P2,q1,q2,q3⟩:=ky rfl p1 ∅ (lE (d5 P1) (lE (d1 P1) (d2 P1))) (f:=aw (Yb (kD (.str "cross")) (Yb (b2 (aa 3) (aa 6) bq) ae))) (λ_=>⟨_,.inr (.inr ⟨o,ho,rfl⟩),by
   have hpr:bZ "cross" [.tup (o.map af)]=bZ "cross" [bB o]:=rfl;rw[hpr];generalize bB o=oo,af p.1=s1 at *;generalize af p.2=s2 at *
   simp[hg]⟩)
  obtain⟨P3,r1,r2,r3⟩:=ky rfl q1 ∅ (lE (d1 P2) (lE (d4 P2) (lE (d3 P2) (c2 P2)))) (f:=aw (Yb (kD (.str "late")) (Yb (b2 (aa 3) (aa 6) bq) (Yb (b2 (aa 3) (aw (Yb (ab 8) (Yb (ab 7) ae))) bq) ae)))) (λz=>by
   simp only[Qe]at z;obtain⟨o2,h1,h2⟩:=two P2 z.2.2.2
   exact⟨_,.inr (.inl ⟨o,o2,ho,h1,.inr rfl⟩),h2⟩)
  exact⟨P3,r1,by ac_nf,bj p3 (bj q3 r3)⟩
 obtain⟨P3,r1,r2,r3⟩:=key PP hP hPl;refine⟨P3,r1,r2,bj (ρ':=[a0,a1,a2,↑dc,↑(.lst SS),some (.ow PP),↑pk,↑(af p.1),y8]) ?_ (bj ?_ r3)⟩
 .generalize af p.1=s1 at *
  generalize af p.2=s2 at *;simp[tp]
 .generalize af p.1=s1 at *
  generalize af p.2=s2 at *;simp[tp]
end
theorem VU{L:AY}(hL:∀l∈L,d8 l){hs:AJ}(hh:hs.length<=7){st:Nat}(hst:st<hs.length):∃PP:AR,(∀p∈PP,FE p)/\Yn [br L,.tup (hs.map av),.int st]=some (.lst PP):=by
 obtain⟨ks,vs,⟨KK,rfl,hl,hk,hv⟩,hne,hp⟩:=VT hL hst hh;have hst0:Yd 9 [br L,.tup (hs.map av),.int (st:Int)]=[↑(br L),↑(.tup (hs.map av)),↑(.int st),none,none,none,none,none,none]:=rfl;rw[Yn,Yg (by rfl),hst0];have o2:=gc hs (c:=.tup (hs.map av)) rfl ∅ st ∅ false;simp only[av,Qo,if_false]at o2
 have hkeys:sG (.dct true (KK.map bO) vs)=some (KK.map bO):=by
  have hnn:=pN KK
  have hlen:(KK.map bO).length<=aK:=by rw[qf];show KK.length<=1000000;ac_nf
  cases e:KK.map bO with
  | nil=>exact absurd e hne
  | cons a r=>
    rw[e]at hnn hlen;show(if (a::r).length<=aK then _ else _)=_;rw[if_pos hlen,hnn];rfl
 have hll:(hs.map av).length=hs.length:=qf ..
 obtain⟨ρ1,e1,PP,z6,z7,z8,g1,g2,rfl⟩:=Yv (gt:=ai 6) (fb:=Ep) bO (λpre ρ=>∃(PP:AR) (z6 z7 z8:AS),(∀p∈PP,FE p)/\PP.length<=1+3*pre.length/\ρ=[↑(br L),↑(.tup (hs.map av)),↑(.int st),↑(.dct true (KK.map bO) vs),↑(.lst ((aI hs st false).map nD)),some (.ow PP),z6,z7,z8]) KK []
  [↑(br L),↑(.tup (hs.map av)),↑(.int st),↑(.dct true (KK.map bO) vs),↑(.lst ((aI hs st false).map nD)),some (.ow [eM]),none,none,none] ⟨[eM],none,none,none,λp hp=>.inl (List.mem_singleton.mp hp),by simp,rfl⟩ (by
   rintro q p r ρ e ⟨PP,z6,z7,z8,g1,g2,rfl⟩;have hq:=congrArg List.length e;rw[Qj,qz]at hq
   have hpm:p∈KK:=by rw[Qj]at e;rw[e];simp
   obtain⟨PP',r1,r2,r3⟩:=GO hl hv hpm g1 ∅ (aI hs st false) (↑(br L)) (↑(.tup (hs.map av))) (↑(.int st)) z7 z8
   exact⟨_,_,rfl,r3,PP',_,_,_,r1,by rw[qz,w4];ac_nf,rfl⟩)
 refine⟨PP,g1,?_⟩;generalize D.dct true (KK.map bO) vs=dc at *;generalize KK.map bO=KD at *;generalize (aI hs st false).map nD=SS,hs.map av=HH,br L=bk at *
 have hfin:Er [↑bk,↑(.tup HH),↑(.int st),none,none,none,none,none,none]=some (.rt (.lst PP)):=by
  refine bj (ρ':=[↑bk,↑(.tup HH),↑(.int st),↑dc,none,none,none,none,none]) (by simp[hll,hp]) ?_;refine bj (ρ':=[↑bk,↑(.tup HH),↑(.int st),↑dc,↑(.lst SS),none,none,none,none]) (by simp[o2]) ?_;refine bj (ρ':=[↑bk,↑(.tup HH),↑(.int st),↑dc,↑(.lst SS),some (.ow [eM]),none,none,none]) nofun ?_;refine bj (ρ':=[↑bk,↑(.tup HH),↑(.int st),↑dc,↑(.lst SS),some (.ow PP),z6,z7,z8]) ?_ nofun;rw[fD];simp[hkeys,e1]
 rw[hfin];rfl
def GP(k:Kd)(R:List Rl)(hh:D)(st:Int):Option D:=match k with
 | .e=>Yn [Yt .e R,hh,.int st]
 | .s=>j8 [.tup (R.map ax)]
 | _=>Yu [.tup (R.map ax),hh,.int st]
section
variable {hs:AJ}{st:Nat}(hl:hs.length<=7)(hst:st<hs.length)
include hl hst
theorem GQ{k:Kd}{pp:D}(hk:PK hs.length k pp){R:List Rl}(hR:∀r∈R,gM hs.length k r)(hRl:R.length<=7):∃(held:Bool) (PP:AR),Yx [pp,Yt k R,.tup (hs.map av),.int st]=some (.bl held)/\(∀p∈PP,Pb (Yt k R) (.tup (hs.map av)) st held p)/\GP k R (.tup (hs.map av)) st=some (.lst PP):=by
 cases hk with
 | e rows r1 r2=>
   have hR':∀r∈R,In .e hs.length r/\cz r:=hR;obtain⟨L,rfl,hg,hLl⟩:=pw hR';obtain⟨PP,p1,p2⟩:=VU hg hl hst;refine⟨_,PP,VJ ∅ L (c:=.tup (hs.map av)) rfl ∅ ∅,λp hp=>Gx ∅ ∅ ∅ hR' (p1 p hp),?_⟩;show Yn [Yt .e (L.map Rl.ei),_,_]=_;rw[Ml];exact p2
 | s rows r1 r2 r3=>
   have hR':∀r∈R,In .s 60 r/\cz r:=hR;obtain⟨Q,e,hQl⟩:=pJ (qv _) hR';obtain⟨PP,p1,p2⟩:=VN (Q:=R.map ax) (by rw[qf];ac_nf)
   have hb:Yt .s R=d9 Q:=by
    show D.tup [_,.tup (R.map ax)]=_;rw[e];rfl
   have hg:=VL (rows:=rows) ∅ (λr hr=>⟨Qg (r2 r hr).1 ∅,(r2 r hr).2⟩) Q (c:=.tup (hs.map av)) rfl ∅ (Nat.le_of_lt hst);rw[MV,<-hb]at hg;refine⟨_,PP,hg,λp hp=>?_,p2⟩;rw[hb];exact Gy ∅ ∅ (p1 p hp)
 | i first rows G q1 q2 q3 q4=>
   have hR':∀r∈R,In k hs.length r/\cz r:=λr hr=>by
    have:=hR r hr;unfold gM at this
    rwa [if_neg (by rcases G with rfl|rfl<;>decide)]at this
   obtain⟨Q,rfl,hQ,hQl⟩:=pK G hR';obtain⟨PP,p1,p2⟩:=VO (R:=Q) ∅ (λr hr x hx=>by have:=hQ r hr x hx;ac_nf) ∅ (Nat.le_of_lt hst)
   have hrow:∀r∈rows,r.2.length<=100/\∀y∈r.2,y<60:=λr hr=>⟨Qg (q4 r hr).1 ∅,(q4 r hr).2⟩
   refine⟨gL first rows (Q.map dN) (aI hs st true) (aI hs st false) hs.length,PP,?_,λp hp=>Gz ∅ ∅ G hR' (p1 p hp),?_⟩
   .rcases G with rfl|rfl
    .exact MY 11 q2 ∅ ∅ hrow ∅ (λr hr=>(hR' r hr).1) (Nat.le_of_lt hst)
    .exact VM q2 ∅ ∅ hrow rfl ∅ (λr hr=>by
      obtain⟨h1,h2⟩:=hR' r hr;refine⟨?_,h2⟩
      cases r with
      | ei l=>cases h1.1
      | su b o=>cases h1.1
      | im b o=>exact⟨.inl rfl,h1.2⟩) (Nat.le_of_lt hst)
   .have e:GP k (Q.map dN) (.tup (hs.map av)) st=Yu [.tup ((Q.map dN).map ax),.tup (hs.map av),.int st]:=by rcases G with rfl|rfl<;>rfl
    rw[e,pz];exact p2
end
def VW{bk hh:D}{st:Int}{held:Bool}{PP:AR}(hP:∀p∈PP,Pb bk hh st held p)(a0 a1 a4 a5 a6 a8 y10 y11:AS):∃z10 z11,M.forM (ai 10) EA PP [a0,a1,↑(.int st),↑hh,a4,a5,a6,↑bk,a8,↑(.bl held),y10,y11]=some (.nx [a0,a1,↑(.int st),↑hh,a4,a5,a6,↑bk,a8,↑(.bl held),z10,z11]):=by
 obtain⟨ρ1,e1,z10,z11,rfl⟩:=Yv (gt:=ai 10) (fb:=EA) id (λpre ρ=>∃z10 z11,ρ=[a0,a1,↑(.int st),↑hh,a4,a5,a6,↑bk,a8,↑(.bl held),z10,z11]) PP []
  [a0,a1,↑(.int st),↑hh,a4,a5,a6,↑bk,a8,↑(.bl held),y10,y11] ⟨_,_,rfl⟩ (by
   rintro q p r ρ e ⟨z10,z11,rfl⟩;obtain⟨d,h1,h2⟩:=hP p (by rw[Qj]at e;rw[e];simp);have hg:=Gw h1;refine⟨_,[a0,a1,↑(.int st),↑hh,a4,a5,a6,↑bk,a8,↑(.bl held),↑p,↑(.bl d)],rfl,bj (ρ':=[a0,a1,↑(.int st),↑hh,a4,a5,a6,↑bk,a8,↑(.bl held),↑p,↑(.bl d)]) ?_ ?_,_,_,rfl⟩
   .show ao 11 _ [a0,a1,↑(.int st),↑hh,a4,a5,a6,↑bk,a8,↑(.bl held),↑p,z11]=_
    simp[hg]
   .refine(cu ?_).trans rfl
    cases held with
    | true=>
      cases h2 rfl;simp[er,fS,kR]
    | false=>cases d<;>simp[er,fS,kR])
 rw[List.map_id]at e1;exact⟨z10,z11,e1⟩
theorem GR{hs:AJ}{st:Nat}(hl:hs.length<=7)(hst:st<hs.length)(ns:AH){v:Int}(hv:0<=v)(k:Kd)(a1 y6 y7 y8 y9 y10 y11:AS):∃z6 z7 z8 z9 z10 z11,uZ [↑(.scr ns),a1,↑(.int st),↑(.tup (hs.map av)),↑(.int v),↑(aC k),y6,y7,y8,y9,y10,y11]=some (.nx [↑(.scr ns),a1,↑(.int st),↑(.tup (hs.map av)),↑(.int v),↑(aC k),z6,z7,z8,z9,z10,z11]):=by
 obtain⟨pp,hk,hp⟩:=VP hl (Nat.le_of_lt hst) k ns;obtain⟨R,hR,hRl,hb⟩:=VS hl hst hk ns hv;obtain⟨held,PP,g1,g2,g3⟩:=GQ hl hst hk hR hRl;have hg:=Gv g1;obtain⟨z10,z11,hloop⟩:=VW g2 (↑(.scr ns)) a1 (↑(.int v)) (↑(aC k)) (↑pp) (↑(.lst PP)) y10 y11;have hbi:Yc (Yt k R)=some [aC k,.tup (R.map ax)]:=rfl
 have s3:aG (b2 (aa 5) (kD (.str "eithers")) (ay false)) (ao 8 (cC (Yb (ab 7) (Yb (ab 3) (Yb (ab 2) ae))) Yn)) (aG (b2 (aa 5) (kD (.str "sums")) (ay false)) (ao 8 (cC (Yb (b2 (aa 7) (Zb 1) aj) ae) j8)) (ao 8 (cC (Yb (b2 (aa 7) (Zb 1) aj) (Yb (ab 3) (Yb (ab 2) ae))) Yu))) [↑(.scr ns),a1,↑(.int st),↑(.tup (hs.map av)),↑(.int v),↑(aC k),↑pp,↑(Yt k R),y8,y9,y10,y11]=some (.nx [↑(.scr ns),a1,↑(.int st),↑(.tup (hs.map av)),↑(.int v),↑(aC k),↑pp,↑(Yt k R),↑(.lst PP),y9,y10,y11]):=by
  clear hloop hg g1 g2 hb hp hR;by_cases N:k=.e
  .subst N
   rw[cR nofun];have g3:Yn [Yt .e R,.tup (hs.map av),.int st]=some (.lst PP):=g3;generalize aC .e=kd,hs.map av=HH,Yt .e R=bk at *;simp[g3]
  .rw[cu (by simp[N])]
   by_cases t:k=.s
   .subst t
    rw[cR nofun];have g3:j8 [.tup (R.map ax)]=some (.lst PP):=g3;generalize aC .s=kd,hs.map av=HH,Yt .s R=bk,R.map ax=RR at *;simp[hbi,g3]
   .rw[cu (by simp[t])]
    have g3:Yu [.tup (R.map ax),.tup (hs.map av),.int st]=some (.lst PP):=by
     have:GP k R (.tup (hs.map av)) st=Yu [.tup (R.map ax),.tup (hs.map av),.int st]:=by cases k<;>first|rfl|exact absurd rfl N|exact absurd rfl t
     rw[<-this];exact g3
    generalize aC k=kd,hs.map av=HH,Yt k R=bk,R.map ax=RR at *;simp[hbi,g3]
 generalize Yt k R=bk,hs.map av=HH,aC k=kd at *;refine⟨some (.sh pp),↑bk,↑(.lst PP),↑(.bl held),z10,z11,bj (ρ':=[↑(.scr ns),a1,↑(.int st),↑(.tup HH),↑(.int v),↑kd,↑pp,y7,y8,y9,y10,y11]) (by simp[hp]) (bj (ρ':=[↑(.scr ns),a1,↑(.int st),↑(.tup HH),↑(.int v),↑kd,↑pp,↑bk,y8,y9,y10,y11]) (by simp[hb]) (bj s3 (bj (ρ':=[↑(.scr ns),a1,↑(.int st),↑(.tup HH),↑(.int v),↑kd,↑pp,↑bk,↑(.lst PP),↑(.bl held),y10,y11]) (by simp[hg]) (bj ((cu (by cases held<;>simp[er,fS,kR])).trans rfl) ?_))))⟩;rw[fD];simp[hloop]
theorem law_true(ns:AH)(hns:ns.length<=63):j9 [.scr ns]=some (.bl true):=by
 rw[j9,Yg (by rfl)];have hst0:Yd 12 [D.scr ns]=[↑(.scr ns),none,none,none,none,none,none,none,none,none,none,none]:=rfl;rw[hst0];have c0:=u9 ns 0 0 rfl;have c1:=u9 ns 1 1 rfl;have c2:=u9 ns 2 2 rfl;generalize ns.getD 0 0=x0 at c0;generalize ns.getD 1 0=x1 at c1;generalize ns.getD 2 0=x2 at c2
 obtain⟨n,hn⟩:∃n:Nat,2+x0%6=(n:Int):=⟨(2+x0%6).toNat,by lia⟩
 obtain⟨v,hv0,hv⟩:=iP x2 1865811235122147685;obtain⟨hs,hl,hh⟩:=UV x1 n (by lia)
 have hp:(0:Int)<(n:Int)-1:=by lia
 have m1:=Int.emod_nonneg (x0/6) (show(n:Int)-1≠0 by lia);have m2:=Int.emod_lt_of_pos (x0/6) hp
 obtain⟨st,hst⟩:∃s:Nat,x0/6%((n:Int)-1)=(s:Int):=⟨_,(Int.toNat_of_nonneg m1).symm⟩
 have hm:aD (.int (x0/6)) (.int ((n:Int)-1))=some (.int (st:Int)):=by rw[<-hst];exact k9 hp
 obtain⟨ρ1,e1,z5,z6,z7,z8,z9,z10,z11,rfl⟩:=Yv (gt:=ai 5) (fb:=uZ) aC (λ_ ρ=>∃z5 z6 z7 z8 z9 z10 z11,ρ=[↑(.scr ns),↑(.int n),↑(.int st),↑(.tup (hs.map av)),↑(.int v),z5,z6,z7,z8,z9,z10,z11]) ([.e,.s,.i,.n]:List Kd) []
  [↑(.scr ns),↑(.int n),↑(.int st),↑(.tup (hs.map av)),↑(.int v),none,none,none,none,none,none,none] ⟨_,_,_,_,_,_,_,rfl⟩ (by
   rintro q k r ρ e ⟨z5,z6,z7,z8,z9,z10,z11,rfl⟩;obtain⟨w6,w7,w8,w9,w10,w11,g⟩:=GR (hs:=hs) (st:=st) (by lia) (by lia) ns hv0 k (↑(.int n)) z6 z7 z8 z9 z10 z11
   exact⟨_,_,rfl,g,_,_,_,_,_,_,_,rfl⟩)
 have e1:M.forM (ai 5) uZ [.str "eithers",.str "sums",.str "ifs",.str "nots"] _=_:=e1;generalize hs.map av=HH at *
 have hfin:pa [↑(.scr ns),none,none,none,none,none,none,none,none,none,none,none]=some (.rt (.bl true)):=by
  refine bj (ρ':=[↑(.scr ns),↑(.int n),none,none,none,none,none,none,none,none,none,none]) (by simp[c0,hn]) ?_;refine bj (ρ':=[↑(.scr ns),↑(.int n),↑(.int st),none,none,none,none,none,none,none,none,none]) (by simp[c0,hm]) ?_;refine bj (ρ':=[↑(.scr ns),↑(.int n),↑(.int st),↑(.tup HH),none,none,none,none,none,none,none,none]) (by simp[c1,hh]) ?_;refine bj (ρ':=[↑(.scr ns),↑(.int n),↑(.int st),↑(.tup HH),↑(.int v),none,none,none,none,none,none,none]) (by simp[c2,hv]) ?_;refine bj (ρ':=[↑(.scr ns),↑(.int n),↑(.int st),↑(.tup HH),↑(.int v),z5,z6,z7,z8,z9,z10,z11]) ?_ rfl;rw[fD];simp[e1]
 rw[hfin];rfl
end Lw
end
noncomputable section
namespace Op
open PySem PySem.W PyProof.Rows PySem.Calls
noncomputable abbrev pg:P7:=PySem.Challenge.pw_duskbook_k33_whole_never_both
noncomputable abbrev en(P:Params)(x:Str)(t:Nat)(v:Value):DictEntry:=⟨PyData.keyHash P x,.str x t,v⟩
abbrev fn(e a:Str)(s:Stmt)(i k c h:Value)(f:Option Addr)(d j:Value)(g b:Nat):Data:=.func ⟨e,a,L2.aFa s,.stmts (L2.aEa s),L2.aCa s,g,[],i,k,c,h,f,d,j,b⟩
noncomputable abbrev tu(l:AE):Obj:=⟨.type "tuple",none,.seq ⟨l⟩ 0,#[]⟩
abbrev iz(n:Int):Value:=.int n 0
noncomputable abbrev rf(n:Nat):Value:=.ref n
abbrev Za(P:Params)(x:Str)(t n:Nat):=en P x t (rf n)
noncomputable abbrev fl:Obj:=⟨.none,none,.fields #[],#[]⟩
abbrev oZ(x:Str)(i:Nat):Obj:=⟨.none,none,fn x x (Lw.top i) .none .none .none .none none .none .none 0 0,#[]⟩
abbrev oF(x:Str)(i:Nat)(d:Value)(c:Nat):Obj:=⟨.type "function",none,.func (fnOf x x (L2.aFa (Lw.top i)) (L2.aEa (Lw.top i)) (L2.aCa (Lw.top i)) .none .none .none d none (.ref c) .none),#[]⟩
noncomputable abbrev oC(x:Str)(t l n b:Nat)(u v:Value)(c k e:Nat):Obj:=⟨.type "code",none,.fields #[.str x t,.str x (t+1),.str "/claim/cut.py" (t+2),.int (.ofNat l) 0,.int (.ofNat n) 0,.int 0 0,.int 0 0,.int 3 0,.ref b,.bool true,.int (.ofNat k) 0,.ref (b+1),.none,u,v,.ref c,.int (.ofNat e) 0,.int (.ofNat l) 0,.str "/claim/cut.py" (e+1)],#[]⟩
abbrev p0:Value:=(.str "duskbook.adding" 187)
abbrev p1:Value:=(.str "duskbook.roads" 207)
abbrev p2:Value:=.str "duskbook.blends" 231
abbrev p3:Value:=(.str "duskbook.books" 258)
abbrev p4:Value:=(.str "duskbook.parts" 321)
abbrev p5:Value:=(.str "duskbook.keeping" 336)
abbrev p6:Value:=(.str "duskbook.deriving" 441)
abbrev p7:Value:=(.str "duskbook.storming" 484)
abbrev p8:Value:=(.str "duskbook.checking" 598)
abbrev p9:Value:=(.str "law_duskbook_k33_whole_never_both" 611)
def VX(P:Params):List DictEntry:=[en P "__doc__" 166 .none,en P "__package__" 167 .none,en P "__loader__" 168 (.builtin "__main__.__loader__#opaque"),en P "__spec__" 169 .none,Za P "__annotations__" 170 6,Za P "__builtins__" 171 4,en P "__file__" 173 (.str "/claim/cut.py" 172),en P "__cached__" 174 .none,Za P "both_added" 196 21,Za P "added" 206 28,Za P "contrary" 215 35,Za P "led_to" 221 40,Za P "is_road" 230 47,Za P "EXCHANGED_KINDS" 245 48,Za P "exchanged_rule" 251 53,Za P "exchanged" 257 58,Za P "either_holds" 265 63,Za P "sum_holds" 271 68,Za P "if_holds" 277 73,Za P "rule_holds" 286 80,Za P "broken_rules" 292 85,Za P "holds" 300 92,Za P "beacons_in" 306 97,Za P "is_void" 314 104,Za P "without" 320 109,Za P "beacons_with" 328 114,Za P "is_rising" 335 121,Za P "rows_by_beacon" 343 126,Za P "is_plan_row" 351 133,Za P "come_to" 360 140,Za P "either_is_kept" 366 145,Za P "plan_good" 372 150,Za P "is_sum_row" 378 155,Za P "replaced" 389 162,Za P "sums_good" 395 167,Za P "are_some_of" 401 172,Za P "ahead_of" 407 177,Za P "is_row" 416 184,Za P "holds_where_lit" 422 189,Za P "rows_good" 428 194]
def VY(P:Params):List DictEntry:=[Za P "keeper_good" 440 201,Za P "is_place" 450 208,Za P "body_is_known" 456 213,Za P "is_step" 466 220,Za P "is_derivation" 477 227,Za P "derived" 483 232,Za P "is_broken" 491 237,Za P "lead_there_and_back" 500 244,Za P "clash_good" 509 251,Za P "cross_good" 518 258,Za P "late_good" 529 265,Za P "odd_good" 535 270,Za P "first_ones" 541 275,Za P "is_first_part" 551 282,Za P "is_last_part" 563 289,Za P "lone_good" 575 296,Za P "either_paper_good" 585 303,Za P "storm_good" 597 310,Za P "good" 610 317,Za P "_law_cell" 620 324,Za P "_law_mixed" 628 331,Za P "_law_hands" 634 336,Za P "_law_own" 640 341,Za P "_law_rule" 646 346,Za P "_law_kept" 652 351,Za P "_law_contrary" 659 358,Za P "_law_step" 670 365,Za P "_law_road" 676 370,Za P "_law_plan" 682 375,Za P "_law_planted_either" 695 382,Za P "_law_sum_rows" 701 387,Za P "_law_odd_ones" 707 392,Za P "_law_planted_sum" 718 399,Za P "_law_rows" 724 404,Za P "_law_evenings" 730 409,Za P "_law_full" 736 414,Za P "_law_lone" 742 419,Za P "_law_paths" 748 424,Za P "_law_either_papers" 763 431,Za P "_law_sum_papers" 769 436]
def VZ(P:Params):List DictEntry:=[Za P "_law_if_papers" 780 443,Za P "_law_keepers" 791 450,Za P "_law_kept_rule" 803 457,Za P "_law_holds_all" 809 462,Za P "_law_book" 824 469,Za P "law" 842 476]
def et(P:Params):List DictEntry:=VX P++VY P++VZ P
abbrev ns(P:Params)(x:DictEntry)(n k:Nat):Obj:=⟨.type "dict",none,.dict ⟨x::(et P).take n⟩ k,#[]⟩
def V0:AE:=[iz 2,iz 0,rf 20,iz 4,iz 0,rf 27,iz 10,iz 0,rf 34,iz 12,iz 0,rf 39,iz 20,iz 0,rf 46,iz 27,iz 0,rf 52,iz 33,iz 0,rf 57,iz 37,iz 0,rf 62,iz 39,iz 0,rf 67,iz 42,iz 0,rf 72,iz 46,iz 0,rf 79,iz 52,iz 0,rf 84,iz 54,iz 0,rf 91,iz 56]
def V1:AE:=[iz 0,rf 96,iz 62,iz 0,rf 103,iz 64,iz 0,rf 108,iz 67,iz 0,rf 113,iz 69,iz 0,rf 120,iz 72,iz 0,rf 125,iz 74,iz 0,rf 132,iz 76,iz 0,rf 139,iz 81,iz 0,rf 144,iz 84,iz 0,rf 149,iz 89,iz 0,rf 154,iz 91,iz 0,rf 161,iz 97,iz 0,rf 166,iz 102,iz 0]
def V2:AE:=[rf 171,iz 104,iz 0,rf 176,iz 106,iz 0,rf 183,iz 108,iz 0,rf 188,iz 110,iz 0,rf 193,iz 117,iz 0,rf 200,iz 130,iz 0,rf 207,iz 132,iz 0,rf 212,iz 134,iz 0,rf 219,iz 139,iz 0,rf 226,iz 146,iz 0,rf 231,iz 150,iz 0,rf 236,iz 152,iz 0,rf 243,iz 156,iz 0,rf 250]
def V3:AE:=[iz 158,iz 0,rf 257,iz 162,iz 0,rf 264,iz 166,iz 0,rf 269,iz 173,iz 0,rf 274,iz 178,iz 0,rf 281,iz 182,iz 0,rf 288,iz 188,iz 0,rf 295,iz 194,iz 0,rf 302,iz 202,iz 0,rf 309,iz 217,iz 0,rf 316,iz 222,iz 0,rf 323,iz 226,iz 0,rf 330,iz 228,iz 0,rf 335,iz 231]
def V4:AE:=[iz 0,rf 340,iz 233,iz 0,rf 345,iz 253,iz 0,rf 350,iz 262,iz 0,rf 357,iz 264,iz 0,rf 364,iz 270,iz 0,rf 369,iz 274,iz 0,rf 374,iz 287,iz 0,rf 381,iz 296,iz 0,rf 386,iz 307,iz 0,rf 391,iz 309,iz 0,rf 398,iz 317,iz 0,rf 403,iz 332,iz 0,rf 408,iz 338,iz 0]
def V5:AE:=[rf 413,iz 351,iz 0,rf 418,iz 365,iz 0,rf 423,iz 384,iz 0,rf 430,iz 398,iz 0,rf 435,iz 404,iz 0,rf 442,iz 409,iz 0,rf 449,iz 416,iz 0,rf 456,iz 423,iz 0,rf 461,iz 426,iz 0,rf 468,iz 435,iz 0,rf 475]
def ff:AE:=V0++V1++V2++V3++V4++V5
abbrev ft(n:Nat):Obj:=⟨.none,none,.fields ⟨ff.take n⟩,#[]⟩
abbrev dF(x:Str)(i l n t b:Nat)(a:Value)(k:Nat):List Obj:=[tu [],fl,oZ x i,oC x t l n b .none .none (b+2) k (t+3),oF x i a (b+3)]
abbrev dG(x:Str)(i l n t b:Nat)(a:Value)(k:Nat)(u:AE):List Obj:=[tu [],fl,tu u,tu [],oZ x i,oC x t l n b (.ref (b+2)) (.ref (b+3)) (b+4) k (t+3+u.length),oF x i a (b+5)]
def V6(P:Params):List Obj:=[boot_o_0 P,boot_o_1 P,boot_o_2 P,ns P (en P "__name__" 165 (.str "law_duskbook_k33_whole_never_both" 611)) 86 87,boot_o_4 P,boot_o_5 P,boot_o_6 P,boot_o_7 P,boot_o_8 P,boot_o_9 P,boot_o_10 P,tu [],ft 231,⟨.type "code",none,(.fields #[.str "<module>" 182,.str "<module>" 183,.str "/claim/cut.py" 184,iz 1,iz 0,iz 0,iz 0,iz 0,rf 11,.bool false,iz 181,rf 12,.none,.none,.none,.none,iz 185,iz 1,.str "/claim/cut.py" 186]),#[]⟩,⟨.type "frame",none,.plain,#[(some (rf 13)),(some (rf 3)),(some (rf 3)),none,(some (.str "__main__" 164)),none,(some (rf 0))]⟩]++(dG "both_added" 1 2 2 189 15 p0 181 [.str "rule" 192,.str "other" 193]++(dG "added" 2 4 2 197 22 p0 181 [.str "book" 200,.str "places" 201,.str "whole" 202,.str "place" 203]++(dG "contrary" 4 10 1 209 29 p1 181 [.str "saying" 212]++(dF "led_to" 5 12 2 216 36 p1 181++(dG "is_road" 6 20 2 222 41 p1 181 [.str "book" 225,.str "road" 226,.str "place" 227]++([⟨.type "dict",none,(.dict #[en P "eithers" 233 (.str "eithers" 234),en P "sums" 235 (.str "sums" 236),en P "ifs" 237 (.str "nots" 238),en P "nots" 239 (.str "ifs" 240)] 4),#[]⟩]++(dF "exchanged_rule" 9 27 2 246 49 p2 181++(dF "exchanged" 10 33 1 252 54 p2 181++(dF "either_holds" 12 37 2 260 59 p3 181++(dF "sum_holds" 13 39 2 266 64 p3 181++(dF "if_holds" 14 42 3 272 69 p3 181++(dG "rule_holds" 15 46 3 278 74 p3 181 [.str "kind" 281,.str "rule" 282,.str "evening" 283]++(dF "broken_rules" 16 52 2 287 81 p3 181++(dG "holds" 17 54 2 293 86 p3 181 [.str "book" 296,.str "evening" 297]++(dF "beacons_in" 18 56 2 301 93 p3 181++(dG "is_void" 19 62 2 307 98 p3 181 [.str "kind" 310,.str "rule" 311]++(dF "without" 20 64 2 315 105 p3 181++(dF "beacons_with" 22 67 3 323 110 p4 181++(dG "is_rising" 23 69 1 329 115 p4 181 [.str "numbers" 332]++(dF "rows_by_beacon" 25 72 1 338 122 p5 181++(dG "is_plan_row" 26 74 2 344 127 p5 181 [.str "row" 347,.str "storms" 348]++(dG "come_to" 27 76 2 352 134 p5 181 [.str "saying" 355,.str "plan" 356,.str "row" 357]++(dF "either_is_kept" 28 81 2 361 141 p5 181++(dF "plan_good" 29 84 4 367 146 p5 181))))))))))))))))))))))))
def V7(P:Params):List Obj:=dF "is_sum_row" 30 89 2 373 151 p5 181++(dG "replaced" 31 91 2 379 156 p5 181 [.str "rule" 382,.str "sums" 383,.str "whole" 384,.str "beacon" 385,.str "row" 386]++(dF "sums_good" 32 97 4 390 163 p5 181++(dF "are_some_of" 33 102 2 396 168 p5 181++(dF "ahead_of" 34 104 2 402 173 p5 181++(dG "is_row" 35 106 3 408 178 p5 181 [.str "row" 411,.str "first" 412,.str "keepers" 413]++(dF "holds_where_lit" 36 108 3 417 185 p5 181++(dF "rows_good" 37 110 6 423 190 p5 181++(dG "keeper_good" 38 117 4 429 195 p5 181 [.str "paper" 432,.str "book" 433,.str "hands" 434,.str "start" 435,.str "keepers" 436,.str "storms" 437]++(dG "is_place" 40 130 2 443 202 p6 181 [.str "book" 446,.str "place" 447]++(dF "body_is_known" 41 132 2 451 209 p6 181++(dG "is_step" 42 134 3 457 214 p6 181 [.str "book" 460,.str "known" 461,.str "place" 462,.str "rule" 463]++(dG "is_derivation" 43 139 3 467 221 p6 181 [.str "book" 470,.str "facts" 471,.str "places" 472,.str "known" 473,.str "place" 474]++(dF "derived" 44 146 3 478 228 p6 181++(dF "is_broken" 46 150 1 486 233 p7 181++(dG "lead_there_and_back" 47 152 3 492 238 p7 181 [.str "book" 495,.str "road" 496,.str "other" 497]++(dG "clash_good" 48 156 3 501 245 p7 181 [.str "road" 504,.str "other" 505,.str "book" 506]++(dG "cross_good" 49 158 3 510 252 p7 181 [.str "road" 513,.str "book" 514,.str "storms" 515]++(dG "late_good" 50 162 5 519 259 p7 181 [.str "road" 522,.str "other" 523,.str "book" 524,.str "keepers" 525,.str "storms" 526]++(dF "odd_good" 51 166 3 530 266 p7 181++(dF "first_ones" 52 173 4 536 271 p7 181++(dG "is_first_part" 53 178 4 542 276 p7 181 [.str "beacon" 545,.str "places" 546,.str "book" 547,.str "storms" 548]++(dG "is_last_part" 54 182 4 552 283 p7 181 [.str "beacon" 555,.str "places" 556,.str "book" 557,.str "facts" 558,.str "rule" 559,.str "known" 560]++(dG "lone_good" 55 188 4 564 290 p7 181 [.str "paper" 567,.str "book" 568,.str "keepers" 569,.str "storms" 570,.str "beacon" 571,.str "facts" 572]++(dG "either_paper_good" 56 194 4 576 297 p7 181 [.str "paper" 579,.str "book" 580,.str "keepers" 581,.str "storms" 582]))))))))))))))))))))))))
def V8(P:Params):List Obj:=dG "storm_good" 57 202 4 586 304 p7 181 [.str "paper" 589,.str "book" 590,.str "hands" 591,.str "start" 592,.str "keepers" 593,.str "storms" 594]++(dG "good" 59 217 5 600 311 p8 181 [.str "paper" 603,.str "book" 604,.str "hands" 605,.str "start" 606,.str "hand" 607]++(dG "_law_cell" 61 222 2 613 318 p9 181 [.str "script" 616,.str "k" 617]++(dG "_law_mixed" 62 226 2 621 325 p9 181 [.str "cell" 624,.str "by" 625]++(dF "_law_hands" 63 228 2 629 332 p9 181++(dF "_law_own" 64 231 3 635 337 p9 181++(dF "_law_rule" 65 233 4 641 342 p9 181++(dF "_law_kept" 66 253 3 647 347 p9 181++(dG "_law_contrary" 67 262 1 653 352 p9 181 [.str "saying" 656]++(dG "_law_step" 68 264 3 660 359 p9 181 [.str "book" 663,.str "saying" 664,.str "other" 665,.str "against" 666,.str "rule" 667]++(dF "_law_road" 69 270 2 671 366 p9 181++(dF "_law_plan" 70 274 3 677 371 p9 181++(dG "_law_planted_either" 71 287 4 683 376 p9 181 [.str "rows" 686,.str "left" 687,.str "start" 688,.str "many" 689,.str "row" 690,.str "other" 691,.str "lit" 692]++(dF "_law_sum_rows" 72 296 3 696 383 p9 181++(dF "_law_odd_ones" 73 307 1 702 388 p9 181++(dG "_law_planted_sum" 74 309 2 708 393 p9 181 [.str "rows" 711,.str "left" 712,.str "beacons" 713,.str "odd" 714,.str "k" 715]++(dF "_law_rows" 75 317 3 719 400 p9 181++(dF "_law_evenings" 76 332 4 725 405 p9 181++(dF "_law_full" 77 338 2 731 410 p9 181++(dF "_law_lone" 78 351 4 737 415 p9 181++(dF "_law_paths" 79 365 3 743 420 p9 181++(dG "_law_either_papers" 80 384 3 749 425 p9 181 [.str "book" 752,.str "hands" 753,.str "start" 754,.str "paths" 755,.str "storms" 756,.str "papers" 757,.str "pair" 758,.str "one" 759,.str "other" 760]++(dF "_law_sum_papers" 81 398 1 764 432 p9 181++(dG "_law_if_papers" 82 404 3 770 437 p9 181 [.str "rules" 773,.str "hands" 774,.str "start" 775,.str "papers" 776,.str "storm" 777]++(dG "_law_keepers" 83 409 4 781 444 p9 181 [.str "kind" 784,.str "script" 785,.str "hands" 786,.str "start" 787,.str "made" 788]))))))))))))))))))))))))
def V9(P:Params):List Obj:=dG "_law_kept_rule" 84 416 5 792 451 p9 181 [.str "kind" 795,.str "paper" 796,.str "cell" 797,.str "hands" 798,.str "start" 799,.str "left" 800]++(dF "_law_holds_all" 85 423 4 804 458 p9 181++(dG "_law_book" 86 426 6 810 463 p9 181 [.str "kind" 813,.str "paper" 814,.str "script" 815,.str "hands" 816,.str "start" 817,.str "pick" 818,.str "rules" 819,.str "cell" 820,.str "rule" 821]++(dG "law" 87 435 1 825 470 p9 181 [.str "script" 828,.str "many" 829,.str "start" 830,.str "hands" 831,.str "pick" 832,.str "kind" 833,.str "paper" 834,.str "book" 835,.str "others" 836,.str "held" 837,.str "other" 838,.str "found" 839])))
def al(P:Params):List Obj:=V6 P++V7 P++V8 P++V9 P
noncomputable def upd(l:List (Nat×Obj))(xs:List Obj):List Obj:=l.foldl (λxs p=>xs.set p.1 p.2) xs
noncomputable def ev:List Obj->List Obj
 | []=>[]
 | [x]=>[x]
 | x::_::r=>x::ev r
noncomputable def bt:Nat->List Obj->BT
 | 0,_=>.nil
 | _+1,[]=>.nil
 | n+1,x::xs=>.node x (bt n (ev xs)) (bt n (ev xs.tail))
abbrev bd:List Stmt:=behindTheImports pg
abbrev sl(i n:Nat):List Stmt:=(bd.drop i).take n
abbrev env:Env:={scope:=pg.main.scope,locals:=mainNs,globals:=mainNs,cells:=[],code:=(rf 13),frame:=some 14}
abbrev cE:Code:=.body bd env
noncomputable abbrev B:List Frame:=[topFrame ⟨0,0,0,0⟩]
abbrev ss(n:Nat)(l:Params->List (Nat×Obj))(t:Nat)(w:World)(os:OsState):SharedT:=⟨bt 12 (upd (l w.params) ((al w.params).take n)),n,{},.mk [],boot_drawn,t,os⟩
def h0(P:Params):Heap:=⟨⟨upd [(3,boot_o_3 P),(12,fl)] ((al P).take 15)⟩,{}⟩
abbrev s0(w:World)(os:OsState):Shared:=⟨h0 w.params,.mk [],boot_drawn,187,os⟩
abbrev s1:World->OsState->SharedT:=ss 15 (λP=>[(3,boot_o_3 P),(12,fl)]) 187
abbrev s2:World->OsState->SharedT:=ss 74 (λP=>[(3,ns P (en P "__name__" 165 (.str "duskbook.books" 258)) 19 20),(12,ft 30)]) 278
abbrev s3:World->OsState->SharedT:=ss 151 (λP=>[(3,ns P (en P "__name__" 165 (.str "duskbook.keeping" 336)) 32 33),(12,ft 69)]) 373
abbrev s4:World->OsState->SharedT:=ss 228 (λP=>[(3,ns P (en P "__name__" 165 (.str "duskbook.deriving" 441)) 45 46),(12,ft 108)]) 478
abbrev s5:World->OsState->SharedT:=ss 304 (λP=>[(3,ns P (en P "__name__" 165 (.str "duskbook.storming" 484)) 57 58),(12,ft 144)]) 586
abbrev s6:World->OsState->SharedT:=ss 383 (λP=>[(3,ns P (en P "__name__" 165 (.str "law_duskbook_k33_whole_never_both" 611)) 70 71),(12,ft 183)]) 696
abbrev s7:World->OsState->SharedT:=ss 458 (λP=>[(3,ns P (en P "__name__" 165 (.str "law_duskbook_k33_whole_never_both" 611)) 83 84),(12,ft 222)]) 804
abbrev s8:World->OsState->SharedT:=ss 477 (λP=>[]) 843
def h9(P:Params):Heap:=⟨⟨upd [] ((al P).take 477)⟩,{}⟩
abbrev s9(w:World)(os:OsState):Shared:=⟨h9 w.params,.mk [],boot_drawn,843,os⟩
abbrev sz(w:World)(os:OsState):Shared:=⟨boot_heap w.params,.mk [],boot_drawn,boot_toks,os⟩
def e0:∀w:World,(λos=>topGo treeTable pg w 11 (some (rf 6)) 12 (sz w os) (topStub pg))=λos=>some (s0 w os,⟨denote treeTable cE,cE,⟨0,0,0,0⟩,B⟩):=by
 rw[W.Fast.te15667345088766844465,W.Fast.te14364793385576792824,W.Fast.te11892475500146522536];intro w;kernel_rfl
def e1:∀w:World,(λos=>segRun treeTable pg w 11 (some (rf 6)) 1 1 (s0 w os) (blockOf bd env cE ⟨0,0,0,0⟩ B))=λos=>some (.next,(s1 w os).abs,cE,⟨0,0,0,0⟩):=by
 rw[W.Fast.te14374325043358763698,W.Fast.te14364793385576792824];intro w;kernel_rfl
abbrev EK(m:Nat)(s u:World->OsState->SharedT)(i n:Nat)(p q:Pos):Prop:=∀w:World,(λos=>segRunT treeTable pg w 11 (some (rf 6)) 1 m (s w os) (piecesOf (sl i n) env cE p B))=λos=>some (.next,u w os,cE,q)
local macro_rules | `(tactic| and_intros)=>`(tactic| (unfold EK;rw[W.Fast.te10110043849684766642,W.Fast.te14364793385576792824];intro w;kernel_rfl))
def e2:EK 385 s1 s2 0 15 ⟨0,0,0,0⟩ ⟨42,0,45,58⟩:=by
 unfold EK;rw[W.Fast.te10110043849684766642,W.Fast.te14364793385576792824];refine byRow2 "special-get-raises" ?_ ?_<;>(intro w;kernel_rfl)
def e3:EK 382 s2 s3 15 15 ⟨42,0,45,58⟩ ⟨84,0,88,64⟩:=by
 and_intros
def e4:EK 385 s3 s4 30 14 ⟨84,0,88,64⟩ ⟨139,0,145,15⟩:=by
 and_intros
def e5:EK 372 s4 s5 44 13 ⟨139,0,145,15⟩ ⟨194,0,201,16⟩:=by
 and_intros
def e6:EK 399 s5 s6 57 15 ⟨194,0,201,16⟩ ⟨287,0,295,66⟩:=by
 and_intros
def e7:EK 379 s6 s7 72 13 ⟨287,0,295,66⟩ ⟨416,0,422,51⟩:=by
 and_intros
def e8:EK 104 s7 s8 85 3 ⟨416,0,422,51⟩ ⟨435,0,456,15⟩:=by
 and_intros
def e9:∀w:World,(λos=>topRun treeTable pg w 11 (some (rf 6)) 2 (s8 w os).abs ⟨doneF .next,cE,⟨435,0,456,15⟩,B⟩)=λos=>some (s9 w os):=by
 rw[W.Fast.te14082659384304107361,W.Fast.te14364793385576792824];intro w;kernel_rfl
abbrev R(w:World)(os:OsState)(m:Nat)(s:Shared)(t:List Stmt)(p:Pos):Prop:=topRun treeTable pg w 11 (some (rf 6)) m s (restOf t env cE p B)=some (s9 w os)
def rk{m M i n:Nat}{s u:World->OsState->SharedT}{T:List Stmt}{p q:Pos}{w:World}{os:OsState}(h:EK m s u i n p q)(r:R w os M (u w os).abs T q):R w os (m+M) (s w os).abs (sl i n++T) p:=piece_app (segRun_of (congrFun (h w) os)) r
def rj{m:Nat}{s:Shared}{T:List Stmt}{p:Pos}{w:World}{os:OsState}(r:R w os m s T p)(h:T=bd):R w os m s bd p:=h ▸ r
def run(w:World)(os:OsState):topRun treeTable pg w 11 (some (rf 6)) (12+(1+(385+(382+(385+(372+(399+(379+(104+2))))))))) (sz w os) (topStub pg)=some (s9 w os):=
 go_top (congrFun (e0 w) os) (piece_block (congrFun (e1 w) os) (rj (rk e2 (rk e3 (rk e4 (rk e5 (rk e6 (rk e7 (rk e8 (show R w os 2 (s8 w os).abs [] ⟨435,0,456,15⟩ from congrFun (e9 w) os)))))))) (by kernel_rfl)))
def op:∀w:World,(fencedOpening treeTable pg w 4924).map (λs=>(s.heap,s.gens,s.drawn,s.toks))=some (boot_heap w.params,Array.mk [],boot_drawn,boot_toks):=
 boot_open (by kernel_rfl) (by decide) (λs=>by kernel_rfl)
def size:∀w:World,((boot_heap w.params).isNs mainGlobals&&(Array.mk []:Array GenState).size==0,(boot_heap w.params).objs.size,(boot_heap w.params).nsMap mainGlobals "__annotations__")=(true,11,(some (rf 6))):=by
 rw[W.Fast.te8920871248978507458];intro w;kernel_rfl
local macro_rules|`(-$x:num)=>`(nat_lit $x)
def K(P:Params):Frag:=(-3,ns P (en P "__name__" 165 (.str "law_duskbook_k33_whole_never_both" 611)) 86 87)::(-20,oC "both_added" 189 2 2 15 (rf 17) (rf 18) 19 181 194)::(-21,oF "both_added" 1 p0 20)::(-27,oC "added" 197 4 2 22 (rf 24) (rf 25) 26 181 204)::(-28,oF "added" 2 p0 27)::(-34,oC "contrary" 209 10 1 29 (rf 31) (rf 32) 33 181 213)::(-35,oF "contrary" 4 p1 34)::(-39,oC "led_to" 216 12 2 36 .none .none 38 181 219)::(-40,oF "led_to" 5 p1 39)::(-46,oC "is_road" 222 20 2 41 (rf 43) (rf 44) 45 181 228)::(-47,oF "is_road" 6 p1 46)::(-48,⟨.type "dict",none,(.dict #[en P "eithers" 233 (.str "eithers" 234),en P "sums" 235 (.str "sums" 236),en P "ifs" 237 (.str "nots" 238),en P "nots" 239 (.str "ifs" 240)] 4),#[]⟩)::(-52,oC "exchanged_rule" 246 27 2 49 .none .none 51 181 249)::(-53,oF "exchanged_rule" 9 p2 52)::(-57,oC "exchanged" 252 33 1 54 .none .none 56 181 255)::(-58,oF "exchanged" 10 p2 57)::(-62,oC "either_holds" 260 37 2 59 .none .none 61 181 263)::(-63,oF "either_holds" 12 p3 62)::(-67,oC "sum_holds" 266 39 2 64 .none .none 66 181 269)::(-68,oF "sum_holds" 13 p3 67)::(-72,oC "if_holds" 272 42 3 69 .none .none 71 181 275)::(-73,oF "if_holds" 14 p3 72)::(-79,oC "rule_holds" 278 46 3 74 (rf 76) (rf 77) 78 181 284)::(-80,oF "rule_holds" 15 p3 79)::(-84,oC "broken_rules" 287 52 2 81 .none .none 83 181 290)::(-85,oF "broken_rules" 16 p3 84)::(-91,oC "holds" 293 54 2 86 (rf 88) (rf 89) 90 181 298)::(-92,oF "holds" 17 p3 91)::(-96,oC "beacons_in" 301 56 2 93 .none .none 95 181 304)::(-97,oF "beacons_in" 18 p3 96)::(-103,oC "is_void" 307 62 2 98 (rf 100) (rf 101) 102 181 312)::(-104,oF "is_void" 19 p3 103)::(-108,oC "without" 315 64 2 105 .none .none 107 181 318)::(-109,oF "without" 20 p3 108)::(-113,oC "beacons_with" 323 67 3 110 .none .none 112 181 326)::(-114,oF "beacons_with" 22 p4 113)::(-120,oC "is_rising" 329 69 1 115 (rf 117) (rf 118) 119 181 333)::(-121,oF "is_rising" 23 p4 120)::(-125,oC "rows_by_beacon" 338 72 1 122 .none .none 124 181 341)::(-126,oF "rows_by_beacon" 25 p5 125)::(-132,oC "is_plan_row" 344 74 2 127 (rf 129) (rf 130) 131 181 349)::(-133,oF "is_plan_row" 26 p5 132)::(-139,oC "come_to" 352 76 2 134 (rf 136) (rf 137) 138 181 358)::(-140,oF "come_to" 27 p5 139)::(-144,oC "either_is_kept" 361 81 2 141 .none .none 143 181 364)::(-145,oF "either_is_kept" 28 p5 144)::(-149,oC "plan_good" 367 84 4 146 .none .none 148 181 370)::(-150,oF "plan_good" 29 p5 149)::(-154,oC "is_sum_row" 373 89 2 151 .none .none 153 181 376)::(-155,oF "is_sum_row" 30 p5 154)::(-161,oC "replaced" 379 91 2 156 (rf 158) (rf 159) 160 181 387)::(-162,oF "replaced" 31 p5 161)::(-166,oC "sums_good" 390 97 4 163 .none .none 165 181 393)::(-167,oF "sums_good" 32 p5 166)::(-171,oC "are_some_of" 396 102 2 168 .none .none 170 181 399)::(-172,oF "are_some_of" 33 p5 171)::(-176,oC "ahead_of" 402 104 2 173 .none .none 175 181 405)::(-177,oF "ahead_of" 34 p5 176)::(-183,oC "is_row" 408 106 3 178 (rf 180) (rf 181) 182 181 414)::(-184,oF "is_row" 35 p5 183)::(-188,oC "holds_where_lit" 417 108 3 185 .none .none 187 181 420)::(-189,oF "holds_where_lit" 36 p5 188)::(-193,oC "rows_good" 423 110 6 190 .none .none 192 181 426)::(-194,oF "rows_good" 37 p5 193)::(-200,oC "keeper_good" 429 117 4 195 (rf 197) (rf 198) 199 181 438)::(-201,oF "keeper_good" 38 p5 200)::(-207,oC "is_place" 443 130 2 202 (rf 204) (rf 205) 206 181 448)::(-208,oF "is_place" 40 p6 207)::(-212,oC "body_is_known" 451 132 2 209 .none .none 211 181 454)::(-213,oF "body_is_known" 41 p6 212)::(-219,oC "is_step" 457 134 3 214 (rf 216) (rf 217) 218 181 464)::(-220,oF "is_step" 42 p6 219)::(-226,oC "is_derivation" 467 139 3 221 (rf 223) (rf 224) 225 181 475)::(-227,oF "is_derivation" 43 p6 226)::(-231,oC "derived" 478 146 3 228 .none .none 230 181 481)::(-232,oF "derived" 44 p6 231)::(-236,oC "is_broken" 486 150 1 233 .none .none 235 181 489)::(-237,oF "is_broken" 46 p7 236)::(-243,oC "lead_there_and_back" 492 152 3 238 (rf 240) (rf 241) 242 181 498)::(-244,oF "lead_there_and_back" 47 p7 243)::(-250,oC "clash_good" 501 156 3 245 (rf 247) (rf 248) 249 181 507)::(-251,oF "clash_good" 48 p7 250)::(-257,oC "cross_good" 510 158 3 252 (rf 254) (rf 255) 256 181 516)::(-258,oF "cross_good" 49 p7 257)::(-264,oC "late_good" 519 162 5 259 (rf 261) (rf 262) 263 181 527)::(-265,oF "late_good" 50 p7 264)::(-269,oC "odd_good" 530 166 3 266 .none .none 268 181 533)::(-270,oF "odd_good" 51 p7 269)::(-274,oC "first_ones" 536 173 4 271 .none .none 273 181 539)::(-275,oF "first_ones" 52 p7 274)::(-281,oC "is_first_part" 542 178 4 276 (rf 278) (rf 279) 280 181 549)::(-282,oF "is_first_part" 53 p7 281)::(-288,oC "is_last_part" 552 182 4 283 (rf 285) (rf 286) 287 181 561)::(-289,oF "is_last_part" 54 p7 288)::(-295,oC "lone_good" 564 188 4 290 (rf 292) (rf 293) 294 181 573)::(-296,oF "lone_good" 55 p7 295)::(-302,oC "either_paper_good" 576 194 4 297 (rf 299) (rf 300) 301 181 583)::(-303,oF "either_paper_good" 56 p7 302)::(-309,oC "storm_good" 586 202 4 304 (rf 306) (rf 307) 308 181 595)::(-310,oF "storm_good" 57 p7 309)::(-316,oC "good" 600 217 5 311 (rf 313) (rf 314) 315 181 608)::(-317,oF "good" 59 p8 316)::(-323,oC "_law_cell" 613 222 2 318 (rf 320) (rf 321) 322 181 618)::(-324,oF "_law_cell" 61 p9 323)::(-330,oC "_law_mixed" 621 226 2 325 (rf 327) (rf 328) 329 181 626)::(-331,oF "_law_mixed" 62 p9 330)::(-335,oC "_law_hands" 629 228 2 332 .none .none 334 181 632)::(-336,oF "_law_hands" 63 p9 335)::(-340,oC "_law_own" 635 231 3 337 .none .none 339 181 638)::(-341,oF "_law_own" 64 p9 340)::(-345,oC "_law_rule" 641 233 4 342 .none .none 344 181 644)::(-346,oF "_law_rule" 65 p9 345)::(-350,oC "_law_kept" 647 253 3 347 .none .none 349 181 650)::(-351,oF "_law_kept" 66 p9 350)::(-357,oC "_law_contrary" 653 262 1 352 (rf 354) (rf 355) 356 181 657)::(-358,oF "_law_contrary" 67 p9 357)::(-364,oC "_law_step" 660 264 3 359 (rf 361) (rf 362) 363 181 668)::(-365,oF "_law_step" 68 p9 364)::(-374,oC "_law_plan" 677 274 3 371 .none .none 373 181 680)::(-375,oF "_law_plan" 70 p9 374)::(-381,oC "_law_planted_either" 683 287 4 376 (rf 378) (rf 379) 380 181 693)::(-382,oF "_law_planted_either" 71 p9 381)::(-386,oC "_law_sum_rows" 696 296 3 383 .none .none 385 181 699)::(-387,oF "_law_sum_rows" 72 p9 386)::(-391,oC "_law_odd_ones" 702 307 1 388 .none .none 390 181 705)::(-392,oF "_law_odd_ones" 73 p9 391)::(-398,oC "_law_planted_sum" 708 309 2 393 (rf 395) (rf 396) 397 181 716)::(-399,oF "_law_planted_sum" 74 p9 398)::(-403,oC "_law_rows" 719 317 3 400 .none .none 402 181 722)::(-404,oF "_law_rows" 75 p9 403)::(-408,oC "_law_evenings" 725 332 4 405 .none .none 407 181 728)::(-409,oF "_law_evenings" 76 p9 408)::(-413,oC "_law_full" 731 338 2 410 .none .none 412 181 734)::(-414,oF "_law_full" 77 p9 413)::(-418,oC "_law_lone" 737 351 4 415 .none .none 417 181 740)::(-419,oF "_law_lone" 78 p9 418)::(-423,oC "_law_paths" 743 365 3 420 .none .none 422 181 746)::(-424,oF "_law_paths" 79 p9 423)::(-430,oC "_law_either_papers" 749 384 3 425 (rf 427) (rf 428) 429 181 761)::(-431,oF "_law_either_papers" 80 p9 430)::(-435,oC "_law_sum_papers" 764 398 1 432 .none .none 434 181 767)::(-436,oF "_law_sum_papers" 81 p9 435)::(-442,oC "_law_if_papers" 770 404 3 437 (rf 439) (rf 440) 441 181 778)::(-443,oF "_law_if_papers" 82 p9 442)::(-449,oC "_law_keepers" 781 409 4 444 (rf 446) (rf 447) 448 181 789)::(-450,oF "_law_keepers" 83 p9 449)::(-456,oC "_law_kept_rule" 792 416 5 451 (rf 453) (rf 454) 455 181 801)::(-457,oF "_law_kept_rule" 84 p9 456)::(-461,oC "_law_holds_all" 804 423 4 458 .none .none 460 181 807)::(-462,oF "_law_holds_all" 85 p9 461)::(-468,oC "_law_book" 810 426 6 463 (rf 465) (rf 466) 467 181 822)::(-469,oF "_law_book" 86 p9 468)::(-475,oC "law" 825 435 1 470 (rf 472) (rf 473) 474 181 840)::(-476,oF "law" 87 p9 475)::[]
def hk:Hook:=kHook K (3::20::21::27::28::34::35::39::40::46::47::48::52::53::57::58::62::63::67::68::72::73::79::80::84::85::91::92::96::97::103::104::108::109::113::114::120::121::125::126::132::133::139::140::144::145::149::150::154::155::161::162::166::167::171::172::176::177::183::184::188::189::193::194::200::201::207::208::212::213::219::220::226::227::231::232::236::237::243::244::250::251::257::258::264::265::269::270::274::275::281::282::288::289::295::296::302::303::309::310::316::317::323::324::330::331::335::336::340::341::345::346::350::351::357::358::364::365::374::375::381::382::386::387::391::392::398::399::403::404::408::409::413::414::418::419::423::424::430::431::435::436::442::443::449::450::456::457::461::462::468::469::475::476::[]) (λ_=>by kernel_rfl)
def Q:P7:={pg with main:={pg.main with body:=[Lw.top 87]} }
noncomputable def ls:AL:=(["both_added","added","contrary","led_to","is_road","EXCHANGED_KINDS","exchanged_rule","exchanged","either_holds","sum_holds","if_holds","rule_holds","broken_rules","holds","beacons_in","is_void","without","beacons_with","is_rising","rows_by_beacon","is_plan_row","come_to","either_is_kept","plan_good","is_sum_row","replaced","sums_good","are_some_of","ahead_of","is_row","holds_where_lit","rows_good","keeper_good","is_place","body_is_known","is_step","is_derivation","derived","is_broken","lead_there_and_back","clash_good","cross_good","late_good","odd_good","first_ones","is_first_part","is_last_part","lone_good","either_paper_good","storm_good"]++["good","_law_cell","_law_mixed","_law_hands","_law_own","_law_rule","_law_kept","_law_contrary","_law_step","_law_road","_law_plan","_law_planted_either","_law_sum_rows","_law_odd_ones","_law_planted_sum","_law_rows","_law_evenings","_law_full","_law_lone","_law_paths","_law_either_papers","_law_sum_papers","_law_if_papers","_law_keepers","_law_kept_rule","_law_holds_all","_law_book"]).map Str.ofString
abbrev Xt(s:Shared):Bool:=xlAt Q [] s&&recOk (RowW.records (OpenRow.toRowW PySem.Challenge.rw_duskbook_k33_whole_never_both.row)) s
def GS:∀w:World,(λos=>((staticsOk (importedModules pg.main.body) (boot_heap w.params) (h9 w.params)&&namesBound pg (h9 w.params)&&gensDone (s9 w os)&&laidKept (boot_heap w.params) (h9 w.params)),openSeen Q ls (importedModules pg.main.body) Xt true (s9 w os),Hook.obs hk (s9 w os)))=λ_=>(true,openGood Q ls,Hook.val hk w):=by
 rw[W.Fast.te5923862056798008813,W.Fast.te4187177175401517315];intro w;kernel_rfl
def left:LeftO pg Q ls Xt (Hook.obs hk) (Hook.val hk) 4924:=LeftO.of_pieces (H₁:=h9) op size run (by decide) GS
end Op
end
noncomputable def PySem.W.Fast.tw1136068804433257041:PySem.Program:=PySem.Challenge.pw_duskbook_k33_whole_never_both
theorem PySem.W.Fast.te1136068804433257041:PySem.Challenge.pw_duskbook_k33_whole_never_both=PySem.W.Fast.tw1136068804433257041:=rfl
open PySem PySem.W PyProof.Rows
theorem PySem.Challenge.cw_duskbook_k33_whole_never_both_holds : PySem.Challenge.rw_duskbook_k33_whole_never_both.Holds := by
 w_on;o_law
 refine holds_open (q:=Op.Q) (loose:=Op.ls) (Xt:=Op.Xt) (XP:=XL Op.Q []) (Yf:=Hook.obs Op.hk) (Ya:=Hook.val Op.hk) (YP:=InK Op.K) (N:=4924) Op.left (Hook.of Op.hk) (Hook.keeps Op.hk) (λs e=>xl_of s (Bool.and_eq_true_iff.mp e).1) XL.keeps (by rfl) (by rfl) (by rfl) (λs e=>recFacts_of (Bool.and_eq_true_iff.mp e).2) (by rfl) (by assumption) (by decide +kernel) ⟨rfl,rfl,rfl,rfl,rfl,by decide +kernel⟩ ?hw ?hc
 (case hw=>w_witness2)
 k_fill
 refine Lw.walk Lw.law_true (l:=PySem.Challenge.rw_duskbook_k33_whole_never_both) rfl rfl (K:=Op.K) (λw h Y=>Y) ?F
 case F=>
  intro w mg fa h KX G hmg;refine' Lw.all_mk KX G hmg ..
  all_goals (try (first|(refine' Lw.fk_mk ?a ?l ?c ?k;(case a=>k_is);(case l=>k_is);(case c=>k_is);(case k=>k_is))|k_is))
