import PyProof.Rows.All
import Wide.All
import OpenK.AllK
import Wide.FinOn
import Lean
import PyProof.EqAt
import PyProof.EqKinds
import PyProof.TupleCall
import PySem.Challenge.RW_duskbook_k67_whole_step_by_step
set_option Elab.async false
set_option linter.all false
set_option genSizeOf false
set_option compiler.extract_closed false
set_option maxRecDepth 100000
abbrev J9(l:List (PySem.Str×PySem.NameKind)):PySem.Scope:={ kind:=.function,names:=l,isGenerator:=false,isCoroutine:=false,more:=[] }
def qa{c d:Type _}{o:Option c}{f:c->Option d}{b:d}(h:o.bind f=some b):∃a,o=some a/\f a=some b:=Option.bind_eq_some_iff.mp h
def qc{c d:Type _}{o:Option c}{f:c->d}{b:d}(h:o.map f=some b):∃a,o=some a/\f a=b:=Option.map_eq_some_iff.mp h
def qd:=@Option.bind_some
def qe:=@PySem.Heap.get?_push_of_some
def qf:=@List.length_map
def qg:=@List.mem_cons_of_mem
def qh:=@List.mem_cons_self
def qi:=@Bool.false_ne_true
def qj:=@Array.length_toList
def qk:=@List.size_toArray
def ql:=@PySem.Heap.lt_size
def qm:=@Nat.ne_of_lt
def qo{b:Type _}{l:List b}{i:Nat}{a:b}(h:l[i]?=some a):∃h:i<l.length,l[i]=a:=List.getElem?_eq_some_iff.mp h
def qp:=@PySem.Heap.get?_push_size
def qr:=@List.getElem?_eq_getElem
def qt:=@List.length_cons
def qu{c:Type _}{a b:c}{l:List c}(h:a∈b::l):a=b\/a∈l:=List.mem_cons.mp h
def qv:=@Nat.le_refl
def qw{b:Type _}{a:b}{s t:List b}(h:a∈s++t):a∈s\/a∈t:=List.mem_append.mp h
def qx:=@Nat.lt_succ_of_lt
def qy{c d:Type _}{b:d}{f:c->d}{l:List c}(h:b∈l.map f):∃a,a∈l/\f a=b:=List.mem_map.mp h
def qz:=@List.length_append
def Qa:=@Nat.lt_succ_self
def Qb{m n:Nat}(h:m∈List.range n):m<n:=List.mem_range.mp h
def Qc{b:Type _}{p:b->Bool}{l:List b}{a:b}(h:a∈l.filter p):a∈l/\p a=true:=List.mem_filter.mp h
def Qd:=@List.map_cons
def Qe:=@Bool.and_eq_true
def Qf:=@List.map_map
def Qg:=@Nat.le_trans
def Qh:=@Nat.zero_le
def Qi:=@Nat.lt_of_lt_of_le
def Qj:=@List.nil_append
def Ql:=@List.mem_filter
def Qm:=@List.getElem?_map
def Qn:=@List.length_filter_le
def Qo:=@Bool.false_eq_true
def Qp:=@List.getElem?_set_ne
def Qq:=@List.map_congr_left
def Qr:=@List.mem_append_right
def Qs:=@List.mem_map_of_mem
set_option maxHeartbeats 4000000
set_option hygiene false in
local macro_rules|`(tactic|and_intros)=>`(tactic|(intro _ _ _ _ _ _ us b;first|(obtain⟨_,rfl⟩:=iv b;rfl)|(obtain⟨_,_,rfl⟩:=gi b;rfl)|(obtain⟨_,_,_,rfl⟩:=fA b;rfl)|(obtain⟨_,_,_,_,rfl⟩:=pj b;rfl)|(obtain⟨_,_,_,_,_,rfl⟩:=pk b;rfl)|(obtain⟨_,_,_,_,_,_,rfl⟩:=pq b;rfl)|(obtain⟨_,_,_,_,_,_,_,rfl⟩:=Ea b;rfl)))
local macro_rules|`(tactic|ext)=>`(tactic|simp_all)
local macro_rules|`(tactic|grind)=>`(tactic|grind -abstractProof)
local macro_rules|`(tactic|lia)=>`(tactic|lia -abstractProof)
local macro_rules|`(tactic|symm)=>`(tactic|grind -lax)
local macro_rules|`(tactic|ac_nf)=>`(tactic|lia -lax)
local macro_rules|`(∅)=>`(by ac_nf)
local macro_rules|`(⋯)=>`(by symm)
local macro_rules|`(term|nofun)=>`(by simp)
local macro_rules|`(tactic|trivial)=>`(tactic|first|exact .inl rfl|exact .inr rfl|exact .inr (.inl rfl)|exact .inr (.inr rfl)|assumption)
local macro_rules|`(~~~$x)=>`(($x).heap.objs.size)|`(↑$x)=>`(some (.sh $x))
abbrev AA:=PySem.Value->PySem.Shared->Prop
abbrev AB:=List (PySem.Addr×PySem.Obj)
abbrev AC:=List PySem.Value
abbrev AD:=PySem.Str->Option PySem.Value
abbrev AE:=List Nat
abbrev AF:=List Int
abbrev AG:=List Bool
abbrev AH:=Nat->Bool
abbrev AJ:=List PySem.Str
abbrev AK:=List PySem.Expr
abbrev AL:=Option Nat
def wa:=@PySem.wpAny_bind
def wc:=@PySem.wpAny_pure
def we:=@PySem.wpAny_holding
def wg:=@PySem.wpAny_call_entry
def wh:=@PySem.wpAny_newObj_type
def wj:=@PySem.wpAny_setState_of
def wm:=@decide_eq_true_eq
def wn:=@decide_eq_true
def wq:=@decide_eq_false
def wt:=@of_decide_eq_true
def wu:=@List.map_append
def wv:=@Function.comp_def
def ww:=@PySem.Heap.SameBut.update
def wx:=@PySem.Heap.size_push
def wy:=@PySem.Heap.get?_update_self
def wz:=@PySem.codeAny_builtin
def w4:=@PySem.wpAny_mono
def w5:=@Option.some.inj
def w6:=@Int.toNat_natCast
def w9:=@List.append_nil
def ja:=@List.append_assoc
def jb:=@List.length_singleton
def jc:=@PySem.plainId_quiet
def jd:=@PySem.Around.under_plainId
def je:=@PySem.PassesOwn.never
def jf:=@PySem.Obj.data_mapFields
def jg:=@PySem.wpAny_attempt
def jh:=@PySem.sizeLine_eq
abbrev mZ:=@PySem.model
abbrev W7:=PySem.W.Frag
abbrev P7:=PySem.Program
noncomputable section
namespace L2
variable {X:Cx}{pins:AB}{pos pos' tpos apos cpos:Pos}{ys:AM}{prog:P7}{K:W7}{dx:Addr}{value:Expr}{tv:TE}{es:AK}
open PySem PySem.Spec PyProof.Rows
abbrev aX:=Sum Int Str
noncomputable def jG:aX->Value->Bool
 | .inl k,v=>Value.isInt k v
 | .inr x,v=>Value.isStrOf x v
noncomputable def x3(w:World):aX->Int
 | .inl k=>hashInt k
 | .inr x=>hashStr w x
theorem gB:∀{k:aX}{v:Value},jG k v=true->(∃i t,k=Sum.inl i/\v=Value.int i t)\/(∃x t,k=Sum.inr x/\v=Value.str x t)
 | .inl i,v,h=>by
   obtain⟨t,e⟩:=Value.isInt_shape h;exact .inl ⟨i,t,rfl,e⟩
 | .inr x,v,h=>by
   obtain⟨t,e⟩:=Value.isStrOf_shape h;exact .inr ⟨x,t,rfl,e⟩
def QK(i:Int)(t:Tok):jG (.inl i) (.int i t)=true:=by simp[jG,Value.isInt]
def QL(x:Str)(t:Tok):jG (.inr x) (.str x t)=true:=by simp[jG,Value.isStrOf]
theorem x4(a b:Int):decide ((Sum.inl a:aX)=Sum.inl b)=(a==b):=by ext<;>lia
theorem x5(a b:Str):decide ((Sum.inr a:aX)=Sum.inr b)=decide (a=b):=by ext
theorem x6(a:Int)(b:Str):decide ((Sum.inl a:aX)=Sum.inr b)=false:=by grind
theorem x8(a:Str)(b:Int):decide ((Sum.inr a:aX)=Sum.inl b)=false:=by grind
def Yt(prog:P7)(w:World):KeyKind prog w aX where
 is:=jG
 hash:=x3 w
 inj:=λv a b l m=>by
  rcases gB l with⟨i,t,rfl,rfl⟩|⟨x,t,rfl,rfl⟩
  .rcases gB m with⟨j,u,rfl,e⟩|⟨y,u,rfl,e⟩
   .grind
   grind
  .rcases gB m with⟨j,u,rfl,e⟩|⟨y,u,rfl,e⟩
   .grind
   grind
 byValue:=λk v h=>by
  rcases gB h with⟨i,t,rfl,rfl⟩|⟨x,t,rfl,rfl⟩<;>rfl
 pyHash:=λd h=>by
  rcases gB d with⟨i,t,rfl,rfl⟩|⟨x,t,rfl,rfl⟩
  .exact wpAny_pyHash_int h
  .exact wpAny_pyHash_str h
 eqBool:=λg d h=>by
  rcases gB g with⟨i,t,rfl,rfl⟩|⟨x,t,rfl,rfl⟩
  .rcases gB d with⟨j,u,rfl,rfl⟩|⟨y,u,rfl,rfl⟩
   .rw[x4]at h;exact wpAny_eqBool_int h
   .exact SeqAt.EqAt.int_str i t y u _ _ _ _ h
  .rcases gB d with⟨j,u,rfl,rfl⟩|⟨y,u,rfl,rfl⟩
   .exact SeqAt.EqAt.str_int x t j u _ _ _ _ h
   .rw[x5]at h;exact wpAny_eqBool_str h
 «strs»:=λk x t v h=>by
  rcases gB h with⟨i,u,rfl,e⟩|⟨y,u,rfl,e⟩
  .grind
  .injection e with n _
   subst n;cases v<;>rfl
def QM(prog:P7)(w:World)(i:Int)(t:Tok):(Yt prog w).is (.inl i) (.int i t)=true:=QK i t
def QN(prog:P7)(w:World)(x:Str)(t:Tok):(Yt prog w).is (.inr x) (.str x t)=true:=QL x t
inductive V where
 | non|bl (b:Bool)|int (i:Int)|str (x:Str)|byt (b:Array UInt8)|flt (b:UInt64)|ref (a:Addr)|ty (n:String)
 deriving DecidableEq
abbrev AM:=List V
def RelV:V->Value->Prop
 | .non,u=>u=.none
 | .bl b,u=>u=.bool b
 | .int i,u=>∃t,u=.int i t
 | .str x,u=>∃t,u=.str x t
 | .byt b,u=>∃t,u=.bytes b t
 | .flt b,u=>∃t,u=.float b t
 | .ref a,u=>u=.ref a
 | .ty n,u=>u=.type n
abbrev Vals:AM->AC->Prop:=Paired RelV
def Vals.length(r:Vals xs us):xs.length=us.length:=Paired.length r
theorem Vals.get:∀{xs:AM}{us:AC}{i:Nat}{x:V},Vals xs us->xs[i]?=some x->∃u,us[i]?=some u/\RelV x u
 | _,_,_,_,.nil,e=>by simp at e
 | _,_,0,_,.cons r _,e=>by ext
 | _,_,i+1,x,.cons _ t,e=>by
   obtain⟨u,a,b⟩:=Vals.get t (by simpa using e)
   ext
theorem Vals.append:∀{xs ys:AM}{us a:AC},Vals xs us->Vals ys a->Vals (xs++ys) (us++a)
 | _,_,_,_,.nil,s=>s
 | _,_,_,_,.cons r t,s=>.cons r (Vals.append t s)
theorem Vals.take:∀{xs:AM}{us:AC} (n:Nat),Vals xs us->Vals (xs.take n) (us.take n)
 | _,_,0,_=>.nil
 | _,_,_+1,.nil=>.nil
 | _,_,n+1,.cons r t=>.cons r (Vals.take n t)
theorem Vals.drop:∀{xs:AM}{us:AC} (n:Nat),Vals xs us->Vals (xs.drop n) (us.drop n)
 | _,_,0,r=>r
 | _,_,_+1,.nil=>.nil
 | _,_,n+1,.cons _ t=>.drop n t
def RelO:Option V->Option Value->Prop
 | some v,some u=>RelV v u
 | none,none=>True
 | _,_=>False
def KV{κ:Type}:List (κ×V)->List (κ×Value)->Prop:=Paired λp q=>p.1=q.1/\RelV p.2 q.2
noncomputable def kV:aX->V
 | .inl i=>.int i
 | .inr x=>.str x
inductive HO where
 | lst (xs:AM)
 | tup (xs:AM)
 | dK (kvs:List (aX×V))|dT (kvs:List (List aX×V))
 | set (S:Int->Bool) (n:Nat)
 | ins (C dx:Addr) (fs:List (Str×V))
 | own (x:Addr)
 | xd (fs:List (Str×V))
 | met (f x:Addr)
 | rng (lo hi:Int)
 | frz (o:Obj) (u:HO)
 | tbl (ps:Array Value)
 | ext (φ:Heap->Prop)
abbrev Hp:=Addr->Option HO
noncomputable def upd(H:Hp)(a:Addr)(o:HO):Hp:=λb=>if b=a then some o else H b
theorem Yg:upd H a o a=some o:=by unfold upd;grind
def Yh(h:b≠a):upd H a o b=H b:=by unfold upd;rw[if_neg h]
theorem x9{H:Hp}(h:H a=some o)(h':H b=some u)(d:o≠u):a≠b:=by grind
theorem Yk{H:Hp}(h:H a=some o)(c:H b=none):a≠b:=by grind
section
variable (P:P7)(w:World)
def ObjOk(H:Hp)(h:Heap)(a:Addr):HO->Prop
 | .lst xs=>xs.length<=sizeLine/\∃(its:AC) (n:Nat),Vals xs its/\h.get? a=some {cls:=.type "list",data:=.seq its.toArray n}
 | .tup xs=>xs.length<=sizeLine/\∃its:AC,Vals xs its/\IsTup h a its.toArray
 | .dK c=>c.length<=sizeLine/\(a==sysModules)=false/\∃vs,KV c vs/\h.DictOf (Yt P w) a vs
 | .dT c=>c.length<=sizeLine/\(a==sysModules)=false/\∃xs:List (List aX×Addr×Value),
  Paired (λp q=>p.1=q.1/\H q.2.1=some (.tup (p.1.map kV))/\RelV p.2 q.2.2) c xs/\
  ∃o k m,h.get? a=some o/\o.ExactDict/\o.data=.dict k m/\k.toList=xs.map (entryOfKey (tupleKind (Yt P w)))/\(xs.map (·.1)).Nodup
 | .set S n=>h.SetOf (intKind P w) a S n
 | .ins C g e=>H g=some (.own a)/\e.length<=1000/\g≠a/\h.get? a=some (W.instObj C g)/\
  ∃d,h.Ns1 g d/\(∀f,RelO (e.lookup f) (d f))/\PySem.Within d (e.map (·.1))
 | .own _=>∃o,h.get? a=some o
 | .xd e=>∃d,h.Ns1 a d/\∀f,RelO (e.lookup f) (d f)
 | .rng lo r=>∃t u v,h.get? a=some {cls:=.type "range",data:=.fields #[.int lo t,.int r u,.int 1 v]}
 | .frz o u=>h.get? a=some o/\ObjOk H h a u
 | .tbl ps=>h.get? a=some {cls:=.none,data:=.fields ps}
 | .met f x=>h.get? a=some (W.methodObj (.ref f) (.ref x))
 | .ext i=>i h/\(∃o,h.get? a=some o)/\∀j l,i j->(∀o,j.get? a=some o->l.get? a=some o)->i l
def HOk(H:Hp)(h:Heap):Prop:=∀a o,H a=some o->ObjOk P w H h a o
end
section
variable {P:P7}{w:World}{H H':Hp}{h h':Heap}{a:Addr}{o:HO}
def ObjOk.lt(x:ObjOk P w H h a o):a<h.objs.size:=by
 cases o with
 | lst k=>obtain⟨_,_,_,_,e⟩:=x;exact ql e
 | tup k=>obtain⟨_,_,_,p⟩:=x;exact p.lt
 | dK b=>obtain⟨_,_,_,_,o,_,_,e,_⟩:=x;exact ql e
 | dT b=>obtain⟨_,_,_,_,o,_,_,e,_⟩:=x;exact ql e
 | set S n=>obtain⟨o,_,_,_,e,_⟩:=x;exact ql e
 | ins C i c=>obtain⟨_,_,_,e,_⟩:=x;exact ql e
 | own y=>obtain⟨_,e⟩:=x;exact ql e
 | xd c=>obtain⟨_,⟨_,_,_,e,_⟩,_⟩:=x;exact ql e
 | rng lo g=>obtain⟨_,_,_,e⟩:=x;exact ql e
 | frz d u=>obtain⟨e,_⟩:=x;exact ql e
 | tbl l=>exact ql (x)
 | met f y=>exact ql (x)
 | ext j=>obtain⟨_,⟨_,e⟩,_⟩:=x;exact ql e
theorem Paired.mapP:∀{g:List d}{c:List e},Paired F g c->(∀a b,F a b->G a b)->Paired G g c
 | _,_,.nil,_=>.nil
 | _,_,.cons r t,f=>.cons (f _ _ r) (Paired.mapP t f)
theorem ObjOk.stay(x:ObjOk P w H h a o)(k:∀b u,(b=a\/H b=some (.own a))->h.get? b=some u->h'.get? b=some u)(G:∀b,H b=some (.own a)->H' b=some (.own a))(E:∀b xs,H b=some (.tup xs)->H' b=some (.tup xs)):ObjOk P w H' h' a o:=by
 induction o with
 | lst xs=>obtain⟨z,l,n,r,e⟩:=x;exact⟨z,l,n,r,k _ _ (.inl rfl) e⟩
 | tup xs=>obtain⟨z,l,r,g,e,c⟩:=x;exact⟨z,l,r,g,k _ _ (.inl rfl) e,c⟩
 | dK s=>obtain⟨z,y,L,r,g,i,j,e,c⟩:=x;exact⟨z,y,L,r,g,i,j,k _ _ (.inl rfl) e,c⟩
 | dT s=>
   obtain⟨z,y,xs,r,g,i,j,e,c⟩:=x;exact⟨z,y,xs,Paired.mapP r λp q z=>⟨z.1,E _ _ z.2.1,z.2.2⟩,g,i,j,k _ _ (.inl rfl) e,c⟩
 | set S n=>obtain⟨g,i,j,t,e,c⟩:=x;exact⟨g,i,j,t,k _ _ (.inl rfl) e,c⟩
 | ins C I D=>
   obtain⟨d,z,B,e,A,⟨m,i,j,M,c⟩,r⟩:=x;exact⟨G _ d,z,B,k _ _ (.inl rfl) e,A,⟨m,i,j,k _ _ (.inr d) M,c⟩,r⟩
 | own y=>obtain⟨g,e⟩:=x;exact⟨g,k _ _ (.inl rfl) e⟩
 | xd D=>obtain⟨A,⟨m,i,j,e,c⟩,r⟩:=x;exact⟨A,⟨m,i,j,k _ _ (.inl rfl) e,c⟩,r⟩
 | rng lo K=>obtain⟨t,u,v,e⟩:=x;exact⟨t,u,v,k _ _ (.inl rfl) e⟩
 | frz g u F=>obtain⟨e,q⟩:=x;exact⟨k _ _ (.inl rfl) e,F q⟩
 | tbl N=>
   have e:_=_:=x;show _=_
   ext
 | met f y=>
   have e:_=_:=x;show _=_
   ext
 | ext J=>obtain⟨p,⟨o,e⟩,st⟩:=x;exact⟨st _ _ p λo q=>k _ _ (.inl rfl) q,⟨o,k _ _ (.inl rfl) e⟩,st⟩
def HOk.lt(x:HOk P w H h)(e:H a=some o):a<h.objs.size:=(x a o e).lt
def HOk.fresh(x:HOk P w H h)(e:h.objs.size<=a):H a=none:=by
 cases q:H a with
 | none=>rfl
 | some u=>exact absurd (Qi (x.lt q) e) (Nat.lt_irrefl _)
def HOk.kept(x:HOk P w H h)(k:∀b u,h.get? b=some u->h'.get? b=some u):HOk P w H h':=λa o e=>
 (x a o e).stay (λb u _ q=>k b u q) (λ_ q=>q) λ_ _ q=>q
theorem HOk.laid(x:HOk P w H h)(k:∀b u,h.get? b=some u->h'.get? b=some u)(g:h.objs.size<=a)(f:ObjOk P w (upd H a o) h' a o):HOk P w (upd H a o) h':=λb u e=>by
 have d:=x.fresh g;by_cases i:b=a
 .subst i;rw[Yg]at e;grind
 .rw[Yh i]at e
  exact(x b u e).stay (λc v _ q=>k c v q) (λc q=>by rwa [Yh (Yk q d)]) λc j q=>by rwa [Yh (Yk q d)]
end
def Rd(H:Hp)(a:Addr)(u:HO):Prop:=H a=some u\/∃o,H a=some (.frz o u)
def Rd.ok(r:Rd H a u)(x:HOk P w H h):ObjOk P w H h a u:=by
 rcases r with r|⟨o,r⟩
 .exact x a u r
 .obtain⟨_,q⟩:=x a _ r
  exact q
def mR:Option HO->Prop
 | some (.lst _)=>True
 | some (.dK _)=>True
 | some (.dT _)=>True
 | some (.set _ _)=>True
 | some (.ins _ _ _)=>True
 | some (.ext _)=>True
 | _=>False
section
variable {P:P7}{w:World}{H:Hp}{h h':Heap}{x e:Addr}{o':HO}
theorem HOk.write(l:HOk P w H h)(d:mR (H x))(o:e=x\/H e=some (.own x))(k:∀b u,b≠e->h.get? b=some u->h'.get? b=some u)(f:∃u,h'.get? e=some u)(i:ObjOk P w (upd H x o') h' x o'):HOk P w (upd H x o') h':=λb u q=>by
 have a:∀c y,H c=some (.own y)->c≠x:=λc y r z=>by subst z;rwa [r]at d
 by_cases p:b=x
 .subst p;rw[Yg]at q;grind
 .rw[Yh p]at q
  by_cases j:b=e
  .have g:H b=some (.own x):=by
    grind
   rw[q]at g;cases g;obtain⟨v,m⟩:=f;exact⟨v,by grind⟩
  .refine(l b u q).stay (λc v n r=>k c v ?_ r) (λc r=>by rwa [Yh (a c b r)]) λc s r=>by rwa [Yh ((λc s r z=>by subst z;rwa [r]at d) c s r)]
   grind
end
structure Un(fs ex:List Addr)(H H':Hp)(h h':Heap):Prop where
 keep:∀b o,h.get? b=some o->H b=none->b∉fs->b∉ex->h'.get? b=some o
 slot:∀b o,h.get? b=some o->H b=none->b∈fs->b∉ex->∃sl,h'.get? b=some {o with slots:=sl}
 free:∀b o,h.get? b=some o->H b=none->b∉ex->H' b=none
 there:∀b o,h.get? b=some o->b∉ex->∃o',h'.get? b=some o'
 tups:∀b xs,H b=some (.tup xs)->H' b=some (.tup xs)
 frzs:∀b o u,H b=some (.frz o u)->H' b=some (.frz o u)
 tbls:∀b ps,H b=some (.tbl ps)->∃more,H' b=some (.tbl (ps++more))
section
variable {fs fs' ex ex':List Addr}{H H1 H2:Hp}{h h1 h2 h':Heap}{a x e:Addr}{o:HO}
def Un.any(u:Un fs ex H H1 h h1)(q:h.get? b=some c)(n:H b=none)(d:b∉ex):∃f,h1.get? b=some {c with slots:=f}:=by
 by_cases a:b∈fs
 .exact u.slot b c q n a d
 .exact⟨c.slots,u.keep b c q n a d⟩
def Un.kept(k:∀b u,h.get? b=some u->h'.get? b=some u):Un fs ex H H h h':=
 ⟨λb c q _ _ _=>k b c q,λb c q _ _ _=>⟨c.slots,k b c q⟩,λ_ _ _ n _=>n,λb c q _=>⟨c,k b c q⟩,λ_ _ q=>q,λ_ _ _ q=>q,λ_ a q=>⟨#[],by rw[q];simp⟩⟩
def Un.refl:Un fs ex H H h h:=.kept λ_ _ q=>q
theorem Un.laid(k:∀b u,h.get? b=some u->h'.get? b=some u)(d:h.objs.size<=a)(c:H a=none):Un fs ex H (upd H a o) h h' where
 keep:=λb u q _ _ _=>k b u q
 slot:=λb u q _ _ _=>⟨u.slots,k b u q⟩
 free:=λb u q n _=>by rwa [Yh (qm (Qi (ql q) d))]
 there:=λb u q _=>⟨u,k b u q⟩
 tups:=λb e q=>by rwa [Yh (Yk q c)]
 frzs:=λb u e q=>by rwa [Yh (Yk q c)]
 tbls:=λb f q=>⟨#[],by rw[Yh (Yk q c),q];simp⟩
theorem Un.write(d:mR (H x))(j:e=x\/H e=some (.own x))(k:∀b u,b≠e->h.get? b=some u->h'.get? b=some u)(g:∃u,h'.get? e=some u):Un fs ex H (upd H x o) h h':=by
 have f:∀b,H b=none->b≠x:=λb n z=>by subst z;rwa [n]at d
 have a:∀b,H b=none->b≠e:=λb n z=>by
  ext
 have c:∀b u,H b=some u->¬mR (some u)->b≠x:=λb u q i z=>by grind
 refine⟨λb u q n _ _=>k b u (a b n) q,λb u q n _ _=>⟨u.slots,k b u (a b n) q⟩,λb u q n _=>by rwa [Yh (f b n)],λb u q _=>?_,
  λb l q=>by rwa [Yh (c b _ q λz=>z)],λb u l q=>by rwa [Yh (c b _ q λz=>z)],λb m q=>⟨#[],by rw[Yh (c b _ q λz=>z),q];simp⟩⟩
 grind
end
noncomputable def QO(h:Heap)(H:Hp):List Addr:=(List.range h.objs.size).filter λa=>(H a).isSome
def ek(h:Heap)(H:Hp):Heap:=W.hideAll h (QO h H)
def QQ(h:Heap)(H:Hp):(ek h H).objs.size=h.objs.size:=W.hideAll_size _ _
theorem QR(e:h.get? b=some o)(n:H b=none):(ek h H).get? b=some o:=
 W.hideAll_get _ e λc=>by
  have q:=(Qc c).2;grind
theorem x_(e:(ek h H).get? b=some o):h.get? b=some o/\H b=none:=by
 have c:=W.of_hideAll _ e;refine⟨c,?_⟩
 cases q:H b with
 | none=>rfl
 | some x=>
   have z:(ek h H).get? b=none:=W.hideAll_none _ (List.mem_filter.mpr ⟨List.mem_range.mpr (ql c),by simp[q]⟩);grind
structure Mod(K:W7)(mg:AD)(base:Heap):Prop where
 kin:K.In base
 glob:base.Ns mainGlobals mg
 blt:∃mb,base.Ns builtinsNs mb/\∀x:Str,x≠"__name__"->mb x=bootBuiltins x
 nolimit:base.NoLimit
structure Cx where
 prog:P7
 w:World
 K:W7
 mg:AD
 base:Heap
 A:Around
 N:AJ
 s₀:Shared
 H₀:Hp
 env:Env
 outer:List Env
 stack:List Env
 ex:List Addr
 fn:Str->Bool
 calm:Bool
 pn:AB
 xe:AA
noncomputable def fF(l:List Env):List Addr:=l.filterMap (·.frame)
abbrev Cx.fs(X:Cx):List Addr:=fF X.outer
def eW(a:Scope)(x:Str):Prop:=a.names.lookup x=some .local\/a.names.lookup x=some .cell\/a.names.lookup x=some .free
def c9(a:Scope)(x:Str):Prop:=a.names.lookup x=some .local\/a.names.lookup x=some .cell
def ya(env:Env)(h:Heap)(m:AD)(x:Str)(u:Value):Prop:=
 env.kindOf x=some .local/\m x=some u\/((env.kindOf x=some .cell\/env.kindOf x=some .free)/\∃c,env.cells.lookup x=some c/\h.IsCell c (some u))
structure Cx.Ok(X:Cx):Prop where
 mod:Mod X.K X.mg X.base
 kind:X.env.scope.kind=.function
 glob:X.env.globals=mainGlobals
 blt:X.env.builtins=builtinsNs
 above:X.s₀.heap.objs.size<=X.env.locals
 inj:∀x y c,X.env.cells.lookup x=some c->X.env.cells.lookup y=some c->x=y
 has:∀x,(X.env.kindOf x=some .cell\/X.env.kindOf x=some .free)->∃c,X.env.cells.lookup x=some c
 cab:∀x c,X.fn x=true->X.env.cells.lookup x=some c->X.s₀.heap.objs.size<=c
 hd:X.calm=true->X.A.handled=none
 frames:X.A.frames=some X.stack
 stk:X.stack=X.outer\/(X.stack=X.env::X.outer/\X.env.frame=some X.env.locals)
 exf:∀b∈X.ex,b≠X.env.locals/\∀x c,X.env.cells.lookup x=some c->c≠b
 bs:∀b o,X.base.get? b=some o->X.s₀.heap.get? b=some o/\X.H₀ b=none
 bsz:X.base.objs.size<=X.s₀.heap.objs.size
 noex:∀b o,X.base.get? b=some o->b∉X.ex
 exfs:∀b∈X.ex,b∉X.fs
 funs:X.s₀.heap.FunFrames X.base X.outer
 frf:∀b∈X.fs,X.H₀ b=none
structure Inv(X:Cx)(pins:AB)(σ:List (Option V))(H:Hp)(s:Shared):Prop where
 ok:X.Ok
 os:s.os=X.s₀.os
 bare:AllBare s.gens
 base:Un X.fs X.ex X.H₀ H X.s₀.heap s.heap
 loc:∃m,s.heap.Ns X.env.locals m/\∀(i:Nat) (x:Str) (v:V),X.N[i]?=some x->σ[i]?=some (some v)->eW X.env.scope x->∃u,RelV v u/\ya X.env s.heap m x u
 cell:∀x c,X.env.cells.lookup x=some c->∃v,s.heap.IsCell c v
 free:H X.env.locals=none
 freeC:∀x c,X.env.cells.lookup x=some c->H c=none
 pin:∀p∈X.pn++pins,s.heap.get? p.1=some p.2/\H p.1=none/\p.1≠X.env.locals/\p.1∉X.fs/\∀v,p.2.data≠.cell v
 hok:HOk X.prog X.w H s.heap
 len:σ.length=X.N.length
section
variable {σ:List (Option V)}{H H':Hp}{s:Shared}{h':Heap}
theorem Cx.Ok.nofr(c:X.Ok)(e:X.base.get? b=some o):b∉X.fs:=λa=>by
 have:=(c.funs.mem a).1;grind
def Inv.bs(I:Inv X pins σ H s):∀b o,X.base.get? b=some o->s.heap.get? b=some o/\H b=none:=λb o e=>
 ⟨I.base.keep b o (I.ok.bs b o e).1 (I.ok.bs b o e).2 (I.ok.nofr e) (I.ok.noex b o e),I.base.free b o (I.ok.bs b o e).1 (I.ok.bs b o e).2 (I.ok.noex b o e)⟩
def Inv.bk(I:Inv X pins σ H s):∀b o,X.base.get? b=some o->s.heap.get? b=some o:=λb o e=>(I.bs b o e).1
def Inv.mod(I:Inv X pins σ H s):Mod X.K X.mg X.base:=I.ok.mod
def Inv.kIn(I:Inv X pins σ H s):X.K.In s.heap:=I.ok.mod.kin.keeps I.bk
def Inv.lt(I:Inv X pins σ H s):X.env.locals< ~~~s:=let ⟨_,a,_⟩:=I.loc;a.lt
def Inv.sz(I:Inv X pins σ H s):X.s₀.heap.objs.size<= ~~~s:=Qg I.ok.above (Nat.le_of_lt I.lt)
def Inv.nofs(I:Inv X pins σ H s){a:Addr}(h:(~~~s)<=a):a∉X.fs:=λc=>by
 obtain⟨_,o,b,_⟩:=I.ok.funs.mem c;exact absurd (Qi (ql b) (Qg I.sz h)) (Nat.lt_irrefl _)
theorem Inv.cne(I:Inv X pins σ H s):∀x c,X.env.cells.lookup x=some c->c≠X.env.locals:=λx c e z=>by
 obtain⟨v,o,d,i⟩:=I.cell x c e;obtain⟨m,⟨g,f,h,b,a,_⟩,_⟩:=I.loc;grind
theorem Inv.funs(I:Inv X pins σ H s):s.heap.FunFrames X.base X.outer:=by
 have c:∀(l:_),(∀b∈fF l,b∈X.fs)->X.s₀.heap.FunFrames X.base l->s.heap.FunFrames X.base l:=by
  intro l
  induction l with
  | nil=>intro _ _;trivial
  | cons t r k=>
    intro q m;obtain⟨j,⟨L,o,d,i,f,h⟩,g⟩:=m;have a:=q L (by unfold fF;ext);obtain⟨n,e⟩:=I.base.slot L o f (I.ok.frf L a) a λz=>I.ok.exfs L z a;exact⟨j,⟨L,_,d,i,e,h⟩,k (λb p=>q b (by unfold fF;rw[List.filterMap_cons,d];exact qg _ p)) g⟩
 exact c _ (λ_ p=>p) I.ok.funs
def Inv.stack(I:Inv X pins σ H s):s.heap.FunFrames X.base X.stack:=by
 rcases I.ok.stk with e|⟨e,b⟩
 .rw[e];exact I.funs
 .rw[e]
  obtain⟨m,a,_⟩:=I.loc;exact .cons (by rw[I.ok.kind];decide) b a (Heap.get?_none_of_le (Qg I.ok.bsz I.ok.above)) I.funs
theorem Inv.stkSub(I:Inv X pins σ H s):∀b∈fF X.stack,b∈X.env.locals::X.fs:=λb c=>by
 rcases I.ok.stk with e|⟨e,a⟩
 .grind
 .rw[e]at c
  unfold fF at c
  rwa [List.filterMap_cons,a]at c
def Inv.stkFree(I:Inv X pins σ H s):∀b∈fF X.stack,H b=none:=λb c=>by
 rcases qu (I.stkSub b c)with e|c
 .rw[e];exact I.free
 .obtain⟨_,o,a,_⟩:=I.ok.funs.mem c
  exact I.base.free b o a (I.ok.frf b c) λz=>I.ok.exfs b z c
theorem Inv.step{ch:List Addr}(I:Inv X pins σ H s)(hch:∀b∈ch,(b∈X.ex\/X.s₀.heap.objs.size<=b)/\b≠X.env.locals/\(∀x c,X.env.cells.lookup x=some c->c≠b)/\∀p∈X.pn++pins,p.1≠b)(keep:∀b o,b≠X.env.locals->b∉X.fs->b∉ch->s.heap.get? b=some o->H b=none->h'.get? b=some o)(slot:∀b o,b≠X.env.locals->b∈X.fs->b∉ch->s.heap.get? b=some o->H b=none->∃sl,h'.get? b=some {o with slots:=sl})(free:∀b o,b∉ch->s.heap.get? b=some o->H b=none->H' b=none)(there:∀b o,b∉ch->s.heap.get? b=some o->∃o',h'.get? b=some o')(tups:∀b xs,H b=some (.tup xs)->H' b=some (.tup xs))(frzs:∀b o u,H b=some (.frz o u)->H' b=some (.frz o u))(tbls:∀b ps,H b=some (.tbl ps)->∃more,H' b=some (.tbl (ps++more)))(ns:∀m,s.heap.Ns X.env.locals m->h'.Ns X.env.locals m)(hok:HOk X.prog X.w H' h')(hg:AllBare g'):
 Inv X pins σ H' {s with heap:=h',gens:=g',drawn:=d',toks:=t' }:=by
 have neL:∀b o,X.s₀.heap.get? b=some o->b≠X.env.locals:=λb o e=>qm (Qi (ql e) I.ok.above)
 have neC:∀b o,X.s₀.heap.get? b=some o->b∉X.ex->b∉ch:=λb o e hx hb=>by
  rcases(hch b hb).1 with z|z
  .exact hx z
  .exact absurd (Qi (ql e) z) (Nat.lt_irrefl _)
 have cellK:∀x c,X.env.cells.lookup x=some c->∀v,s.heap.IsCell c v->h'.IsCell c v:=λx c e v hx_=>by
  obtain⟨o,ho,hd⟩:=hx_;have nch:c∉ch:=λz=>(hch c z).2.2.1 x c e rfl;by_cases hc:c∈X.fs
  .obtain⟨sl,q⟩:=slot c o (I.cne x c e) hc nch ho (I.freeC x c e)
   exact⟨_,q,hd⟩
  .exact⟨o,keep c o (I.cne x c e) hc nch ho (I.freeC x c e),hd⟩
 refine⟨I.ok,I.os,hg,⟨λb o e n hb hx=>?_,λb o e n hb hx=>?_,λb o e n hx=>?_,λb o e hx=>?_,λb xs e=>tups b xs (I.base.tups b xs e),λb o xs e=>frzs b o xs (I.base.frzs b o xs e),λb ps e=>?_⟩,?_,λx c e=>?_,?_,λx c e=>?_,λp hp=>?_,hok,I.len⟩
 .exact keep b o (neL b o e) hb (neC b o e hx) (I.base.keep b o e n hb hx) (I.base.free b o e n hx)
 .obtain⟨sl,e1⟩:=I.base.slot b o e n hb hx
  obtain⟨sl',e2⟩:=slot b _ (neL b o e) hb (neC b o e hx) e1 (I.base.free b o e n hx);exact⟨sl',e2⟩
 .obtain⟨o',e1⟩:=I.base.there b o e hx
  exact free b o' (neC b o e hx) e1 (I.base.free b o e n hx)
 .obtain⟨o',e1⟩:=I.base.there b o e hx
  exact there b o' (neC b o e hx) e1
 .obtain⟨m1,e1⟩:=I.base.tbls b ps e
  obtain⟨m2,e2⟩:=tbls b _ e1;exact⟨m1++m2,by rw[e2,Array.append_assoc]⟩
 .obtain⟨m,hn,hl⟩:=I.loc
  refine⟨m,ns m hn,λi x v e1 e2 e3=>?_⟩;obtain⟨u,r,l⟩:=hl i x v e1 e2 e3;refine⟨u,r,?_⟩;rcases l with l|⟨k,c,e,z⟩
  .exact .inl l
  .exact .inr ⟨k,c,e,cellK x c e _ z⟩
 .obtain⟨v,z⟩:=I.cell x c e
  exact⟨v,cellK x c e v z⟩
 .obtain⟨m,⟨o,_,_,ho,_⟩,_⟩:=I.loc
  exact free _ o (λz=>(hch _ z).2.1 rfl) ho I.free
 .obtain⟨v,o,ho,hd⟩:=I.cell x c e
  exact free c o (λz=>(hch c z).2.2.1 x c e rfl) ho (I.freeC x c e)
 .obtain⟨e,n,ne,nf,d⟩:=I.pin p hp
  have nch:p.1∉ch:=λz=>(hch p.1 z).2.2.2 p hp rfl;exact⟨keep p.1 p.2 ne nf nch e n,free p.1 p.2 nch e n,ne,nf,d⟩
theorem Inv.un(I:Inv X pins σ H s)(u:Un X.fs [] H H' s.heap h')(f:HOk X.prog X.w H' h'):Inv X pins σ H' {s with heap:=h',toks:=t' }:=by
 obtain⟨m,⟨o,q,t,g,r⟩,_⟩:=id I.loc;obtain⟨p,j⟩:=u.any g I.free nofun
 exact I.step (ch:=[]) (λ_ z=>nomatch z) (λb o _ v _ e n=>u.keep b o e n v nofun) (λb o _ v _ e n=>u.slot b o e n v nofun) (λb o _ e n=>u.free b o e n nofun) (λb o _ e=>u.there b o e nofun) u.tups u.frzs u.tbls (λk h=>by
  obtain⟨l,c,d,a,i⟩:=h;rw[g]at a;cases a
  exact⟨_,c,d,j,i⟩) f I.bare
def Inv.call(I:Inv X pins σ H s)(u:Un (fF X.stack) ch H H' s.heap h')(i:HOk X.prog X.w H' h')(q:AllBare D)(d:∀b∈ch,(b∈X.ex\/X.s₀.heap.objs.size<=b)/\b≠X.env.locals/\(∀x c,X.env.cells.lookup x=some c->c≠b)/\∀p∈X.pn++pins,p.1≠b):
 Inv X pins σ H' {s with heap:=h',gens:=D,drawn:=E,toks:=t' }:=by
 obtain⟨m,⟨o,B,A,k,r⟩,_⟩:=id I.loc;obtain⟨v,j⟩:=u.any k I.free λz=>(d _ z).2.1 rfl
 exact I.step d (λb o j C a e n=>u.keep b o e n (λz=>(qu (I.stkSub b z)).elim j C) a) (λb o _ _ a e n=>u.any e n a) (λb o a e n=>u.free b o e n a) (λb o a e=>u.there b o e a) u.tups u.frzs u.tbls (λy l=>by
  obtain⟨w,g,h,f,t⟩:=l;rw[k]at f;cases f
  exact⟨_,g,h,j,t⟩) i q
theorem Inv.turned(I:Inv X pins σ H s)(k:∀b o,b≠a->s.heap.get? b=some o->h'.get? b=some o)(t:H a=none)(i:a≠X.env.locals)(w:a∈X.ex\/X.s₀.heap.objs.size<=a)(y:∀x c,X.env.cells.lookup x=some c->c≠a)(l:∀p∈X.pn++pins,p.1≠a):Inv X pins σ H {s with heap:=h',toks:=t' }:=by
 refine I.step (ch:=[a]) (λb A=>?_) (λb o _ _ d e _=>k b o (λz=>d (by simp[z])) e) (λb o _ _ d e _=>⟨o.slots,k b o (λz=>d (by simp[z])) e⟩) (λ_ _ _ _ n=>n)
  (λb o d e=>⟨o,k b o (λz=>d (by simp[z])) e⟩) (λ_ _ e=>e) (λ_ _ _ e=>e) (λb B e=>⟨#[],by rw[e];simp⟩) (λm f=>?_) (λb u e=>?_) I.bare
 .simp_all<;>ac_nf
 .obtain⟨o,g,h,j,r⟩:=f
  exact⟨o,g,h,k _ o (.symm i) j,r⟩
 .refine(I.hok b u e).stay (λc v d q=>k c v ?_ q) (λ_ q=>q) λ_ _ q=>q
  symm
def Inv.tok(I:Inv X pins σ H s)(t:Nat):Inv X pins σ H {s with toks:=t}:=I.un .refl I.hok
def Inv.kept(I:Inv X pins σ H s)(k:∀b u,s.heap.get? b=some u->h'.get? b=some u):Inv X pins σ H {s with heap:=h',toks:=t' }:=I.un (.kept k) (I.hok.kept k)
def Inv.laid{a:Addr}(I:Inv X pins σ H s)(k:∀b u,s.heap.get? b=some u->h'.get? b=some u)(c:(~~~s)<=a)(d:ObjOk X.prog X.w (upd H a o) h' a o):
 Inv X pins σ (upd H a o) {s with heap:=h',toks:=t' }:=I.un (.laid k c (I.hok.fresh c)) (I.hok.laid k c d)
def Inv.write(I:Inv X pins σ H s)(f:mR (H x))(d:e=x\/H e=some (.own x))(k:∀b u,b≠e->s.heap.get? b=some u->h'.get? b=some u)(a:∃u,h'.get? e=some u)(c:ObjOk X.prog X.w (upd H x o) h' x o):Inv X pins σ (upd H x o) {s with heap:=h',toks:=t' }:=I.un (.write f d k a) (I.hok.write f d k a c)
def Inv.pins_of(I:Inv X pins σ H s)(h:∀p∈a,s.heap.get? p.1=some p.2/\H p.1=none/\p.1≠X.env.locals/\p.1∉X.fs/\∀v,p.2.data≠.cell v):Inv X a σ H s:=
 ⟨I.ok,I.os,I.bare,I.base,I.loc,I.cell,I.free,I.freeC,λp b=>(qw b).elim (λz=>I.pin p (List.mem_append_left _ z)) (h p),I.hok,I.len⟩
def J_{N:AJ}(c:N.Nodup){i j:Nat}(a:N[i]?=some x)(b:N[j]?=some x):i=j:=by
 obtain⟨e,f⟩:=qo a;obtain⟨d,g⟩:=qo b;exact(List.getElem_inj c).mp (f.trans g.symm)
theorem Ka(I:Inv X pins σ H s)(hN:X.N.Nodup)(J:X.N[i]?=some x)(g:c9 X.env.scope x)(r:RelV v u)(h:∀s',Inv X pins (σ.set i (some v)) H s'->(∃a,Heap.SameBut a s.heap s'.heap/\(a=X.env.locals\/X.env.cells.lookup x=some a))->Q () s')(hf:X.fn x=true\/X.env.scope.names.lookup x=some .local:=by trivial):wpAny M A (storeName X.env x u) Q E s:=by
 obtain⟨m,N,hl⟩:=id I.loc
 have F:(X.env.scope.kind==.class||(X.env.scope.kind==.module&&X.env.locals != X.env.globals))=false:=by rw[I.ok.kind];rfl
 have t:i<σ.length:=by rw[I.len];grind
 have B:=I.cne
 have f:∀{a:Addr}{h':Heap},(∃o,s.heap.get? a=some o/\H a=none)->Heap.SameBut a s.heap h'->HOk X.prog X.w H h':=λ{a h'} ha V b ob e=>by
  refine(I.hok b ob e).stay (λc R l q=>(V.2 c ?_).trans q) (λ_ q=>q) λ_ _ q=>q;grind
 rcases g with D|D
 .refine wpAny_storeName_local D N (λh' hn' V=>?_) F
  obtain⟨oL,_,_,Z,_⟩:=id N;refine h _ ⟨I.ok,I.os,I.bare,⟨λb o e n hb g=>?_,λb o e n hb g=>?_,I.base.free,λb o e g=>?_,I.base.tups,I.base.frzs,I.base.tbls⟩,⟨_,hn',λj y O e1 e2 U=>?_⟩,λy c e=>?_,I.free,I.freeC,λp L=>?_,f ⟨oL,Z,I.free⟩ V,by simpa using I.len⟩ ⟨_,V,.inl rfl⟩
  .exact(V.2 b (qm (Qi (ql e) I.ok.above))).trans (I.base.keep b o e n hb g)
  .obtain⟨T,e1⟩:=I.base.slot b o e n hb g
   exact⟨T,(V.2 b (qm (Qi (ql e) I.ok.above))).trans e1⟩
  .obtain⟨o',e1⟩:=I.base.there b o e g
   exact⟨o',(V.2 b (qm (Qi (ql e) I.ok.above))).trans e1⟩
  .by_cases w:j=i
   .subst w
    rw[J]at e1;cases e1;rw[List.getElem?_set_self t]at e2;cases e2;exact⟨u,r,.inl ⟨D,by simp⟩⟩
   .rw[Qp (Ne.symm w)]at e2
    obtain⟨W,S,q⟩:=hl j y O e1 e2 U;refine⟨W,S,?_⟩;rcases q with⟨k,e⟩|⟨k,c,e,z⟩
    .refine .inl ⟨k,?_⟩
     have:y≠x:=λe=>w (J_ hN e1 (e ▸ J));grind
    .exact .inr ⟨k,c,e,z.sameBut V (B y c e)⟩
  .obtain⟨R,z⟩:=I.cell y c e
   exact⟨R,z.sameBut V (B y c e)⟩
  .obtain⟨e,n,K,nf,d⟩:=I.pin p L
   exact⟨(V.2 p.1 K).trans e,n,K,nf,d⟩
 .have C:X.fn x=true:=by
   grind
  obtain⟨c,l⟩:=I.ok.has x (.inl D);obtain⟨R,z⟩:=I.cell x c l;refine wpAny_storeName_cell I.ok.kind D l z (λh' P V=>?_);obtain⟨oc,hoc,hocd⟩:=id z;refine h {s with heap:=h' } ⟨I.ok,I.os,I.bare,⟨λb o e n hb g=>?_,λb o e n hb g=>?_,I.base.free,λb o e g=>?_,I.base.tups,I.base.frzs,I.base.tbls⟩,⟨m,N.sameBut V (Ne.symm (B x c l)),λj y O e1 e2 U=>?_⟩,λy G e=>?_,I.free,I.freeC,λp L=>?_,f ⟨oc,hoc,I.freeC x c l⟩ V,by simpa using I.len⟩ ⟨c,V,.inr l⟩
  .exact(V.2 b (qm (Qi (ql e) (I.ok.cab x c C l)))).trans (I.base.keep b o e n hb g)
  .obtain⟨T,e1⟩:=I.base.slot b o e n hb g
   exact⟨T,(V.2 b (qm (Qi (ql e) (I.ok.cab x c C l)))).trans e1⟩
  .obtain⟨o',e1⟩:=I.base.there b o e g
   exact⟨o',(V.2 b (qm (Qi (ql e) (I.ok.cab x c C l)))).trans e1⟩
  .by_cases w:j=i
   .subst w
    rw[J]at e1;cases e1;rw[List.getElem?_set_self t]at e2;cases e2;exact⟨u,r,.inr ⟨.inl D,c,l,P⟩⟩
   .rw[Qp (Ne.symm w)]at e2
    obtain⟨W,S,q⟩:=hl j y O e1 e2 U;refine⟨W,S,?_⟩;rcases q with q|⟨k,G,e,z'⟩
    .exact .inl q
    .refine .inr ⟨k,G,e,z'.sameBut V ?_⟩
     rintro rfl;exact w (J_ hN e1 (I.ok.inj _ _ _ e l ▸ J))
  .by_cases Y:G=c
   .grind
   .obtain⟨w2,z2⟩:=I.cell y G e
    exact⟨w2,z2.sameBut V Y⟩
  .obtain⟨e,n,K,nf,d⟩:=I.pin p L
   refine⟨(V.2 p.1 ?_).trans e,n,K,nf,d⟩;grind
abbrev aae(X:Cx)(x:Str):Prop:=X.fn x=true\/X.env.scope.names.lookup x=some .local
def yb(I:Inv X pins σ H s)(a:X.N.Nodup)(d:X.N[i]?=some x)(b:c9 X.env.scope x)(r:RelV v u)(h:∀s',Inv X pins (σ.set i (some v)) H s'->Q () s')(e:aae X x:=by trivial):wpAny M A (storeName X.env x u) Q E s:=
 Ka I a d b r (λs' c _=>h s' c) e
def Inv.call'(I:Inv X pins σ H s)(f:s'.os=s.os)(u:Un (fF X.stack) ch H H' s.heap s'.heap)(d:HOk X.prog X.w H' s'.heap)(e:AllBare s'.gens)(a:∀b∈ch,(b∈X.ex\/X.s₀.heap.objs.size<=b)/\b≠X.env.locals/\(∀x c,X.env.cells.lookup x=some c->c≠b)/\∀p∈X.pn++pins,p.1≠b):Inv X pins σ H' s':=by
 obtain⟨k,h,j,i,g⟩:=s';subst f;exact I.call u d e a
end
abbrev XK:=Value->Option Addr->Hp->Prop
abbrev St:=List (Option V)
abbrev VK:=V->Hp->Prop
abbrev TE:=St->Hp->VK->Prop
abbrev TT:=St->Hp->(Bool->Hp->Prop)->Prop
abbrev TA:=St->Hp->(AM->Hp->Prop)->Prop
structure dH where
 nx:St->Hp->Prop
 rt:VK
 bk:St->Hp->Prop:=λ_ _=>False
 ct:St->Hp->Prop:=λ_ _=>False
abbrev TS:=dH->St->Hp->Prop
def EP(X:Cx)(pins:AB)(σ:St)(Q:VK)(u:Value)(s':Shared):Prop:=∃v a,Inv X pins σ a s'/\RelV v u/\Q v a
def TP(X:Cx)(pins:AB)(σ:St)(Q:Bool->Hp->Prop)(b:Bool)(s':Shared):Prop:=∃a,Inv X pins σ a s'/\Q b a
def AP(X:Cx)(pins:AB)(σ:St)(Q:AM->Hp->Prop)(us:AC)(s':Shared):Prop:=∃a b,Inv X pins σ b s'/\Vals a us/\Q a b
def SP(X:Cx)(pins:AB)(D:dH)(f:Flow)(s':Shared):Prop:=
 match f with
 | .next=>∃a b,Inv X pins a b s'/\D.nx a b
 | .brk=>∃a b,Inv X pins a b s'/\D.bk a b
 | .cont=>∃a b,Inv X pins a b s'/\D.ct a b
 | .ret u=>∃v a b,Inv X pins a b s'/\RelV v u/\D.rt v b
abbrev aag(X:Cx){a:Type}:=@wpAny a (mZ X.prog X.w) X.A
def PE(X:Cx)(e:Expr)(t:TE):Prop:=
 ∀(a:List _) (s:Shared) (b:St) (H:Hp) (Q:VK),Inv X a b H s->t b H Q->aag X (eval e X.env) (EP X a b Q) X.xe s
def PT(X:Cx)(e:Expr)(t:TT):Prop:=
 ∀(a:List _) (s:Shared) (b:St) (H:Hp) (Q:Bool->Hp->Prop),Inv X a b H s->t b H Q->aag X (isTrue e X.env (eval e X.env)) (TP X a b Q) X.xe s
def PW(X:Cx)(e:Expr)(t:TT):Prop:=
 ∀(a:Sem _) (b:List _) (s:Shared) (c:St) (H:Hp) (Q:Bool->Hp->Prop),Inv X b c H s->t c H Q->aag X (isTrue e X.env a) (TP X b c Q) X.xe s
def PW.pt(h:PW X e t):PT X e t:=h _
def PA(X:Cx)(b:AK)(t:TA):Prop:=
 ∀(a:Pos) (c:List _) (s:Shared) (d:St) (H:Hp) (Q:AM->Hp->Prop),Inv X c d H s->t d H Q->aag X (spliced (backTo a (starEach b X.env))) (AP X c d Q) X.xe s
def PS(X:Cx)(st:Stmt)(t:TS):Prop:=
 ∀(a:List _) (s:Shared) (b:St) (H:Hp) (D:dH),Inv X a b H s->t D b H->aag X (exec st X.env) (SP X a D) X.xe s
def PSs(X:Cx)(st:List Stmt)(t:TS):Prop:=
 ∀(a:List _) (s:Shared) (b:St) (H:Hp) (D:dH),Inv X a b H s->t D b H->aag X (execs st X.env) (SP X a D) X.xe s
def az(h:wpAny M A t Q E s)(c:∀a s,Q a s->b a s):wpAny M A t b E s:=w4 h c λ_ _ x=>x
section
def yc(i:Nat):TE:=λa H Q=>∃v,a[i]?=some (some v)/\Q v H
def tC(v:V):TE:=λ_ H Q=>Q v H
abbrev cu(x:Str):Prop:=(x==("__debug__":Str))=false
abbrev fS(x:Str):Prop:=(x==("__classdict__":Str))=false
def gC{j:Pos}(p:X.N[i]?=some x)(o:eW X.env.scope x)(f:cu x:=by decide)(g:fS x:=by decide):PE X (.Name x j) (yc i):=by
 intro w s y H Q I h;obtain⟨v,e,h⟩:=h;obtain⟨m,n,q⟩:=I.loc;obtain⟨u,r,l⟩:=q i x v p e o
 have b:EP X _ y Q u s:=⟨v,H,I,r,h⟩
 rcases l with⟨d,t⟩|⟨d,c,k,a⟩
 .exact wpAny_Name (wpAny_loadName_local I.ok.kind d n t b) f
 .rcases d with d|d
  .exact wpAny_Name (wpAny_loadName_cell I.ok.kind d k a b) f
  .exact wpAny_Name (wpAny_loadName_free I.ok.kind d k a b g) f
def yd{i j a}:PE X (.Constant (.int i) j a) (tC (.int i)):=λ_ _ _ H _ I h=>wpAny_Constant_int ⟨.int i,H,I.tok _,⟨_,rfl⟩,h⟩
def ye{b j a}:PE X (.Constant (.bool b) j a) (tC (.bl b)):=λ_ _ _ H _ I h=>Constant_bool ⟨.bl b,H,I,rfl,h⟩
def yf{j a}:PE X (.Constant .none j a) (tC .non):=λ_ _ _ H _ I h=>Constant_none ⟨.non,H,I,rfl,h⟩
def mS{x j b}:PE X (.Constant (.str x) j b) (tC (.str x)):=λ_ _ _ H _ I h=>Calls.Constant_str ⟨.str x,H,I.tok _,⟨_,rfl⟩,h⟩
def Gl(X:Cx)(x:Str):Prop:=X.env.kindOf x=some .globalImplicit
def tp{σ:St}(I:Inv X pins σ H s)(d:Gl X x)(e:X.mg x=some u)(h:Q u s)(c:cu x:=by decide):aag X (eval (.Name x b) X.env) Q E s:=
 Calls.Name_function_global I.ok.kind d (Calls.loadGlobal_global (by rw[I.ok.glob];exact I.mod.glob.keeps I.bk) e h) c
theorem iV{E:AA}{σ:St}{b:Pos}(I:Inv X pins σ H s)(e:Gl X x)(g:X.mg x=none)(c:bootBuiltins x=some u)(h:Q u s)(j:x≠"__name__":=by decide)(f:cu x:=by decide):aag X (eval (.Name x b) X.env) Q E s:=by
 obtain⟨k,i,d⟩:=I.mod.blt;exact Calls.Name_function_global I.ok.kind e (Calls.loadGlobal_builtin (by rw[I.ok.glob];exact I.mod.glob.keeps I.bk) g (by rw[I.ok.blt];exact i.keeps I.bk) ((d x j).trans c) h) f
def Kb{x:Str}{v:V}{u:Value}{a:Pos}(c:Gl X x)(b:X.mg x=some u)(r:RelV v u)(d:cu x:=by decide):PE X (.Name x a) (tC v):=
 λ_ _ _ H _ I h=>tp I c b ⟨v,H,I,r,h⟩ d
def yg{a:Pos}(d:Gl X x)(e:X.mg x=none)(b:bootBuiltins x=some u)(r:RelV v u)(f:x≠"__name__":=by decide)(c:cu x:=by decide):PE X (.Name x a) (tC v):=
 λ_ _ _ H _ I h=>iV I d e b ⟨v,H,I,r,h⟩ f c
variable {a b:Expr}{ta tb:TE}
variable {tA tB':TT}{rest:AK}
def mT(t u:TT):TT:=λa H Q=>t a H λc d=>if c=true then u a d Q else Q false d
def Kc(t u:TT):TT:=λa H Q=>t a H λc d=>if c=true then Q true d else u a d Q
def yh(t:TT):TT:=λa H Q=>t a H λc d=>Q (!c) d
def yi(d:PT X a tA):PW X (.BoolOp .And [a] pos) tA:=by
 intro g b s i H Q I h;refine isTrue_and (az (d _ s i H Q I h) λc f e=>?_)
 cases c with
 | true=>exact isTrue_and_nil e
 | false=>exact e
def yj(d:PT X a tA):PW X (.BoolOp .Or [a] pos) tA:=by
 intro g b s i H Q I h;refine isTrue_or (az (d _ s i H Q I h) λc f e=>?_)
 cases c with
 | false=>exact isTrue_or_nil e
 | true=>exact e
def yk(i:PT X a tA)(n:PW X (.BoolOp .And (b::rest) pos) tB'):PW X (.BoolOp .And (a::b::rest) pos) (mT tA tB'):=by
 intro k l s m H Q I h;refine isTrue_and (az (i _ s m H _ I h) λc j d=>?_);obtain⟨g,f,e⟩:=d
 cases c with
 | true=>exact n k _ j m g Q f e
 | false=>exact⟨g,f,e⟩
def ym(i:PT X a tA)(n:PW X (.BoolOp .Or (b::rest) pos) tB'):PW X (.BoolOp .Or (a::b::rest) pos) (Kc tA tB'):=by
 intro k l s m H Q I h;refine isTrue_or (az (i _ s m H _ I h) λc j d=>?_);obtain⟨g,f,e⟩:=d
 cases c with
 | true=>exact⟨g,f,e⟩
 | false=>exact n k _ j m g Q f e
def yn(d:PT X a tA):PT X (.UnaryOp .Not a pos) (yh tA):=by
 intro b s c H Q I h;exact isTrue_not (d _ s c H _ I h)
def yo(ta tb:TE):TE:=λa H Q=>ta a H λx d=>∃c,x=.bl c/\if c=true then tb a d Q else Q (.bl false) d
def yp(ta:TE):TE:=λa H Q=>ta a H λx d=>∃c,x=.bl c/\Q (.bl (!c)) d
def yq{e}(h:PE X a t):PE X (.BoolOp e [a] pos) t:=λb s d H Q I c=>BoolOp_one (h _ s d H Q I c)
def yr(k:PE X a ta)(n:PE X (.BoolOp .And (b::rest) pos) tb):PE X (.BoolOp .And (a::b::rest) pos) (yo ta tb):=by
 intro l s m H Q I h;refine BoolOp_and (az (k _ s m H _ I h) λv i e=>?_);obtain⟨x,f,g,j,d⟩:=e;obtain⟨c,rfl,d⟩:=d;cases j;refine wpAny_truthy_bool ?_
 cases c with
 | true=>exact n _ i m f Q g d
 | false=>exact⟨.bl _,f,g,rfl,d⟩
def yt(j:PE X a ta):PE X (.UnaryOp .Not a pos) (yp ta):=by
 intro b s l H Q I h;refine UnaryOp_ (az (j _ s l H _ I h) λv k d=>?_);obtain⟨x,i,g,f,e⟩:=d;obtain⟨c,rfl,e⟩:=e;cases f;exact not_of (wpAny_truthy_bool ⟨.bl _,i,g,rfl,e⟩)
def QS(t:TT)(ta tb:TE):TE:=λa H Q=>t a H λc d=>if c=true then ta a d Q else tb a d Q
def QT(l:PT X c tA)(k:PE X a ta)(o:PE X b tb):PE X (.IfExp c a b pos) (QS tA ta tb):=by
 intro n s m H Q I h;refine wpAny_IfExp (az (l _ s m H _ I h) λd j e=>?_);obtain⟨i,g,f⟩:=e
 cases d with
 | true=>exact k _ j m i Q g f
 | false=>exact o _ j m i Q g f
end
def SqL(K:W7)(H:Hp)(a:Addr)(xs:AM):Prop:=
 Rd H a (.lst xs)\/
  ∃(o:Obj) (b:Array _) (n:Nat),K.lookup a=some o/\o.cls=.type "list"/\o.dict=none/\o.data=.seq b n/\b.size<=sizeLine/\Vals xs b.toList
def SqT(K:W7)(H:Hp)(a:Addr)(xs:AM):Prop:=
 Rd H a (.tup xs)\/
  ∃(o:Obj) (b:Array _) (n:Nat),K.lookup a=some o/\o.cls=.type "tuple"/\o.data=.seq b n/\b.size<=sizeLine/\Vals xs b.toList
noncomputable def yu:Value->Option V
 | .none=>some .non
 | .bool b=>some (.bl b)
 | .int i _=>some (.int i)
 | .str x _=>some (.str x)
 | .bytes b _=>some (.byt b)
 | .float b _=>some (.flt b)
 | .ref a=>some (.ref a)
 | .type n=>some (.ty n)
 | _=>none
def RelV.abs(r:RelV x u):yu u=some x:=by
 cases x with
 | non=>cases r;rfl
 | bl _=>cases r;rfl
 | int _=>obtain⟨t,rfl⟩:=r;rfl
 | str _=>obtain⟨t,rfl⟩:=r;rfl
 | byt _=>obtain⟨t,rfl⟩:=r;rfl
 | flt _=>obtain⟨t,rfl⟩:=r;rfl
 | ref _=>cases r;rfl
 | ty _=>cases r;rfl
def RelV.inj(r:RelV x u)(q:RelV y u):x=y:=w5 (r.abs.symm.trans q.abs)
theorem Vals.inj:∀{xs ys:AM}{us:AC},Vals xs us->Vals ys us->xs=ys
 :=by
  intro xs ys us h
  induction h generalizing ys with
  | nil=>
    intro a;cases a;rfl
  | cons r t c=>
    intro a
    cases a with
    | cons b d=>rw[r.inj b,c d]
section
variable {σ:St}{H:Hp}{s:Shared}{a:Addr}{xs:AM}
def SqL.of{K:W7}(h:H a=some (.lst xs)):SqL K H a xs:=.inl (.inl h)
def SqT.of{K:W7}(h:H a=some (.tup xs)):SqT K H a xs:=.inl (.inl h)
theorem Inv.list(I:Inv X pins σ H s)(h:SqL X.K H a xs):∃its:AC,Vals xs its/\PlainL s.heap a its.toArray/\xs.length<=sizeLine:=by
 rcases h with h|⟨o,its,n,c,d,b,g,f,r⟩
 .obtain⟨z,its,n,r,e⟩:=h.ok I.hok
  exact⟨its,r,⟨_,n,e,rfl,rfl,rfl⟩,z⟩
 .refine⟨its.toList,r,⟨o,n,I.kIn a o c,d,b,by simpa using g⟩,?_⟩
  have e:=r.length
  ext
theorem Inv.tuple(I:Inv X pins σ H s)(h:SqT X.K H a xs):∃its:AC,Vals xs its/\IsTup s.heap a its.toArray/\xs.length<=sizeLine:=by
 rcases h with h|⟨o,its,n,c,b,d,f,r⟩
 .obtain⟨z,its,r,p⟩:=h.ok I.hok
  exact⟨its,r,p,z⟩
 .refine⟨its.toList,r,⟨o,I.kIn a o c,b,n,by simpa using d⟩,?_⟩
  have e:=r.length
  ext
theorem Inv.list_inj(I:Inv X pins σ H s)(h:SqL X.K H a xs)(k:SqL X.K H a ys):xs=ys:=by
 obtain⟨j,r,⟨o,n,e,_,_,d⟩,_⟩:=I.list h;obtain⟨i,b,⟨c,f,g,_,_,l⟩,_⟩:=I.list k
 have:j=i:=by grind
 subst this;exact r.inj b
theorem Inv.tuple_inj(I:Inv X pins σ H s)(h:SqT X.K H a xs)(k:SqT X.K H a ys):xs=ys:=by
 obtain⟨j,r,⟨o,e,_,n,d⟩,_⟩:=I.tuple h;obtain⟨i,b,⟨c,g,_,f,l⟩,_⟩:=I.tuple k
 have:j=i:=by grind
 subst this;exact r.inj b
end
noncomputable abbrev Cx.wish(X:Cx)(E:AA):Cx:={X with xe:=E}
abbrev Cx.nox(X:Cx):Cx:=X.wish λ_ _=>False
def Cx.Ok.wish{X:Cx}(a:X.Ok)(E:AA):(X.wish E).Ok:=
 ⟨a.mod,a.kind,a.glob,a.blt,a.above,a.inj,a.has,a.cab,a.hd,a.frames,a.stk,a.exf,a.bs,a.bsz,a.noex,a.exfs,a.funs,a.frf⟩
def Cx.Ok.unwish{X:Cx}(a:(X.wish E).Ok):X.Ok:=
 ⟨a.mod,a.kind,a.glob,a.blt,a.above,a.inj,a.has,a.cab,a.hd,a.frames,a.stk,a.exf,a.bs,a.bsz,a.noex,a.exfs,a.funs,a.frf⟩
section
variable {σ:St}{H:Hp}{s:Shared}{E:AA}{st:Stmt}{rest:List Stmt}{t u:TS}{e:Expr}{te:TE}
def Inv.wish(I:Inv X pins σ H s)(E:AA):Inv (X.wish E) pins σ H s:=⟨I.ok.wish E,I.os,I.bare,I.base,I.loc,I.cell,I.free,I.freeC,I.pin,I.hok,I.len⟩
def Inv.unwish(I:Inv (X.wish E) pins σ H s):Inv X pins σ H s:=⟨I.ok.unwish,I.os,I.bare,I.base,I.loc,I.cell,I.free,I.freeC,I.pin,I.hok,I.len⟩
def SP.unwish(h:SP (X.wish E) pins D f s'):SP X pins D f s':=by
 cases f with
 | next=>obtain⟨a,b,I,q⟩:=h;exact⟨a,b,I.unwish,q⟩
 | brk=>obtain⟨a,b,I,q⟩:=h;exact⟨a,b,I.unwish,q⟩
 | cont=>obtain⟨a,b,I,q⟩:=h;exact⟨a,b,I.unwish,q⟩
 | ret u=>obtain⟨v,a,b,I,r,q⟩:=h;exact⟨v,a,b,I.unwish,r,q⟩
def PSs.nox{st:List Stmt}(h:PSs X.nox st t):PSs X st t:=λb s c H D I a=>
 w4 (h _ s c H D (I.wish _) a) (λ_ _ q=>q.unwish) λ_ _ z=>False.elim z
def yv:TS:=λD a H=>D.nx a H
def yw(t u:TS):TS:=λD a H=>t {D with nx:=u D} a H
def Ke:PSs X [] yv:=λ_ _ a H _ I h=>wpAny_execs_nil ⟨a,H,I,h⟩
def Kf(a:PS X st t)(c:PSs X rest u):PSs X (st::rest) (yw t u):=by
 intro g s i H D I h;refine wpAny_execs_cons (az (a _ s i H _ I h) λf b q=>?_)
 cases f with
 | next=>
   obtain⟨e,j,d,q⟩:=q;exact c _ b e j D d q
 | ret v=>exact q
 | brk=>exact q
 | cont=>exact q
def Kg(a:PS X st t):PSs X [st] t:=by
 intro c s d H D I h;refine wpAny_execs_cons (az (a _ s d H D I h) λf b q=>?_)
 cases f with
 | next=>exact wpAny_execs_nil q
 | ret v=>exact q
 | brk=>exact q
 | cont=>exact q
def Inv.quiet(I:Inv X pins σ H s):interactive X.env=false:=by simp[interactive,I.ok.kind]
def yx(te:TE):TS:=λD b H=>te b H λ_ a=>D.nx b a
def lG(f:PE X e te)(hs:swapsWith e none pos.line X.env=pure false:=by rfl):PS X (.Expr e pos) (yx te):=by
 intro j s k H D I h;refine wpAny_Expr_any (az (f _ s k H _ I h) λv i a=>?_) I.quiet hs;obtain⟨x,d,c,g,b⟩:=a;exact⟨k,d,c,b⟩
def yy(te:TE):TS:=λD a H=>te a H D.rt
def mU(d:PE X e te):PS X (.Return (some e) pos) (yy te):=by
 intro j s k H D I h;refine wpAny_Return_some (az (d _ s k H _ I h) λv i a=>?_);obtain⟨x,g,c,b,f⟩:=a;exact⟨x,k,g,c,b,f⟩
def yz(c:TT)(t u:TS):TS:=λD d H=>c d H λb a=>if b=true then t D d a else u D d a
def mV(m:PT X c n)(l:PSs X a t)(p:PSs X b u):PS X (.If c a b pos) (yz n t u):=by
 intro o s e H D I h;refine wpAny_If (az (m _ s e H _ I h) λd g f=>?_);obtain⟨k,i,j⟩:=f
 cases d with
 | true=>exact l _ g e k D i j
 | false=>exact p _ g e k D i j
end
abbrev TG:=V->St->Hp->(St->Hp->Prop)->Prop
abbrev mW:=AM->St->Hp->(St->Hp->Prop)->Prop
def PG(X:Cx)(a:Expr)(t:TG):Prop:=
 ∀(b:List _) (s:Shared) (d:St) (H:Hp) (v:V) (u:Value) (Q:St->Hp->Prop),Inv X b d H s->RelV v u->t v d H Q->
  aag X (assign a X.env u) (λ_ f=>∃c e,Inv X b c e f/\Q c e) X.xe s
def tq(X:Cx)(a:AK)(t:mW):Prop:=
 ∀(b:List _) (s:Shared) (g:St) (H:Hp) (f:AM) (e:List _) (Q:St->Hp->Prop),Inv X b g H s->Vals f e->t f g H Q->
  aag X (assignInOrder ((assignEach a X.env).map (·.2)) e) (λ_ h=>∃c d,Inv X b c d h/\Q c d) X.xe s
abbrev mX:=V->V->V->Hp->(Hp->Prop)->Prop
def jH(X:Cx)(t:mX):Prop:=
 ∀(a:List _) (s:Shared) (d:St) (H:Hp) (o i v:V) (b c u:Value) (Q:Hp->Prop),Inv X a d H s->RelV o b->RelV i c->RelV v u->t o i v H Q->
  aag X (setItem b c u) (λ_ f=>∃e,Inv X a d e f/\Q e) X.xe s
abbrev yA:=V->V->Hp->VK->Prop
def Kh(X:Cx)(c:Operator)(t:yA):Prop:=
 ∀(a:List _) (s:Shared) (b:St) (H:Hp) (x y:V) (v u:Value) (Q:VK),Inv X a b H s->RelV x v->RelV y u->t x y H Q->
  aag X (inplaceOp c v u) (EP X a b Q) X.xe s
def lH(i:Nat):TG:=λv a H Q=>Q (a.set i (some v)) H
def yB(a:X.N.Nodup)(d:X.N[i]?=some x)(b:c9 X.env.scope x)(e:aae X x:=by trivial):PG X (.Name x pos) (lH i):=by
 intro f s j H v u Q I r h;exact wpAny_assign_Name (yb I a d b r (λg c=>⟨_,H,c,h⟩) e)
def yC:mW:=λb a H Q=>b=[]/\Q a H
def yD(t:TG)(u:mW):mW:=λd b H Q=>∃v r,d=v::r/\t v b H λa c=>u r a c Q
def yE:tq X [] yC:=by
 intro a s b H d c Q I r h;obtain⟨e,h⟩:=h;exact assignInOrder_nil ⟨b,H,I,h⟩
def Ki(k:PG X e t)(i:tq X a u)(hs:(assignEach (e::a) X.env).map (·.2)=assign e X.env::(assignEach a X.env).map (·.2):=by rfl):tq X (e::a) (yD t u):=by
 intro n s o H w q Q I r h;obtain⟨v,m,p,h⟩:=h;subst p
 cases r with
 | cons r f=>
   rw[hs];refine assignInOrder_cons (az (k _ s o H _ _ _ I r h) λ_ d b=>?_);obtain⟨c,j,g,l⟩:=b;exact i _ d c j _ _ Q g f l
def yF(K:W7)(n:Nat)(t:mW):TG:=λv d H Q=>∃a c,v=.ref a/\SqT K H a c/\c.length=n/\t c d H Q
theorem yG{k:Nat}(l:X.calm=true)(h:tq X f t)(m:(assignEach f X.env).length=n:=by rfl)(d:(assignEach f X.env).findIdx? (·.1)=none:=by rfl):PG X (.Tuple f k pos) (yF X.K n t):=by
 intro x s B H v u Q I r c;obtain⟨a,z,y,p,q,c⟩:=c;subst y;cases r;obtain⟨A,i,j,w⟩:=I.tuple p;exact assign_Tuple_tuple (I.ok.hd l) j (by simp[m,<-q,i.length]) d λC g=>h _ _ B H z _ Q (I.kept λb o e=>g b o (qm (ql e)) e) (by grind) c
def yH(b f:TE)(t:mX):TG:=λv a H Q=>b a H λo d=>f a d λi c=>t o i v c λe=>Q a e
def mY(n:PE X o D)(k:PE X i f)(hs:jH X t)(B:∀v,assign (.Subscript o i pos) X.env v=(do
  let b <-holding [v] (eval o X.env)
  let c <-holding [v,b] (eval i X.env)
  standAt pos
  holding [v,b,c] (setItem b c v)
  release [v,b,c] []):=by intro _;rfl):PG X (.Subscript o i pos) (yH D f t):=by
 intro e s d H v u Q I r h;rw[B];refine wa (we (az (n _ s d H _ I h) λb m a=>?_));obtain⟨x,p,j,G,q⟩:=a;refine wa (we (az (k _ m d p _ j q) λc l a=>?_));obtain⟨y,E,C,A,F⟩:=a;refine wa (wpAny_standAt (wa (we (az (hs _ l d E x y v b c u _ C G A r F) λ_ J a=>?_))));obtain⟨w,g,z⟩:=a;exact wpAny_release ⟨d,w,g,z⟩
def fT(a:TE)(g:TG):TS:=λD c H=>a c H λx b=>g x c b D.nx
theorem m3(i:PE X e m)(j:PG X a g)(hs:swapsWithSole [a] e pos.line X.env=pure false:=by rfl)(o:swappedStores [a] e X.env=pure none:=by rfl)(n:(assignEach [a] X.env).map (·.2)=[assign a X.env]:=by rfl):PS X (.Assign [a] e pos) (fT m g):=by
 intro r s t H D I h;refine wpAny_Assign_stores (az (i _ s t H _ I h) λv c b=>?_) hs o;obtain⟨x,d,l,k,f⟩:=b;rw[n];exact az (j _ c t d x v _ l k f) λ_ p q=>q
def jI(c:X.N.Nodup)(o:X.N[i]?=some x)(p:c9 X.env.scope x)(j:PE X e n)(hs:swapsWith e (some (.Name x a)) pos.line X.env=pure false:=by rfl)(g:aae X x:=by trivial):
 PS X (.Assign [.Name x a] e pos) (fT n (lH i)):=by
 intro t s u H D I h;refine wpAny_Assign_Name (az (j _ s u H _ I h) λv r b=>?_) hs;obtain⟨y,d,m,l,f⟩:=b;exact yb m c o p l (λq k=>⟨_,d,k,f⟩) g
def yI(i:Nat)(d:TE)(e:yA):TS:=λD a H=>∃x,a[i]?=some (some x)/\d a H λy c=>e x y c λz b=>D.nx (a.set i (some z)) b
theorem yJ(hN:X.N.Nodup)(A:X.N[i]?=some x)(o:c9 X.env.scope x)(V:PE X e E)(Y:Kh X B J)(T:aae X x:=by trivial):
 PS X (.AugAssign (.Name x q) B e pos) (yI i E J):=by
 intro g s t H D I h;obtain⟨v,G,h⟩:=h;obtain⟨m,N,M⟩:=I.loc
 have n:eW X.env.scope x:=by rcases o with k|k;exact .inl k;exact .inr (.inl k)
 obtain⟨u,r,l⟩:=M i x v A G n;refine wpAny_AugAssign_Name ?_
 have p:aag X (eval e X.env) (λw f=>aag X (inplaceOp B u w) (λr j=>aag X (storeName X.env x r) (λ_=>SP X g D .next) X.xe j) X.xe f) X.xe s:=by
  refine az (V _ s t H _ I h) λw L b=>?_;obtain⟨y,H1,R,O,C⟩:=b;refine az (Y _ L t H1 v y u w _ R r O C) λz s2 b=>?_;obtain⟨zv,H2,Z,U,F⟩:=b;exact yb Z hN A o U (λs3 Q=>⟨_,H2,Q,F⟩) T
 rcases l with⟨a,K⟩|⟨a,c,S,d⟩
 .exact wpAny_loadName_local I.ok.kind a N K p
 .rcases a with a|a
  .exact wpAny_loadName_cell I.ok.kind a S d p
  .rcases o with k|k
   .have:X.env.scope.names.lookup x=_:=a
    ext
   .have:X.env.scope.names.lookup x=_:=a
    ext
def QU(f:Int->Int->Int):yA:=λx y H Q=>∃i j,x=.int i/\y=.int j/\Q (.int (f i j)) H
def yK:Kh X .Add (QU λi j=>i+j):=by
 intro a s g H x y v u Q I d e h;obtain⟨i,j,b,c,q⟩:=h;subst b c;obtain⟨t,rfl⟩:=d;obtain⟨f,rfl⟩:=e;exact iadd_int ⟨.int _,H,I.tok _,⟨_,rfl⟩,q⟩
def yL(c:TT)(e:TS):TS:=λD f H=>∃W:Nat->St->Hp->Prop,(∃m,W m f H)/\∀m f H,W m f H->
 c f H λb d=>if b=true then ∃N:St->Hp->Prop,(∀g h,N g h->∃a,a<m/\W a g h)/\e {D with nx:=N,ct:=N,bk:=D.nx} f d else D.nx f d
def QV(B:PassesOwn (mZ X.prog X.w) X.A X.env X.xe)(M:PT X c J)(hb:PSs X e L):PS X (.While c e [] pos) (yL J L):=by
 intro z s E H D I h;obtain⟨W,⟨R,O⟩,j⟩:=h;refine wpAny_While (codeAny_whileLoop (λn K=>∃g x,Inv X _ g x K/\W n g x) ?_ R ⟨E,H,I,O⟩);rintro n C ⟨d,w,F,G⟩;refine wpAny_passesOwn B (az (M _ C d w _ F (j n d w G)) λb Q q=>?_);obtain⟨y,u,l⟩:=q
 cases b with
 | true=>
   obtain⟨N,A,l⟩:=l;refine wpAny_passesOwn B (az (hb _ Q d y _ u l) λf S k=>?_)
   cases f with
   | next=>
     obtain⟨a,i,o,r⟩:=k;obtain⟨p,t,m⟩:=A a i r;exact⟨p,t,a,i,o,m⟩
   | cont=>
     obtain⟨a,i,o,r⟩:=k;obtain⟨p,t,m⟩:=A a i r;exact⟨p,t,a,i,o,m⟩
   | brk=>exact k
   | ret v=>exact k
 | false=>
   exact wpAny_execs_nil ⟨d,y,u,l⟩
structure It where
 go:Nat->Hp->Prop
 yld:Nat->Hp->V->Hp->Prop
 stop:Nat->Hp->Prop
def cI(X:Cx)(pins:AB)(H:Hp)(b:Addr):Prop:=
 H b=none/\b≠X.env.locals/\b∉X.fs/\(b∈X.ex\/X.s₀.heap.objs.size<=b)/\(∀x c,X.env.cells.lookup x=some c->c≠b)/\∀p∈X.pn++pins,p.1≠b
theorem Inv.fpOk{σ:St}{b:Addr}(I:Inv X pins σ H s)(f:(~~~s)<=b)(a:H' b=none):cI X pins H' b:=by
 refine⟨a,Nat.ne_of_gt (Qi I.lt f),I.nofs f,.inr (Qg I.sz f),λx c e z=>?_,λp d z=>?_⟩
 .obtain⟨v,q⟩:=I.cell x c e
  exact absurd (Qi q.lt (by ext)) (Nat.lt_irrefl _)
 .exact absurd (Qi (ql (I.pin p d).1) (by ext)) (Nat.lt_irrefl _)
structure d4(P:P7)(w:World)(K:W7)(tg:Expr)(J:It)(fp:List Addr)(it:Addr)(tn:Nat->Heap->Prop):Prop where
 mem:it∈fp
 obj:∀i h,tn i h->∀b∈fp,∃o,h.get? b=some o/\∀v,o.data≠.cell v
 keep:∀i h h',tn i h->(∀b∈fp,∀o,h.get? b=some o->h'.get? b=some o)->tn i h'
 item:∀(X:Cx),X.prog=P->X.w=w->X.K=K->X.calm=true->∀(i:Nat) (pins:AB) (s:Shared) (σ:St) (H:Hp) (E:AA),Inv X pins σ H s->(∀b∈fp,cI X pins H b)->tn i s.heap->J.go i H->
  wpAny (mZ P w) X.A (pyNext (.ref it)) (λr s1=>∃u,r=some u/\
   wpAny (mZ P w) X.A (letOwnedTupleGo tg (.ref it) u) (λ_ s2=>∃x H',Inv X pins σ H' s2/\RelV x u/\J.yld i H x H'/\tn (i+1) s2.heap/\∀b∈fp,H' b=none) E s1) E s
 done:∀(X:Cx),X.prog=P->X.w=w->X.K=K->X.calm=true->∀(i:Nat) (pins:AB) (s:Shared) (σ:St) (H:Hp) (E:AA),Inv X pins σ H s->(∀b∈fp,cI X pins H b)->tn i s.heap->J.stop i H->
  wpAny (mZ P w) X.A (pyNext (.ref it)) (λr s1=>r=none/\Inv X pins σ H s1) E s
 self:∀(A:Around) (i:Nat) (s:Shared) (Q:AA) (E:AA),tn i s.heap->Q (.ref it) s->wpAny (mZ P w) A (pyIter (.ref it)) Q E s
abbrev TI:=St->Hp->(It->Hp->Prop)->Prop
def Kj(X:Cx)(pins:AB)(σ:St)(g:Expr)(R:It->Hp->Prop)(a:Value)(e:Shared):Prop:=
 ∃(f:Addr) (d:List _) (c:Nat->Heap->Prop) (J:It) (h:Hp),a=.ref f/\Inv X pins σ h e/\d4 X.prog X.w X.K g J d f c/\c 0 e.heap/\(∀b∈d,cI X pins h b)/\R J h
def PI(X:Cx)(d a:Expr)(b:TI):Prop:=
 ∀(e:List _) (s:Shared) (f:St) (H:Hp) (R:It->Hp->Prop),Inv X e f H s->b f H R->
  aag X (eval a X.env) (λv c=>aag X (pyIter v) (Kj X e f d R) X.xe c) X.xe s
theorem tr(f:s.heap.get? c=some o)(b:o.cls=.type n)(e:o.data=.fields vs)(g:["enumerate","zip","dict_itemiterator","dict_reverseitemiterator","odict_iterator","itertools.zip_longest","itertools.pairwise"].contains n=false)(a:Q () s):wpAny M A (letOwnedTupleGo d (.ref c) u) Q E s:=by
 cases d<;>first
  | exact wc a
  | (cases u<;>first
   | exact wc a
   | (refine wa (wpAny_load f ?_)
      rw[b,e];show wpAny M A (if _ then _ else _) Q E s;rw[if_neg ⋯]
      exact wc a))
def Kk(K:W7)(a:Addr):It:=
 ⟨λi H=>∃b x,SqL K H a b/\b[i]?=some x,λi H x d=>d=H/\∀b,SqL K H a b->b[i]?=some x,λi H=>∃b,SqL K H a b/\b.length<=i⟩
def Kl(K:W7)(a:Addr):It:=
 ⟨λi H=>∃b x,SqT K H a b/\b[i]?=some x,λi H x d=>d=H/\∀b,SqT K H a b->b[i]?=some x,λi H=>∃b,SqT K H a b/\b.length<=i⟩
def m4(lo:Int)(n:Nat):It:=⟨λi _=>i<n,λi H x a=>a=H/\x=.int (lo+i),λi _=>n<=i⟩
theorem QW{K:W7}(a g:Addr):d4 P w K tg (Kk K a) [g] g (λi h=>h.IsListIter g a i) where
 mem:=by simp
 obj:=λi h st b f=>by
  have e:=by simpa using f
  subst e;obtain⟨o,e,c,d⟩:=st;exact⟨o,e,λv z=>by rw[d]at z;cases z⟩
 keep:=λi h M st k=>st.at λo e=>k g nofun o e
 item:=by
  intro X B F C N i j s σ H E I n st L;subst B F C;obtain⟨U,x,m,O⟩:=L;obtain⟨A,r,p,Z⟩:=I.list m;obtain⟨u,R,S⟩:=r.get O;obtain⟨t,G,T,y,J,D⟩:=n g nofun;refine wpAny_pyNext_list_item st p.isList (by simpa using R) λM l Y=>?_;obtain⟨o,e,c,d⟩:=id l;exact⟨u,rfl,tr e c d (by decide) ⟨x,H,I.turned (t':=s.toks) (λb o f e=>(Y.2 b f).trans e) t G y J D,S,⟨rfl,λys Q=>by rwa [I.list_inj Q m]⟩,l,λb f=>(n b f).1⟩⟩
 done:=by
  intro X B F C N i j s σ H E I n st L;subst B F C;obtain⟨U,m,O⟩:=L;obtain⟨A,r,p,Z⟩:=I.list m;obtain⟨t,G,T,y,J,D⟩:=n g nofun;have hl:=r.length
  exact wpAny_pyNext_list_end (I.ok.hd N) st p.isList (by simp;ext) λM V=>⟨rfl,I.turned (λb o f e=>V b o f e) t G y J D⟩
 self:=λ_ _ _ _ _ st h=>wpAny_pyIter_listiter st h
theorem QX{K:W7}(a f:Addr):d4 P w K S (Kl K a) [f] f (λi h=>h.IsTupleIter f a i) where
 mem:=by simp
 obj:=λi h st b m=>by
  obtain⟨o,e,c,d⟩:=st;grind
 keep:=λi h Y st k=>st.at λo e=>k f nofun o e
 item:=by
  intro X r n C F i T s σ H E I l st t;subst r n C;obtain⟨Z,x,j,z⟩:=t;obtain⟨U,A,p,J⟩:=I.tuple j;obtain⟨u,R,G⟩:=A.get z;obtain⟨q,y,N,v,B,D⟩:=l f nofun;refine wpAny_pyNext_tuple_item st (p) (x:=u) (by grind) λY g M=>?_;obtain⟨o,e,c,d⟩:=id g;exact⟨u,rfl,tr e c d (by decide) ⟨x,H,I.turned (λb o m e=>(M.2 b m).trans e) q y v B D,G,⟨rfl,λys L=>by rwa [I.tuple_inj L j]⟩,g,λb m=>(l b m).1⟩⟩
 done:=by
  intro X r n C F i T s σ H E I l st t;subst r n C;obtain⟨Z,j,z⟩:=t;obtain⟨U,A,p,J⟩:=I.tuple j;obtain⟨q,y,N,v,B,D⟩:=l f nofun;have Q:=A.length
  exact wpAny_pyNext_tuple_end (I.ok.hd F) st (p) (by simp;lia) λY O=>⟨rfl,I.turned (λb o m e=>O b o m e) q y v B D⟩
 self:=λ_ _ _ _ _ st h=>wpAny_pyIter_tupleiter st h
theorem QY{K:W7}(a:Addr)(lo:Int)(n:Nat):d4 P w K F (m4 lo n) [a] a (λi h=>IsRangeIter h a (lo+(i:Nat)*1) ((n:Int)-(i:Nat)) 1) where
 mem:=by simp
 obj:=λi h st b q=>by
  ext
 keep:=λi h J st k=>k a nofun _ st
 item:=by
  intro X y u x m i G s M H E I d st f;obtain⟨l,r,C,g,p,j⟩:=d a nofun;refine(Walks.range (I.ok.hd m) a lo 1 n).item i s _ _ f st λv J N A c z=>?_;obtain⟨t,rfl⟩:=A;have D:Inv X _ M H {s with heap:=J,toks:=N}:=I.turned (λb o q e=>z b o (by grind) e) l r g p j;refine⟨_,rfl,tr c rfl rfl (by decide) ⟨.int _,H,D,⟨t,?_⟩,⟨rfl,rfl⟩,c,λb q=>(d b q).1⟩⟩;grind
 done:=by
  intro X y u x m i G s M H E I d st f;obtain⟨l,r,C,g,p,j⟩:=d a nofun
  exact wpAny_pyNext_range_end (I.ok.hd m) st (by have:n<=i:=f;lia) λJ B=>⟨rfl,I.turned (λb o q e=>B b o q e) l r g p j⟩
 self:=λ_ _ _ _ _ st h=>wpAny_pyIter_rangeiter st h
section
variable {tg:Expr}
theorem Km{σ:St}{lo a:Int}(I:Inv X pins σ H s)(d:-(2^62)<=lo)(g:lo<2^62)(f:-(2^62)<=a)(h:a<2^62)(q:R (m4 lo (a-lo).toNat) H):aag X (pyIter (.ref (~~~s))) (Kj X pins σ tg R) E {s with heap:=s.heap.push {cls:=.type "range",data:=.fields #[.int lo t,.int a u,.int 1 v]},toks:=tk}:=by
 refine wpAny_pyIter_range (.new ..) (small_one d g f h) ?_;have c:Inv X _ σ H {s with heap:=s.heap.push {cls:=.type "range",data:=.fields #[.int lo t,.int a u,.int 1 v]},toks:=tk}:=I.kept λb o e=>qe _ e
 refine⟨(s.heap.push _).objs.size,[(s.heap.push _).objs.size],_,_,H,rfl,
  c.kept λb o e=>qe _ e,QY _ lo _,?_,λb k=>?_,q⟩
 .have i:lo+((0:Nat))*1=lo:=by simp
  have j:(((a-lo).toNat))-((0:Nat))=Builtin.Range.rangeSize lo a 1:=by rw[rangeSize_one];split<;>lia
  rw[i,j];exact qp _ rfl
 .have e:b=(s.heap.push {cls:=.type "range",data:=.fields #[.int lo t,.int a u,.int 1 v]}).objs.size:=by ext
  subst e;exact c.fpOk (qv _) (c.hok.fresh (qv _))
def yM(a:TA):TI:=λd H R=>a d H λc b=>∃j:Int,c=[.int j]/\-(2^62)<=j/\j<2^62/\R (m4 0 j.toNat) b
def yN(a:TA):TI:=λc H R=>a c H λd b=>∃i j:Int,d=[.int i,.int j]/\(-(2^62)<=i/\i<2^62/\-(2^62)<=j/\j<2^62)/\R (m4 i (j-i).toNat) b
abbrev aad(X:Cx)(e:Expr):Prop:=starEach [e] X.env=[(false,eval e X.env)]
theorem QZ(k:Gl X "range")(g:X.mg "range"=none)(m:PA X [a] u)(hs:aad X a:=by rfl):PI X tg (.Call (.Name "range" p) [a] [] c) (yM u):=by
 intro x s y H R I h;refine Call_ (iV I k g boot_range (PyProof.Rows.callWith_type1 (az (m c _ s y H _ I h) λA v f=>?_) hs rfl));obtain⟨z,w,l,o,d⟩:=f;obtain⟨j,e,d,n,q⟩:=d;subst e
 cases o with
 | cons r i=>
   cases i;obtain⟨t,rfl⟩:=r;exact call_range_1 (Km l (by lia) (by lia) d n (by simpa using q))
theorem Q0{p c:Pos}(o:Gl X "range")(l:X.mg "range"=none)(w:PA X [a,b] m)(hs:starEach [a,b] X.env=[(false,eval a X.env),(false,eval b X.env)]:=by rfl)(f:starEach [b] X.env=[(false,eval b X.env)]:=by rfl):
 PI X tg (.Call (.Name "range" p) [a,b] [] c) (yN m):=by
 intro C s D H R I h;refine Call_ (iV I o l boot_range (PyProof.Rows.callWith_type1 (az (w c _ s D H _ I h) λF B ⟨G,A,u,n,k⟩=>?_) (by rw[hs,f]) (by rw[f];rfl)));obtain⟨i,j,e,⟨k,x,y,v⟩,q⟩:=k;subst e
 cases n with
 | cons r g=>
   cases g with
   | cons z g=>
     cases g;obtain⟨t,rfl⟩:=r;obtain⟨E,rfl⟩:=z;exact call_range_2 (Km u k x y v q)
def yO(f:TI)(g:TG)(e:TS):TS:=λD h H=>f h H λJ c=>∃W:Nat->Nat->St->Hp->Prop,(∃m,W 0 m h c)/\∀i m h H,W i m h H->
 (J.stop i H/\D.nx h H)\/(J.go i H/\∃N:St->Hp->Prop,(∀j k,N j k->∃b,b<m/\W (i+1) b j k)/\∀x k,J.yld i H x k->g x h k λa d=>e {D with nx:=N,ct:=N,bk:=D.nx} a d)
noncomputable def ts(a:List Addr)(h:Heap):AB:=a.filterMap λb=>(h.get? b).map λo=>(b,o)
def tw(c:b∈a)(e:h.get? b=some o):(b,o)∈ts a h:=List.mem_filterMap.mpr ⟨b,c,by rw[e];rfl⟩
theorem Q1(a:p∈ts c h):p.1∈c/\h.get? p.1=some p.2:=by
 obtain⟨b,d,e⟩:=List.mem_filterMap.mp a
 cases q:h.get? b with
 | none=>grind
 | some o=>
   grind
theorem Inv.pinned{σ:St}(I:Inv X pins σ H s)(c:∀b∈a,cI X pins H b)(i:∀b∈a,∃o,s.heap.get? b=some o/\∀v,o.data≠.cell v):Inv X (pins++ts a s.heap) σ H s:=
 I.pins_of λp d=>(qw d).elim (λz=>I.pin p (Qr _ z)) λz=>by
  obtain⟨j,e⟩:=Q1 z;obtain⟨f,g,h,_⟩:=c p.1 j;grind
def Inv.unpinned{σ:St}(I:Inv X (pins++b) σ H s):Inv X pins σ H s:=I.pins_of λp a=>I.pin p (Qr _ (List.mem_append_left _ a))
def m5(K:PassesOwn (mZ X.prog X.w) X.A X.env X.xe)(hc:X.calm=true)(hi:PI X tg y wi)(hg:PG X tg g)(hb:PSs X B tb)(hs:∀x,foldedSetIterable y X.env x=pure x:=by intro _;rfl):PS X (.For tg y B [] pos) (yO wi g tb):=by
 intro c s σ H D I h;refine wpAny_For (az (hi c s σ H _ I h) λv s1 h1=>az h1 λitv s2 h2=>?_) hs;obtain⟨it,fp,V,J,H2,e,I2,T,Q,f2,W,⟨m0,w0⟩,L⟩:=h2;subst e
 have p:∀{w:Hp},(∀b _,_)->∀b _,cI X c w b:=λhn b hb=>⟨hn b hb,(f2 b hb).2⟩
 refine codeAny_forLoop_any (λn Z=>∃i l w,Inv X c l w Z/\V i Z.heap/\(∀b∈fp,w b=none)/\W i n l w) ?_ m0 ⟨0,σ,H2,I2,Q,λb hb=>(f2 b hb).1,w0⟩;rintro n Y ⟨i,k,M,I3,E,C,w3⟩;rcases L i n k M w3 with⟨F,qn⟩|⟨go,N,hN,step⟩
 .refine wpAny_passesOwn K (az (T.done X rfl rfl rfl hc i c Y k M X.xe I3 (p C) E F) λr s4 j=>?_)
  obtain⟨R,I4⟩:=j;subst R;exact wpAny_execs_nil ⟨k,M,I4,qn⟩
 .refine wpAny_passesOwn K (az (T.item X rfl rfl rfl hc i c Y k M X.xe I3 (p C) E go) λr s4 j=>?_)
  obtain⟨u,R,h4⟩:=j;subst R;refine wpAny_passesOwn K (az h4 λ_ s5 j=>?_);obtain⟨x,H5,I5,r5,y5,A,O⟩:=j;have U:=I5.pinned (p O) (T.obj _ _ A);refine wpAny_passesOwn K (az (hg _ s5 k H5 x u _ U r5 (step x H5 y5)) λ_ s6 j=>?_);obtain⟨S,H6,I6,q6⟩:=j;refine wpAny_passesOwn K (az (hb _ s6 S H6 _ I6 q6) λf s7 z=>?_)
  have again:∀{a:St}{t:Hp},Inv X _ a t s7->_->∃m,m<n/\∃i l w,Inv X c l w s7/\V i _/\(∀b∈fp,w b=none)/\W i m l w:=λ{a t} q G=>by
   obtain⟨m',hm,w7⟩:=hN a t G;refine⟨m',hm,i+1,a,t,q.unpinned,T.keep _ _ _ A λb hb o e=>(q.pin _ (Qr _ (Qr _ (tw hb e)))).1,λb hb=>?_,w7⟩;obtain⟨o,e,d⟩:=T.obj _ _ A b hb;exact(q.pin _ (Qr _ (Qr _ (tw hb e)))).2.1
  cases f with
  | next=>obtain⟨a,t,q,G⟩:=z;exact again q G
  | cont=>obtain⟨a,t,q,G⟩:=z;exact again q G
  | brk=>obtain⟨a,t,q,z⟩:=z;exact⟨a,t,q.unpinned,z⟩
  | ret v=>obtain⟨x7,a,t,q,r7,z⟩:=z;exact⟨x7,a,t,q.unpinned,r7,z⟩
end
abbrev R2:=V->V->Hp->VK->Prop
def br(X:Cx)(f:Value->Value->Sem Value)(r:R2):Prop:=
 ∀(a:List _) (s:Shared) (b:St) (H:Hp) (x y:V) (v u:Value) (Q:VK),Inv X a b H s->RelV x v->RelV y u->r x y H Q->
  aag X (f v u) (EP X a b Q) X.xe s
def yP(X:Cx)(f:Value->Sem Value)(r:V->Hp->VK->Prop):Prop:=
 ∀(a:List _) (s:Shared) (b:St) (H:Hp) (x:V) (v:Value) (Q:VK),Inv X a b H s->RelV x v->r x H Q->
  aag X (f v) (EP X a b Q) X.xe s
def dA(X:Cx)(f:Value)(r:AM->Hp->VK->Prop):Prop:=
 ∀(a:List _) (s:Shared) (b:St) (H:Hp) (c:AM) (d:List _) (Q:VK),Inv X a b H s->Vals c d->r c H Q->
  aag X (call f d) (EP X a b Q) X.xe s
def yQ(X:Cx)(r:V->Hp->(Bool->Hp->Prop)->Prop):Prop:=
 ∀(a:List _) (s:Shared) (b:St) (H:Hp) (x:V) (v:Value) (Q:Bool->Hp->Prop),Inv X a b H s->RelV x v->r x H Q->
  aag X (truthy v) (TP X a b Q) X.xe s
def jJ(r:R2)(d a:TE):TE:=λe H Q=>d e H λx b=>a e b λy c=>r x y c Q
def Q3(r:V->Hp->VK->Prop)(a:TE):TE:=λc H Q=>a c H λx b=>r x b Q
def rI(C:Int->Int->Prop)(g:Int->Int->V):R2:=λx y H Q=>∃i j,x=.int i/\y=.int j/\C i j/\Q (g i j) H
def fU(g:Int->Int->V):R2:=λx y H Q=>∃i j,x=.int i/\y=.int j/\Q (g i j) H
def rU(g:Int->V):V->Hp->VK->Prop:=λx H Q=>∃i,x=.int i/\Q (g i) H
section
variable {a b c:Expr}{ta tb tc:TE}
def jK(n:PE X a ta)(hb:PE X b tb){σ:St}{R:V->V->Hp->Prop}(I:Inv X pins σ H s)(h:ta σ H λx j=>tb σ j λy d=>R x y d){f:Value->Value->Sem Value}(t:∀v u i x y d,Inv X pins σ d i->RelV x v->RelV y u->R x y d->aag X (f v u) Q X.xe i):
 aag X (eval a X.env) (λv g=>aag X (eval b X.env) (λu e=>aag X (f v u) Q X.xe e) X.xe g) X.xe s:=by
 refine az (n _ s σ H _ I h) λv k c=>?_;obtain⟨x,j,p,m,o⟩:=c;refine az (hb _ k σ j _ p o) λu i c=>?_;obtain⟨y,d,l,r,q⟩:=c;exact t v u i x y d l m r q
def tB(j:br X (binaryOp n) r)(d:PE X a ta)(l:PE X b tb):PE X (.BinOp a n b pos) (jJ r ta tb):=by
 intro c s m H Q I h;exact wpAny_BinOp (jK d l I h λv u g x y f i e k q=>j _ g m f x y v u Q i e k q)
def yR(k:yP X (unaryOp m) r)(l:PE X a ta):PE X (.UnaryOp m a pos) (Q3 r ta):=by
 intro b s c H Q I h;refine UnaryOp_ (az (l _ s c H _ I h) λv g d=>?_);obtain⟨x,j,f,e,i⟩:=d;exact k _ g c j x v Q f e i
def tD{g:Int->Int->Int}(rule:∀(i j:Int) (t u:Tok) (s:Shared) (Q:AA) (E:AA),C i j->Q (.int (g i j) s.toks) {s with toks:=s.toks+1}->aag X (f (.int i t) (.int j u)) Q E s):
 br X f (rI C λi j=>.int (g i j)):=by
 intro a s c H x y v u Q I e d h;obtain⟨i,j,rfl,rfl,k,q⟩:=h;obtain⟨t,rfl⟩:=e;obtain⟨b,rfl⟩:=d;exact rule i j t b s _ _ k ⟨.int _,H,I.tok _,⟨_,rfl⟩,q⟩
def jL{g:Int->Int->Int}(rule:∀(i j:Int) (t u:Tok) (s:Shared) (Q:AA) (E:AA),Q (.int (g i j) s.toks) {s with toks:=s.toks+1}->aag X (f (.int i t) (.int j u)) Q E s):
 br X f (fU λi j=>.int (g i j)):=by
 intro a s c H x y v u Q I e d h;obtain⟨i,j,rfl,rfl,q⟩:=h;obtain⟨t,rfl⟩:=e;obtain⟨b,rfl⟩:=d;exact rule i j t b s _ _ ⟨.int _,H,I.tok _,⟨_,rfl⟩,q⟩
def gW{g:Int->Int->Bool}(rule:∀(i j:Int) (t u:Tok) (s:Shared) (Q:AA) (E:AA),Q (.bool (g i j)) s->aag X (f (.int i t) (.int j u)) Q E s):
 br X f (fU λi j=>.bl (g i j)):=by
 intro a s c H x y v u Q I e d h;obtain⟨i,j,rfl,rfl,q⟩:=h;obtain⟨t,rfl⟩:=e;obtain⟨b,rfl⟩:=d;exact rule i j t b s _ _ ⟨.bl _,H,I,rfl,q⟩
def yS(i j:Int):Prop:=0<j/\j<1073741824
def CMul(i j:Int):Prop:=-(2^64)<i/\i<2^64\/(-(2^64)<j/\j<2^64)
def CMul.ok(h:CMul i j):IntMulOk i j:=by
 rcases h with⟨d,e⟩|⟨d,e⟩
 .exact .of_left (intBits_le_64 d e)
 .exact .of_right (intBits_le_64 d e)
theorem Q4(k:Nat):(0:Int)<=2^k:=by constructor<;>ac_nf
def yT:br X (binaryOp .Add) (fU λi j=>.int (i+j)):=jL λ_ _ _ _ _ _ _ q=>add_int q
def yU:br X (binaryOp .Sub) (fU λi j=>.int (i-j)):=jL λ_ _ _ _ _ _ _ q=>sub_int q
def yV:br X (binaryOp .Mult) (rI CMul λi j=>.int (i*j)):=tD λ_ _ _ _ _ _ _ d q=>mul_int q d.ok
theorem yW:br X (binaryOp .FloorDiv) (rI yS λi j=>.int (i/j)):=tD λi j _ _ _ _ _ b q=>by
 have d:=b.1;have c:=b.2;exact floordiv_int ∅ (by rwa [Int.fdiv_eq_ediv_of_nonneg i ∅]) (.inl (PyProof.noPylong_small (by omega)))
theorem yX:br X (binaryOp .Mod) (rI (λ_ j=>0<j) λi j=>.int (i%j)):=tD λi j _ _ _ _ _ a q=>mod_int' ∅ (by rwa [Int.fmod_eq_emod_of_nonneg i ∅])
def yY:br X (binaryOp .RShift) (rI (λ_ j=>0<=j) λi j=>.int (i/2^j.toNat)):=tD λi j _ _ _ _ _ a q=>
 rshift_int a (by rwa [Int.fdiv_eq_ediv_of_nonneg i (Q4 _)])
def op_xor:br X (binaryOp .BitXor) (fU λi j=>.int (Builtin.bitXor i j)):=jL λ_ _ _ _ _ _ _ q=>xor_int q
def Q5{g:Int->Int}(rule:∀(i:Int) (t:Tok) (s:Shared) (Q:AA) (E:AA),Q (.int (g i) s.toks) {s with toks:=s.toks+1}->aag X (f (.int i t)) Q E s):
 yP X f (rU λi=>.int (g i)):=by
 intro a s b H x v Q I d h;obtain⟨i,rfl,q⟩:=h;obtain⟨t,rfl⟩:=d;exact rule i t s _ _ ⟨.int _,H,I.tok _,⟨_,rfl⟩,q⟩
def yZ:yP X (unaryOp .USub) (rU λi=>.int (-i)):=Q5 λ_ _ _ _ _ q=>neg_int q
end
noncomputable def scal:V->V->Bool
 | .non,.non=>true|.non,.int _=>true|.int _,.non=>true|.non,.bl _=>true|.bl _,.non=>true|.non,.str _=>true|.str _,.non=>true
 | .int _,.int _=>true|.bl _,.bl _=>true|.str _,.str _=>true|.byt _,.byt _=>true
 | .int _,.str _=>true|.str _,.int _=>true|.bl _,.str _=>true|.str _,.bl _=>true
 | _,_=>false
section
variable {a b c:Expr}{ta tb tc:TE}
def m6{σ:St}(I:Inv X pins σ H s)(q:Q (.bl k) H)(e:k=d):EP X pins σ Q (.bool d) s:=by
 subst e;exact⟨.bl k,H,I,rfl,q⟩
def m7:br X (compareOp .Lt) (fU λi j=>.bl (decide (i<j))):=gW λ_ _ _ _ _ _ _ q=>lt_int q
def y_:br X (compareOp .LtE) (fU λi j=>.bl (decide (i<=j))):=gW λ_ _ _ _ _ _ _ q=>le_int q
def za:br X (compareOp .Gt) (fU λi j=>.bl (decide (j<i))):=gW λ_ _ _ _ _ _ _ q=>gt_int q
def zb:br X (compareOp .GtE) (fU λi j=>.bl (decide (j<=i))):=gW λ_ _ _ _ _ _ _ q=>ge_int q
def zc:br X (compareOp .Is) (λx y H Q=>y=.non/\Q (.bl (decide (x=.non))) H):=by
 intro a s b H x y v u Q I e d h;obtain⟨rfl,q⟩:=h;cases d;refine is_none_gen (m6 I q ?_)
 cases x<;>first
  | (rfl)
  | (obtain⟨t,rfl⟩:=e;rfl)
def Kn:br X (compareOp .IsNot) (λx y H Q=>y=.non/\Q (.bl (!decide (x=.non))) H):=by
 intro a s b H x y v u Q I e d h;obtain⟨rfl,q⟩:=h;cases d;refine isnot_none_gen (m6 I q ?_)
 cases x<;>first
  | (rfl)
  | (obtain⟨t,rfl⟩:=e;rfl)
theorem fV(b:Expr)(h:op≠.In:=by decide)(e:op≠.NotIn:=by decide):behindInMarks op b=false:=by
 cases b with
 | Set d k p=>
   show(_&&_)=_;grind
 | _=>rfl
def Ko(k:br X (compareOp m) r)(d:PE X a ta)(n:PE X b tb)(j:behindInMarks m b=false):PE X (.Compare a [m] [b] pos) (jJ r ta tb):=by
 intro c s o H Q I h;exact wpAny_Compare1 (jK d n I h λv u g x y f i e l q=>k _ g o f x y v u Q i e l q) j
def m8(t:TE):TT:=λa H Q=>t a H λx b=>∃k,x=.bl k/\Q k b
def zd(E:br X (compareOp J) r)(p:PE X a ta)(L:PE X b tb)(f:behindInMarks J b=false):PT X (.Compare a [J] [b] pos) (m8 (jJ r ta tb)):=by
 intro K s G H Q I h;refine wpAny_isTrue_Compare1 (az (p _ s G H _ I h) λv C d=>?_) f;obtain⟨x,g,w,o,i⟩:=d;refine az (L _ C G g _ w i) λu D d=>?_;obtain⟨y,t,n,m,B⟩:=d;refine az (E _ D G t x y v u _ n o m B) λc F d=>?_;obtain⟨z,j,q,A,k,e,l⟩:=d;subst e;cases A;exact wpAny_truthy_bool ⟨j,q,l⟩
def ze(r f:R2)(ta tb tc:TE):TE:=λa H Q=>ta a H λx d=>tb a d λy g=>r x y g λz b=>∃k,z=.bl k/\
 (if k=true then tc a b λc e=>f y c e Q else Q (.bl false) b)
def Q6(E:br X (compareOp o) r)(j:br X (compareOp g) J)(R:PE X a ta)(hb:PE X b tb)(O:PE X c tc)(t:lastMarks [o,g] [b,c]=false:=by with_unfolding_all rfl):PE X (.Compare a [o,g] [b,c] pos) (ze r J ta tb tc):=by
 intro q s i H Q I h;refine Compare_chain (az (R _ s i H _ I h) λv w f=>?_) t;obtain⟨x,F,A,S,G⟩:=f;refine chain_link (az (hb _ w i F _ A G) λu C f=>?_);obtain⟨y,U,K,m,Z⟩:=f;refine az (E _ C i U x y v u _ K S m Z) λd s3 f=>?_;obtain⟨z,l,p,Y,k,e,n⟩:=f;subst e;cases Y;refine wpAny_truthy_bool ?_
 cases k with
 | false=>exact ite_ff ⟨.bl _,l,p,rfl,n⟩
 | true=>
   refine ite_tt (chain_last (az (O _ s3 i l _ p n) λB N f=>?_));obtain⟨V,M,D,T,L⟩:=f;exact j _ N i M y V u B Q D m T L
def jM(K:W7)(x:V)(H:Hp)(k:Bool):Prop:=
 match x with
 | .non=>k=false
 | .bl b=>k=b
 | .int i=>k=(i != 0)
 | .str y=>y.length<=sizeLine/\k=((y.length:Int)!=0)
 | .byt y=>y.size<=sizeLine/\k=((y.size:Int)!=0)
 | .ref p=>(∃a,SqL K H p a/\k=!a.isEmpty)\/(∃a,SqT K H p a/\k=!a.isEmpty)\/∃d,H p=some (.dK d)/\k=!d.isEmpty
 | _=>False
def Q7{vs:List (κ×Value)}(r:KV d vs):(!vs.isEmpty)=!d.isEmpty:=by
 cases r<;>rfl
def Kp(r:Vals xs its):(!its.toArray.isEmpty)=!xs.isEmpty:=by
 cases r<;>simp
def m9:(sizeLine:Nat)<2^63:=by decide
theorem zf:yQ X (λx H Q=>∃k,jM X.K x H k/\Q k H):=by
 intro A s E H x v Q I j h;obtain⟨k,e,q⟩:=h;have z:=m9;have D:sizeLine=16777216:=jh
 cases x with
 | non=>
   cases j;have d:k=false:=e;subst d;exact truthy_none ⟨H,I,q⟩
 | bl b=>
   cases j;have d:k=b:=e;subst d;exact wpAny_truthy_bool ⟨H,I,q⟩
 | int i=>
   obtain⟨t,rfl⟩:=j;have d:k=(i != 0):=e;subst d;exact PySem.P.truthy_int ⟨H,I,q⟩
 | str y=>
   obtain⟨t,rfl⟩:=j;obtain⟨w,d⟩:=e;subst d;exact PySem.P.truthy_str (by lia) ⟨H,I.tok _,q⟩
 | byt y=>
   obtain⟨t,rfl⟩:=j;obtain⟨w,d⟩:=e;subst d;exact W.truthy_bytes (by lia) ⟨H,I.tok _,q⟩
 | ref p=>
   cases j;have d:=e;rcases d with⟨C,l,d⟩|⟨C,l,d⟩|⟨n,l,d⟩
   .subst d
    obtain⟨c,r,f,o⟩:=I.list l;have g:=r.length;exact wpAny_truthy_list f.isList (by ext<;>lia) ⟨H,I.tok _,by rw[Kp r];exact q⟩
   .subst d
    obtain⟨c,r,f,o⟩:=I.tuple l;have g:=r.length;exact truthy_tuple f (by ext<;>lia) ⟨H,I.tok _,by rw[Kp r];exact q⟩
   .subst d
    obtain⟨o,u,B,r,m⟩:=I.hok p _ l;have g:n.length=B.length:=Paired.length r;exact wpAny_truthy_dict u m (by lia) ⟨H,I.tok _,by rw[Q7 r];exact q⟩
 | _=>exact(show False from e).elim
def Q8(n:PE X a ta)(l:∀d,isTrue a X.env d=(do let v <-d;standAt a.pos;holding [v] (truthy v))):
 PT X a (λσ H Q=>ta σ H λx H'=>∃k,jM X.K x H' k/\Q k H'):=by
 intro b s σ H Q I h;refine isTrue_plain (az (n _ s σ H _ I h) λv i e=>?_) (l _);obtain⟨x,m,g,f,j⟩:=e;exact zf _ i σ m x v Q g f j
def ef(r:Vals [x] us):∃u,us=[u]/\RelV x u:=by
 cases r with
 | cons a b=>cases b;exact⟨_,rfl,a⟩
theorem m_(r:Vals [x,y] us):∃u d,us=[u,d]/\RelV x u/\RelV y d:=by
 cases r with
 | cons h f=>
   cases f with
   | cons g e=>cases e;grind
def Kr(c:X.calm=true):dA X (.builtin "min") (λxs H Q=>∃i j,xs=[.int i,.int j]/\Q (.int (if j<i then j else i)) H):=by
 intro b s f H xs e Q I r h;obtain⟨i,j,rfl,q⟩:=h;obtain⟨u,m,rfl,⟨t,rfl⟩,⟨g,rfl⟩⟩:=m_ r
 refine min_two_ints (I.ok.hd c) λl d k=>⟨_,H,I.kept k,?_,q⟩
 by_cases a:j<i
 .rw[if_pos a,if_pos a];exact⟨_,rfl⟩
 .rw[if_neg a,if_neg a];exact⟨_,rfl⟩
end
structure ObjM(h:Heap)(x dx C:Addr)(mA:AD):Prop where
 obj:h.get? x=some (W.instObj C dx)
 ns:h.Ns1 dx mA
 ne:dx≠x
theorem Q9{h:Heap}(n:h.Ns1 m l):∃d,h.get? m=some d/\∀b,W.lookIn b d=some (l b):=by
 obtain⟨o,j,q,f,i,g,_,p⟩:=n;refine⟨o,f,λb=>?_⟩;have e:=p b;unfold nsFind findBy at e;unfold W.lookIn;rw[i];dsimp only
 split
 .grind
 .have a:j.toList.any (·.refKey)=false:=by
   rw[List.any_eq_false];intro y k;obtain⟨z,t,c⟩:=g y (Array.mem_toList_iff.mp k);simp[DictEntry.refKey,c]
  grind
def ObjM.look(I:ObjM h x d C e):∃b,W.InstAt h x (W.instObj C d) C (some b)/\∀g,W.lookIn g b=some (e g):=
 let ⟨b,c,f⟩:=Q9 I.ns
 ⟨b,⟨I.obj,rfl,rfl,c⟩,f⟩
section
variable {w:World}{A:Around}{E:AA}{s:Shared}{x C f:Addr}{mA:AD}{name:Str}{v:Value}
def zg{a:Bool}{Q:AA}(X:K.In s.heap)(I:ObjM s.heap x dx C mA)(d:W.plainGet K C name=true)(e:W.hasDictIn K C=true)(i:W.findIn K (.ref C) name=some none)(c:mA name=some v)(b:W.handedIn v=true)(h:Q v {s with toks:=s.toks+1}):
 wpAny (mZ prog w) A (getAttr (.ref x) name a) Q E s:=by
 obtain⟨j,J,g⟩:=I.look;exact W.get_value X J (W.plainGet_of d).1 (W.findObj_own e i rfl (by rw[g,c])) b h
def Q_{i:Sem Bool}{Q:Value×AC->Shared->Prop}(X:K.In s.heap)(I:ObjM s.heap x dx C mA)(a:W.plainGet K C name=true)(d:W.findIn K (.ref C) name=some (some (.ref f)))(g:W.isFn K (.ref f)=true)(b:mA name=none)(h:Q (.ref f,[.ref x]) s):
 wpAny (mZ prog w) A (getMethod (.ref x) name i) Q E s:=by
 obtain⟨c,J,e⟩:=I.look;exact W.method_fn X J (W.plainGet_of a).1 (W.plainGet_of a).2 d (beq_iff_eq.mp g) (by show(W.lookIn _ c).map _=_;rw[e,b];rfl) h
theorem zh{ns:AJ}{Q:Unit->Shared->Prop}(X:K.In s.heap)(I:ObjM s.heap x dx C mA)(hs:W.findIn K (.ref C) "__setattr__"=some (some (.builtin "object.__setattr__")))(q:W.plainOver K C=true)(j:W.takerIn K C name=some none)(m:W.hasDictIn K C=true)(p:PySem.Within mA ns)(o:ns.length<=sizeLine)(h:∀f,ObjM f x dx C (λy=>if y=name then some v else mA y)->Heap.SameBut dx s.heap f->Q () {s with heap:=f,toks:=s.toks+2}):
 wpAny (mZ prog w) A (setAttr (.ref x) name v) Q E s:=by
 obtain⟨u,J,t⟩:=I.look;refine W.set_plain X J hs (W.osa_open X J q j λb=>?_);obtain⟨r,k,i⟩:=W.any_some m;refine wa (wc (wa (wa (wpAny_loadPart I.obj (wa (W.Looks.here (W.looks_clsIn X k) ?_))))));rw[i];refine wc (wa (wc (wa (wpAny_nsSet1 I.ns λf c a=>?_))));obtain⟨z,l,n,d,e,g⟩:=c.count (.cons _ v p);exact wa (wpAny_lookBehind d (by rw[e];exact pastItsLine_dict (Qg g (by rw[qt];ext))) (wc (h _ ⟨(a.2 _ (.symm I.ne)).trans I.obj,c,I.ne⟩ a)))
def Ra{R:Result->Shared->Prop}{vs:AC}{b:List (Str×Value)}(X:K.In s.heap)(d:W.makesIn K C=true)(c:W.findIn K (.ref C) "__init__"=some (some (.ref f)))(e:W.typeIn K (.ref f)=some (.type "function"))(h:codeAny (mZ prog w) (A.under (.builtin "type.__call__" ⟨.ref C::vs,b⟩)) (.call (.ref f) ⟨.ref (~~~s+1)::vs,b⟩) (W.InitBack (~~~s+1) R)
  {s with heap:=(s.heap.push W.emptyDict).push (W.instObj C (~~~s))}):
 codeAny (mZ prog w) A (.call (.ref C) ⟨vs,b⟩) R s:=W.make_core (W.makes_of X d) (W.looks_findIn X c) (λa=>W.bind_fn X a e) (.inl rfl) h
end
noncomputable def bM(f:Str)(v:V):List (Str×V)->List (Str×V)
 | []=>[(f,v)]
 | (g,x)::r=>if g=f then (g,v)::r else (g,x)::bM f v r
theorem Ks(f g:Str)(v:V):∀b:List (Str×V),(bM f v b).lookup g=if g=f then some v else b.lookup g
 | []=>by
   show List.lookup g [_]=_;by_cases h:g=f
   .have c:=beq_iff_eq.mpr h
    simp [List.lookup,c,if_pos h]
   .have c:=beq_eq_false_iff_ne.mpr h
    simp [List.lookup,c,if_neg h]
 | (k,x)::r=>by
   rw[show bM f v _=(if k=f then (k,v)::r else (k,x)::bM f v r) from rfl];by_cases a:k=f
   .rw[if_pos a]
    by_cases h:g=k
    .have c:=beq_iff_eq.mpr h
     simp [List.lookup,c,if_pos (h.trans a)]
    .have c:=beq_eq_false_iff_ne.mpr h
     simp [List.lookup,c,if_neg (λe:g=f=>h (e.trans a.symm))]
   .rw[if_neg a]
    by_cases h:g=k
    .have c:=beq_iff_eq.mpr h
     simp [List.lookup,c,if_neg (λe=>a (h.symm.trans e))]
    .have c:=beq_eq_false_iff_ne.mpr h
     simp [List.lookup,c];exact(Ks f g v r)
theorem zi(f:Str)(v:V):∀a:List (Str×V),f∈(bM f v a).map (·.1)/\∀g,g∈a.map (·.1)->g∈(bM f v a).map (·.1)
 | []=>⟨by simp[bM],λg h=>by simp at h⟩
 | (k,x)::r=>by
   obtain⟨d,c⟩:=zi f v r;rw[show bM f v _=(if k=f then (k,v)::r else (k,x)::bM f v r) from rfl];by_cases b:k=f
   .subst b
    exact⟨by simp,λg h=>by simpa using h⟩
   .rw[if_neg b]
    refine⟨?_,λg h=>?_⟩
    .exact qg _ d
    .rcases qu h with e|e
     .exact List.mem_cons.mpr (.inl e)
     .exact qg _ (c g e)
theorem Kt(f:Str)(v:V):∀b:List (Str×V),(bM f v b).length<=b.length+1
 | []=>by simp[bM]
 | (k,x)::r=>by
   have c:=Kt f v r;rw[show bM f v _=(if k=f then (k,v)::r else (k,x)::bM f v r) from rfl];by_cases a:k=f
   .rw[if_pos a,qt,qt];lia
   .rw[if_neg a,qt,qt];ext
def RelO.some_of(r:RelO (some v) o):∃u,o=some u/\RelV v u:=by
 cases o with
 | none=>exact(r).elim
 | some u=>exact⟨u,rfl,r⟩
def RelO.none_of{o:Option Value}(r:RelO none o):o=none:=by
 cases o with
 | none=>rfl
 | some u=>exact(r).elim
def Rb{v:V}{u:Value}(r:RelV v u):W.handedIn u=true:=by
 cases v with
 | non=>cases (r);rfl
 | bl b=>cases (r);rfl
 | int i=>obtain⟨t,e⟩:=r;cases e;rfl
 | str x=>obtain⟨t,e⟩:=r;cases e;rfl
 | byt b=>obtain⟨t,e⟩:=r;cases e;rfl
 | flt b=>obtain⟨t,e⟩:=r;cases e;rfl
 | ref a=>cases (r);rfl
 | ty n=>cases (r);rfl
section
variable {P:P7}{w:World}{H H':Hp}{h h':Heap}{a C:Addr}{fs fs':List (Str×V)}
def tE(g:HOk P w H h)(e:H a=some (.ins C dx fs)):∃b,ObjM h a dx C b/\(∀f,RelO (fs.lookup f) (b f))/\PySem.Within b (fs.map (·.1))/\fs.length<=1000/\H dx=some (.own a):=by
 obtain⟨d,z,i,j,b,n,r,q⟩:=g a _ e;exact⟨b,⟨j,n,i⟩,r,q,z,d⟩
end
structure Cls(K:W7)(C:Addr):Prop where
 pg:W.plainGet K C Str.empty=true
 hd:W.hasDictIn K C=true
 po:W.plainOver K C=true
 sa:W.findIn K (.ref C) "__setattr__"=some (some (.builtin "object.__setattr__"))
def Cls.get{K:W7}(c:Cls K C)(f:Str):W.plainGet K C f=true:=c.pg
def NoAttr(K:W7)(C:Addr)(f:Str):Prop:=W.findIn K (.ref C) f=some none
def NoAttr.taker{K:W7}{C:Addr}{f:Str}(n:NoAttr K C f):W.takerIn K C f=some none:=by
 unfold W.takerIn;rw[n];rfl
structure Con(K:W7)(C:Addr)(f:Str)(v:V)(u:Value):Prop where
 at_:W.findIn K (.ref C) f=some (some u)
 rel:RelV v u
 get:W.specialIn K u "__get__"=some none
 cp:W.copiedNames.contains f=false
structure eX(K:W7)(C:Addr)(m:Str)(f:Addr):Prop where
 at_:W.findIn K (.ref C) m=some (some (.ref f))
 fn:W.isFn K (.ref f)=true
 kp:W.keepIn K (.ref f)=true
section
variable {σ:St}{H:Hp}{s:Shared}{a C:Addr}{fs:List (Str×V)}{f:Str}{v:V}{A:Around}{E:AA}
def Rc{b:Bool}{Q:AA}(I:Inv X pins σ H s)(e:H a=some (.ins C dx fs))(c:Cls X.K C)(n:NoAttr X.K C f)(l:fs.lookup f=some v)(h:∀u s',Inv X pins σ H s'->RelV v u->Q u s'):wpAny (mZ X.prog X.w) A (getAttr (.ref a) f b) Q E s:=by
 obtain⟨i,O,r,_,_,_⟩:=tE I.hok e;obtain⟨u,g,d⟩:=RelO.some_of (by rw[<-l];exact r f);exact zg I.kIn O (c.get f) c.hd n g (Rb d) (h u _ (I.tok _) d)
def Ku{m:Str}{g:Addr}{d:Sem Bool}{Q:Value×AC->Shared->Prop}(I:Inv X pins σ H s)(e:H a=some (.ins C dx fs))(c:Cls X.K C)(k:eX X.K C m g)(l:fs.lookup m=none)(h:Q (.ref g,[.ref a]) s):wpAny (mZ X.prog X.w) A (getMethod (.ref a) m d) Q E s:=by
 obtain⟨b,O,r,_,_,_⟩:=tE I.hok e;exact Q_ I.kIn O (c.get m) k.at_ k.fn (RelO.none_of (by rw[<-l];exact r m)) h
theorem Re{y:V}{u:Value}{Q:Unit->Shared->Prop}(I:Inv X pins σ H s)(e:H a=some (.ins C dx fs))(c:Cls X.K C)(n:NoAttr X.K C f)(x:fs.length<1000)(p:RelV y u)(h:∀s',Inv X pins σ (upd H a (.ins C dx (bM f y fs))) s'->Q () s'):wpAny (mZ X.prog X.w) A (setAttr (.ref a) f u) Q E s:=by
 obtain⟨m,O,r,j,_,i⟩:=tE I.hok e
 have t:(fs.map (·.1)).length<=sizeLine:=by rw[qf,jh];lia
 refine zh I.kIn O c.sa c.po n.taker c.hd j t λB d k=>h _ (I.write (by rw[e];exact .intro) (.inr i) (λb q v z=>(k.2 b v).trans z) (let ⟨o,_,_,l,_⟩:=d.ns;⟨o,l⟩) (⟨by rwa [Yh O.ne],?_,O.ne,d.obj,_,d.ns,λg=>?_,λg w=>?_⟩))
 .have:=Kt f y fs;lia
 .rw[Ks]
  by_cases q:g=f
  .rwa [if_pos q,if_pos q]
  .rw[if_neg q,if_neg q];exact r g
 .by_cases q:g=f
  .rw[q];exact(zi f y fs).1
  .refine(zi f y fs).2 g (j g λz=>w ?_)
   show(if g=f then _ else m g)=none
   rwa [if_neg q]
theorem Inv.made(I:Inv X pins σ H s):Inv X pins σ (upd (upd H (~~~s) (.own (~~~s+1))) (~~~s+1) (.ins C (~~~s) []))
 {s with heap:=(s.heap.push W.emptyDict).push (W.instObj C (~~~s))}:=by
 have c:_=some W.emptyDict:=qp s.heap rfl
 have f:=by
  have:=qp (s.heap.push W.emptyDict) (o:=W.instObj C (~~~s)) rfl
  rwa [wx]at this
 refine(I.laid (o:=.own _) (t':=s.toks) (λb u q=>qe _ q) (qv _) ⟨_,c⟩).laid (λb u q=>qe _ q) (Nat.le_of_eq (wx _ _)) ?_;have d:(~~~s)≠_:=qm (Qa _);refine⟨by rw[Yh d,Yg],Qh _,d,f,λ_=>none,(Heap.Ns1.of_empty (⟨W.emptyDict,#[],_,c,rfl,λe h=>absurd h nofun,λ_=>rfl⟩)).at λo q=>qe _ q,λ_=>.intro,λy g=>absurd rfl g⟩
def zj{prog:P7}{w:World}{env:Env}{e:Expr}{f:Str}{c:Pos}{s:Shared}{Q:AA}(a:attributeBase e f env (eval e env)=eval e env)(h:wpAny (mZ prog w) A (eval e env) (λo b=>wpAny (mZ prog w) A (getAttr o f true) Q E b) E s):wpAny (mZ prog w) A (eval (.Attribute e f c) env) Q E s:=
 Attribute_any_ h (by rw[arm_eval_Attribute,a])
end
def zk(K:W7)(g:TE)(f:Str):TE:=λh H Q=>g h H λx d=>∃a C e c v,x=.ref a/\d a=some (.ins C e c)/\Cls K C/\NoAttr K C f/\c.lookup f=some v/\Q v d
def zl(K:W7)(g i:TE)(f:Str):TS:=λD j H=>i j H λy h=>g j h λx d=>∃a C e c,x=.ref a/\d a=some (.ins C e c)/\Cls K C/\NoAttr K C f/\c.length<1000/\
 D.nx j (upd d a (.ins C e (bM f y c)))
section
variable {o e:Expr}{f:Str}{ta:TE}{σ:St}{H:Hp}{s:Shared}{A:Around}{E Q:AA}{c:Value}{b:Bool}
def nc(g:PE X e ta)(o:attributeBase e f X.env (eval e X.env)=eval e X.env):PE X (.Attribute e f pos) (zk X.K ta f):=by
 intro b s A H Q I h;refine zj o (az (g _ s A H _ I h) λu y d=>?_);obtain⟨x,k,t,r,a,C,w,z,v,m,j,c,n,l,q⟩:=d;subst m;obtain rfl:=r
 exact Rc t j c n l λB D p i=>⟨v,k,p,i,q⟩
def ng(k:PE X o ta)(t:PE X value tv)(hs:swapsWith value (some (.Attribute o f pos')) pos.line X.env=pure false):PS X (.Assign [.Attribute o f pos'] value pos) (zl X.K ta tv f):=by
 intro e s b H D I h;refine plainObj_wpAny_Assign_Attribute (az (t _ s b H _ I h) λu B d=>?_) hs;obtain⟨y,i,v,g,q⟩:=d;refine az (k _ B b i _ v q) λL K d=>?_;obtain⟨x,G,p,j,a,C,M,F,m,r,c,n,l,z⟩:=d;subst m;obtain rfl:=j
 exact Re p r c n l g λJ w=>⟨b,_,w,z⟩
inductive cw (K:W7) (H:Hp):V->Value->Prop where
 | non:cw K H .non (.type "NoneType")
 | bl (x:Bool):cw K H (.bl x) (.type "bool")
 | int (i:Int):cw K H (.int i) (.type "int")
 | str (x:Str):cw K H (.str x) (.type "str")
 | flt (x:UInt64):cw K H (.flt x) (.type "float")
 | lst {a:Addr}{xs:AM} (e:H a=some (.lst xs)):cw K H (.ref a) (.type "list")
 | frz {a:Addr}{o:Obj}{xs:AM} (e:H a=some (.frz o (.lst xs))):cw K H (.ref a) (.type "list")
 | tup {a:Addr}{xs:AM} (e:H a=some (.tup xs)):cw K H (.ref a) (.type "tuple")
 | dK {a:Addr}{kvs:List (aX×V)} (e:H a=some (.dK kvs)):cw K H (.ref a) (.type "dict")
 | dT {a:Addr}{kvs:List (List aX×V)} (e:H a=some (.dT kvs)):cw K H (.ref a) (.type "dict")
 | ins {a C dx:Addr}{fs:List (Str×V)} (e:H a=some (.ins C dx fs)) (cl:Cls K C) (ha:W.findIn K (.ref C) "__class__"=some (some (.builtin "object.__class__")))
  (hn:W.specialIn K (.builtin "object.__class__") "__get__"=some (some (.builtin "getset_descriptor.__get__"))) (htk:W.takesIn K (.builtin "object.__class__")=some true)
  (hm:W.mroIn K C (.type "object")=some true):cw K H (.ref a) (.ref C)
def Rf(I:Inv X pins σ H s)(j:RelV x u)(F:cw X.K H x t)(e:W.kitOne X.K t c=some b)(h:∀tk,Q (.bool b) {s with toks:=tk}):
 wpAny (mZ X.prog X.w) A (call (.builtin "isinstance") [u,c]) Q E s:=by
 cases F with
 | non=>cases (j);exact W.kia_one W.kitx_none I.kIn .intro e (λz=>nomatch z) h
 | bl y=>cases (j);exact W.kia_one W.kitx_bool I.kIn .intro e (λz=>nomatch z) h
 | int i=>obtain⟨t,q⟩:=j;cases q;exact W.kia_one W.kitx_int I.kIn .intro e (λz=>nomatch z) h
 | str y=>obtain⟨t,q⟩:=j;cases q;exact W.kia_one W.kitx_str I.kIn .intro e (λz=>nomatch z) h
 | flt y=>obtain⟨t,q⟩:=j;cases q;exact W.kia_one W.kitx_float I.kIn .intro e (λz=>nomatch z) h
 | @lst a f g=>
   cases (show u=.ref a from j);obtain⟨_,_,n,_,k⟩:=I.hok a _ g;exact W.kia_one W.kitx_list I.kIn ⟨_,k,rfl⟩ e (λz=>nomatch z) h
 | @frz a P f g=>
   cases (j);obtain⟨_,_,_,n,_,k⟩:=I.hok a _ g;exact W.kia_one W.kitx_list I.kIn ⟨_,k,rfl⟩ e (λz=>nomatch z) h
 | @tup a f g=>
   cases (show u=.ref a from j);obtain⟨_,_,_,p⟩:=I.hok a _ g;obtain⟨o,k,l,_⟩:=p;exact W.kia_one W.kitx_tuple I.kIn ⟨o,k,l⟩ e (λz=>nomatch z) h
 | @dK a r g=>
   cases (show u=.ref a from j);obtain⟨_,_,S,_,p⟩:=I.hok a _ g;obtain⟨o,G,B,k,l,_⟩:=p;exact W.kia_one W.kitx_dict I.kIn ⟨o,k,l.1⟩ e (λz=>nomatch z) h
 | @dT a r g=>
   cases (show u=.ref a from j);obtain⟨_,_,f,_,o,G,B,k,l,_⟩:=I.hok a _ g;exact W.kia_one W.kitx_dict I.kIn ⟨o,k,l.1⟩ e (λz=>nomatch z) h
 | @ins a C L N g v D K m w=>
   cases (j);obtain⟨R,O,_⟩:=tE I.hok g;obtain⟨M,J,_⟩:=O.look;exact W.kia_one (W.kitx_own (v.get _) v.hd D K m w) I.kIn J e (λz=>nomatch z) h
end
structure Room(k:Nat)(A:Around):Prop where
 hd:A.handled=none
 dp:A.depth+3*k+5<recursionLimit
 un:A.units+16*k+200<cLine
theorem Room.mono(r:Room k A)(h:j<=k):Room j A:=⟨r.hd,by have:=r.dp;lia,by have:=r.un;lia⟩
theorem Room.deeper(r:Room (k+1) A)(env:Env):Room k (A.deeper env):=
 ⟨r.hd,by have:=r.dp;show _+1+3*k+5<_;ac_nf,by have:=r.un;show _+3+16*k+200<_;ac_nf⟩
def Rg{A:Around}{C:Addr}{us:AC}{a:List (Str×Value)}:(A.under (.builtin "type.__call__" ⟨.ref C::us,a⟩)).depth=A.depth+1:=by
 first|rfl|simp[guardIds]
def Rh{A:Around}{C:Addr}{us:AC}{a:List (Str×Value)}:(A.under (.builtin "type.__call__" ⟨.ref C::us,a⟩)).units=A.units+1:=by
 first|rfl|simp[.frames]
theorem Room.make{k:Nat}{A:Around}(r:Room (k+1) A)(C:Addr)(us:AC)(a:List (Str×Value)):Room k (A.under (.builtin "type.__call__" ⟨.ref C::us,a⟩)):=
 ⟨r.hd,by have:=r.dp;rw[Rg];ext<;>ac_nf,by have:=r.un;rw[Rh];ac_nf⟩
theorem Room.depth(r:Room k A):A.depth<recursionLimit:=by have:=r.dp;lia
theorem Room.units(r:Room k A):A.units+64<cLine:=by have:=r.un;lia
def nh:TA:=λ_ H Q=>Q [] H
def zm(a:TE)(d:TA):TA:=λe H Q=>a e H λx b=>d e b λf c=>Q (x::f) c
section
variable {e:Expr}{te:TE}{t:TA}
def fW:PA X [] nh:=λ_ _ _ _ H Q I h=>Calls.spliced_nil ⟨[],H,I,.nil,h⟩
def fX(k:PE X e te)(d:PA X es t)(hs:starEach (e::es) X.env=(false,eval e X.env)::starEach es X.env:=by rfl):PA X (e::es) (zm te t):=by
 intro b r s v H Q I h;rw[hs];show wpAny _ _ (spliced ((_,eval e _)::backTo b _)) _ _ s;refine Calls.spliced_cons (az (k _ s v H _ I h) λu c a=>?_);obtain⟨x,o,m,j,f⟩:=a;refine az (d b _ c v o _ m f) λy p a=>?_;obtain⟨w,l,i,g,n⟩:=a;exact⟨x::w,l,i,.cons j g,n⟩
def zo(t:TA):TE:=λc H Q=>t c H λb a=>b.length<=sizeLine/\∀p,a p=none->Q (.ref p) (upd a p (.tup b))
def zp(t:TA):TE:=λc H Q=>t c H λb a=>b.length<=sizeLine/\∀p,a p=none->Q (.ref p) (upd a p (.lst b))
def zq{d}(h:PA X es t):PE X (.Tuple es d pos) (zo t):=by
 intro i s k H Q I g;exact wpAny_Tuple_spliced (az (h pos _ s k H _ I g) λl c ⟨j,f,a,r,z,q⟩=>⟨by rwa [<-r.length],⟨.ref _,upd f _ (.tup j),a.laid (λb u e=>qe _ e) (qv _) (⟨z,l,r,⟨_,qp _ rfl,rfl,_,rfl⟩⟩),rfl,q _ (a.hok.fresh (qv _))⟩⟩)
def ni(h:PA X es t):PE X (.List es pos) (zp t):=by
 intro g s j H Q I d;exact wpAny_List_spliced (az (h pos _ s j H _ I d) λk a ⟨i,f,c,r,z,q⟩=>⟨by rwa [<-r.length],⟨.ref _,upd f _ (.lst i),c.laid (λb u e=>qe _ e) (qv _) (⟨z,k,0,r,qp _ rfl⟩),rfl,q _ (c.hok.fresh (qv _))⟩⟩)
end
abbrev Sp:=AM->Hp->VK->XK->Prop
abbrev gX:=List Env->Hp->Shared->XK->AA
structure Env0(P:P7)(w:World)(K:W7)(mg:AD)(base:Heap)(A:Around)(outer:List Env)(s:Shared)(H:Hp):Prop where
 frames:A.frames=some outer
 mod:Mod K mg base
 bs:∀b o,base.get? b=some o->s.heap.get? b=some o/\H b=none
 bsz:base.objs.size<= ~~~s
 funs:s.heap.FunFrames base outer
 frf:∀b∈fF outer,H b=none
 hok:HOk P w H s.heap
 bare:AllBare s.gens
def CE(a:List Env)(P:P7)(w:World)(H:Hp)(s:Shared)(Q:VK)(u:Value)(s':Shared):Prop:=
 ∃v b,s'.os=s.os/\AllBare s'.gens/\Un (fF a) [] H b s.heap s'.heap/\HOk P w b s'.heap/\RelV v u/\Q v b
def CR(CX:gX)(a:List Env)(P:P7)(w:World)(H:Hp)(s:Shared)(Q:VK)(E:XK)(r:Result)(s':Shared):Prop:=
 match r with
 | .ok (.ret u)=>CE a P w H s Q u s'
 | .ok _=>False
 | .error e=>CX a H s E e s'
structure FnOk(P:P7)(w:World)(K:W7)(mg:AD)(base:Heap)(CX:gX)(k:Nat)(f:Addr)(fd:FuncData)(ps:AJ)(sp:Sp):Prop where
 len:∀vs H Q E,sp vs H Q E->vs.length=ps.length
 run:∀(A:Around) (outer:List Env) (s:Shared) (H:Hp) (args:Args) (us:AC) (vs:AM) (Q:VK) (E:XK),Room k A->Env0 P w K mg base A outer s H->BindsTo s fd args (ps.zip us)->Vals vs us->sp vs H Q E->
  codeAny (mZ P w) A (.call (.ref f) args) (CR CX outer P w H s Q E) s
def FnOk.mono{P:P7}{w:World}{K:W7}{g:AD}{a:Heap}{CX:gX}{j k:Nat}{f:Addr}{e:FuncData}{l:AJ}{sp:Sp}(F:FnOk P w K g a CX j f e l sp)(h:j<=k):
 FnOk P w K g a CX k f e l sp:=⟨F.len,λA b s H c n m Q E i=>F.run A b s H c n m Q E (i.mono h)⟩
def Env0.make{P:P7}{w:World}{K:W7}{d:AD}{b:Heap}{A:Around}{a:List Env}{s:Shared}{H:Hp}(e:Env0 P w K d b A a s H)(C:Addr)(us:AC)(f:List (Str×Value)):
 Env0 P w K d b (A.under (.builtin "type.__call__" ⟨.ref C::us,f⟩)) a s H:=⟨by first|exact e.frames|(simpa [pushEnvs]using e.frames),e.mod,e.bs,e.bsz,e.funs,e.frf,e.hok,e.bare⟩
section
variable {σ:St}{H:Hp}{s s':Shared}
def Inv.env0(I:Inv X pins σ H s):Env0 X.prog X.w X.K X.mg X.base X.A X.stack s H:=
 ⟨I.ok.frames,I.ok.mod,I.bs,Qg I.ok.bsz I.sz,I.stack,I.stkFree,I.hok,I.bare⟩
def Inv.after(I:Inv X pins σ H s)(h:CE X.stack X.prog X.w H s Q u s'):EP X pins σ Q u s':=by
 obtain⟨v,j,os,a,e,c,r,q⟩:=h;obtain⟨i,g,d,t,f⟩:=s';obtain rfl:=os;exact⟨v,j,I.call e c a (λb z=>absurd z nofun),r,q⟩
end
def zr(sp:Sp)(b:AM)(E:XK)(t:TA):TE:=λc H Q=>t c H λd a=>sp (d++b) a Q E
def zt(C:Addr)(m:Str)(sp:Sp)(g:AM)(E:XK)(d:TE)(t:TA):TE:=λh H Q=>d h H λx c=>∃a e b,x=.ref a/\c a=some (.ins C e b)/\b.lookup m=none/\
 t h c λi f=>sp (x::(i++g)) f Q E
def zu(C:Addr)(sp:Sp)(d:AM)(E:XK)(t:TA):TE:=λe H Q=>t e H λf b=>∀x a,b x=none->b a=none->a≠x->
 sp (.ref x::(f++d)) (upd (upd b a (.own x)) x (.ins C a [])) (λv c=>v=.non/\Q (.ref x) c) E
def Binds(K:W7)(b:FuncData)(d:AJ)(e:AC):Prop:=
 ∀(s:Shared) (c:List _),K.In s.heap->(c++e).length=d.length->BindsTo s b ⟨c,[]⟩ (d.zip (c++e))
def Binds.all{K:W7}(h:∀us:AC,us.length=d.length->bindArgs c ⟨us,[]⟩=pure (d.zip us)):Binds K c d []:=λs us _ b=>by
 rw[w9]at b ⊢;exact .of_eq (h us b)
def lI(CX:gX)(X:Cx)(E:XK):Prop:=∀(a:List _) (c:St) (H:Hp) (s:Shared) (e:Value) (b:Shared),Inv X a c H s->CX X.stack H s E e b->X.xe e b
section
variable {CX:gX}{k:Nat}{f C:Addr}{fd:FuncData}{ps:AJ}{sp:Sp}{dvs:AM}{ds:AC}{E:XK}{x m:Str}{p:Pos}{e o:Expr}{ta:TE}{t:TA}
def zw{σ:St}(F:FnOk X.prog X.w X.K X.mg X.base CX k f fd ps sp)(d:Room k X.A)(m:Binds X.K fd ps ds)(c:Vals dvs ds)(g:lI CX X E)(I:Inv X pins σ H s)(r:Vals vs us)(h:sp (vs++dvs) H Q E):aag X (call (.ref f) us) (EP X pins σ Q) X.xe s:=by
 have b:=r.append c
 have i:(us++ds).length=ps.length:=by rw[<-b.length];exact F.len _ _ _ _ h
 refine wpAny_call (codeAny_mono (F.run X.A _ s H _ _ _ Q E d I.env0 (m s us I.kIn i) b h) λr j a=>?_)
 cases r with
 | error e=>exact g _ σ H s e j I a
 | ok l=>
   cases l with
   | ret u=>exact I.after a
   | next=>exact .elim a
   | brk=>exact .elim a
   | cont=>exact .elim a
abbrev aab(X:Cx)(e:Expr)(s:List Expr):Prop:=starEach (e::s) X.env=(false,eval e X.env)::starEach s X.env
theorem zx(F:FnOk X.prog X.w X.K X.mg X.base CX k f fd ps sp)(y:Room k X.A)(l:Gl X x)(w:X.mg x=some (.ref f))(v:W.keepIn X.K (.ref f)=true)(B:Binds X.K fd ps ds)(n:Vals dvs ds)(i:lI CX X E)(u:PA X (e::es) t)(b:cu x:=by decide)(j:aab X e es:=by rfl)(c:(backTo pos (starEach es X.env)).any (·.1)=false:=by rfl):
 PE X (.Call (.Name x p) (e::es) [] pos) (zr sp dvs E t):=by
 intro m s o H Q I h;refine wpAny_Call_Name_kw (tp I l w (W.callWith_K I.ok.mod.kin v (az (u pos _ s o H _ I h) λD A d=>?_) j c) b);obtain⟨C,z,g,r,q⟩:=d;exact⟨g.kIn,zw F y B n i g r q⟩
def Ri{t:Sem Bool}(w:PE X o ta)(c:Cls X.K C)(i:eX X.K C m f)(F:FnOk X.prog X.w X.K X.mg X.base CX k f fd ps sp)(A:Room k X.A)(L:Binds X.K fd ps ds)(y:Vals dvs ds)(n:lI CX X E)(B:eval (.Call (.Attribute o m apos) [] [] pos) X.env=(do
  let j <-eval o X.env
  standAt apos.atName
  let (f,first) <-holding [j] (getMethod j m t)
  callWith pos f first (backTo pos (starEach [] X.env)) (backToKw pos (keywordEach [] X.env))):=by rfl):
 PE X (.Call (.Attribute o m apos) [] [] pos) (zt C m sp dvs E ta nh):=by
 intro e s p H Q I h;refine W.methodCall_KW (az (w _ s p H _ I h) λu J g=>?_) B;obtain⟨x,G,d,v,a,K,D,r,z,l,q⟩:=g;subst r;obtain rfl:=v;exact Ku d z c i l (W.callWith_K0 d.kIn i.kp (zw (vs:=[.ref a]) F A L y n d (.cons rfl .nil) q))
structure Mk(K:W7)(C f:Addr):Prop where
 makes:W.makesIn K C=true
 init:W.findIn K (.ref C) "__init__"=some (some (.ref f))
 fn:W.isFn K (.ref f)=true
 kp:W.keepIn K (.ref C)=true
def Rj{pins:AB}{σ:St}{H:Hp}{s:Shared}{Q:VK}{us:AC}{vs:AM}(M:Mk X.K C f)(F:FnOk X.prog X.w X.K X.mg X.base CX k f fd ps sp)(n:Room (k+1) X.A)(m:Binds X.K fd ps ds)(q:Vals dvs ds)(l:lI CX X E)(I:Inv X pins σ H s)(r:Vals vs us)(h:∀x b,H x=none->H b=none->b≠x->sp (.ref x::(vs++dvs)) (upd (upd H b (.own x)) x (.ins C b [])) (λv y=>v=.non/\Q (.ref x) y) E):
 aag X (call (.ref C) us) (EP X pins σ Q) X.xe s:=by
 have g:=h (~~~s+1) _ (I.hok.fresh (Nat.le_succ _)) (I.hok.fresh (qv _)) (qm (Qa _));have c:=Inv.made (C:=C) I;have d:Vals (.ref (~~~s+1)::_) _:=.cons rfl (r.append q)
 have z:=by
  have e:=d.length;rw[F.len _ _ _ _ g]at e;exact e.symm
 refine wpAny_call (Ra I.kIn M.makes M.init (beq_iff_eq.mp M.fn) (codeAny_mono (F.run _ _ _ _ _ _ _ _ E (n.make C us [])
  (c.env0.make C us []) (m _ _ c.kIn z) d g) λr t a=>?_))
 cases r with
 | error e=>exact l _ σ _ _ e t c a
 | ok o=>
   cases o with
   | ret u=>
     obtain⟨v,A,w,j,p,i⟩:=c.after a;subst p;exact⟨j,⟨.ref _,A,w,rfl,i⟩⟩
   | next=>exact .elim a
   | brk=>exact .elim a
   | cont=>exact .elim a
abbrev aac(X:Cx)(p:Pos)(s:List Expr):Prop:=(backTo p (starEach s X.env)).any (·.1)=false
theorem zy(M:Mk X.K C f)(F:FnOk X.prog X.w X.K X.mg X.base CX k f fd ps sp)(u:Room (k+1) X.A)(l:Gl X x)(w:X.mg x=some (.ref C))(A:Binds X.K fd ps ds)(n:Vals dvs ds)(i:lI CX X E)(v:PA X (e::es) t)(b:cu x:=by decide)(j:aab X e es:=by rfl)(c:aac X pos es:=by rfl):
 PE X (.Call (.Name x p) (e::es) [] pos) (zu C sp dvs E t):=by
 intro m s o H Q I h;refine wpAny_Call_Name_kw (tp I l w (W.callWith_K I.ok.mod.kin M.kp (az (v pos _ s o H _ I h) λD z d=>?_) j c) b);obtain⟨B,y,g,r,q⟩:=d;exact⟨g.kIn,Rj M F u A n i g r q⟩
end
section
variable {CX:gX}{k:Nat}{f C:Addr}{fd:FuncData}{ps ks:AJ}{sp:Sp}{E:XK}{x m:Str}{p kpos:Pos}{e o:Expr}{kws:List Keyword}{te ta:TE}{t tk:TA}{nm:Option Str}
structure zz(K:W7)(fd:FuncData)(ps ks:AJ)(g:AC->AC->AC)(gV:AM->AM->AM):Prop where
 to:∀(s:Shared) (us ws:AC),K.In s.heap->(g us ws).length=ps.length->BindsTo s fd ⟨us,ks.zip ws⟩ (ps.zip (g us ws))
 rel:∀{vs:AM}{us:AC}{zs:AM}{ws:AC},Vals vs us->Vals zs ws->Vals (gV vs zs) (g us ws)
variable {g:AC->AC->AC}{gV:AM->AM->AM}
end
structure dI(N P:AJ)(sc:Scope):Prop where
 kind:sc.kind=.function
 co:sc.isCoroutine=false
 gen:sc.isGenerator=false
 nd:N.Nodup
 pre:N.take P.length=P
 par:∀x∈P,sc.names.lookup x=some .local\/sc.names.lookup x=some .cell
 nofree:∀y∈sc.names,y.2≠.free
theorem Kv{kindOf:Str->Option NameKind}:∀{a:List (Str×Value)}{m:AD},(∀v,(x,v)∉a)->bindL kindOf a m x=m x
 | [],_,_=>rfl
 | (n,v)::r,m,h=>by
   unfold bindL;rw[Kv λw b=>h w (qg _ b)]
   split
   .grind
   .rfl
theorem Kw{kindOf:Str->Option NameKind}:∀{a:List (Str×Value)}{m:AD},(∀v,(x,v)∉a)->bindC kindOf a m x=m x
 | [],_,_=>rfl
 | (n,v)::r,m,h=>by
   unfold bindC;rw[Kw λw b=>h w (qg _ b)]
   split
   .rfl
   symm
theorem Kx{kindOf:Str->Option NameKind}:∀{P:AJ}{vs:AC}{i:Nat}{m:AD},P.Nodup->P[i]?=some x->vs[i]?=some v->kindOf x=some .local->
 bindL kindOf (P.zip vs) m x=some v
 | [],_,_,_,_,h,_,_=>by simp at h
 | _::_,[],_,_,_,_,h,_=>by simp at h
 | p::P,w::vs,0,m,c,b,a,d=>by
   simp at b a;subst b a;show bindL _ (_::P.zip vs) m p=_;unfold bindL;rw[Kv λv e=>(List.nodup_cons.mp c).1 (List.of_mem_zip e).1,if_pos d];simp
 | p::P,w::vs,i+1,m,c,b,a,d=>by
   unfold bindL;exact Kx (List.nodup_cons.mp c).2 (by simpa using b) (by simpa using a) d
theorem Ky{kindOf:Str->Option NameKind}:∀{P:AJ}{vs:AC}{i:Nat}{m:AD},P.Nodup->P[i]?=some x->vs[i]?=some v->kindOf x≠some .local->
 bindC kindOf (P.zip vs) m x=some v
 | [],_,_,_,_,h,_,_=>by simp at h
 | _::_,[],_,_,_,_,h,_=>by simp at h
 | p::P,w::vs,0,m,c,b,a,d=>by
   simp at b a;subst b a;show bindC _ (_::P.zip vs) m p=_;unfold bindC;rw[Kw λv e=>(List.nodup_cons.mp c).1 (List.of_mem_zip e).1,if_neg d];simp
 | p::P,w::vs,i+1,m,c,b,a,d=>by
   unfold bindC;exact Ky (List.nodup_cons.mp c).2 (by simpa using b) (by simpa using a) d
noncomputable def start(N:AJ)(vs:AM):St:=vs.map some++List.replicate (N.length-vs.length) none
noncomputable def cm(CX:gX)(P:P7)(w:World)(K:W7)(mg:AD)(base:Heap)(N:AJ)(b:Str)(a:Scope)(f:Addr)(d:Value)(A:Around)(outer:List Env)(s:Shared)(H:Hp)(E:XK):Cx where
 prog:=P
 w:=w
 K:=K
 mg:=mg
 base:=base
 A:=A.deeper (envOfC b a (~~~s) f d)
 N:=N
 s₀:=s
 H₀:=H
 env:=envOfC b a (~~~s) f d
 outer:=outer
 stack:=envOfC b a (~~~s) f d::outer
 ex:=[]
 calm:=true
 fn:=λ_=>true
 pn:=[]
 xe:=λe i=>wpAny (mZ P w) (A.deeper (envOfC b a (~~~s) f d)) (leaving (envOfC b a (~~~s) f d) e) (λ_ c=>CX outer H s E e c) (λh c=>CX outer H s E h c) i
def Kz{b:Scope}(h:b.names.lookup x=some .cell):∃c,(cellsFrom n b.names []).lookup x=some c:=Option.isSome_iff_exists.mp (PySem.W.cellsFrom_some _ n [] (.inl h))
theorem Rk{K:W7}(S:dI N Y a)(M:A.handled=none)(l:Env0 P w K J m A j s H)(V:vs.length=Y.length)(r:Vals vs us)(x:InCallC s (~~~s) (bindL (envOfC g a (~~~s) f F).kindOf (Y.zip us) λ_=>none) (cellsFrom (~~~s+1) a.names []) (bindC (envOfC g a (~~~s) f F).kindOf (Y.zip us) λ_=>none) R):
 Inv (cm CX P w K J m N g a f F A j s H E) [] (start N vs) H R:=by
 have O:Y.length<=N.length:=by have:=congrArg List.length S.pre;grind
 obtain⟨C,Z,rfl,G⟩:=x.done;have n:∀b,b∉(cm CX P w K J m N g a f F A j s H E).ex:=λb z=>absurd (show b∈([]) from z) nofun
 refine⟨⟨l.mod,S.kind,rfl,rfl,qv _,λy z c C D=>?_,λy o=>?_,λy c _ h=>?_,λ_=>M,Around.frames_deeper l.frames,.inr ⟨rfl,rfl⟩,λb z=>absurd z (n b),l.bs,l.bsz,λb _ _=>n b,λb z=>absurd z (n b),l.funs,l.frf⟩,
  rfl,l.bare,Un.kept G,⟨_,x.toInCall.ns,λi y v C D T=>?_⟩,λy c h=>⟨_,x.cell y c h⟩,l.hok.fresh (qv _),λy c h=>?_,λp t=>absurd (show p∈([]) from t) nofun,l.hok.kept G,?_⟩
 .exact name_of_addr x.apart (PySem.mem_of_lookup C) (PySem.mem_of_lookup D)
 .rcases o with o|o
  .exact Kz o
  .exact absurd rfl (S.nofree _ (PySem.mem_of_lookup o))
 .exact Nat.le_of_lt (x.above y c (PySem.mem_of_lookup h))
 .have U:i<vs.length:=by
   unfold start at D;grind
  have Q:vs[i]?=some v:=by
   unfold start at D;grind
  obtain⟨u,I,L⟩:=r.get Q
  have t:Y[i]?=some y:=by
   rw[<-S.pre,List.getElem?_take_of_lt (by ext)];exact C
  have B:Y.Nodup:=by rw[<-S.pre];exact S.nd.sublist (List.take_sublist _ _)
  refine⟨u,L,?_⟩;rcases S.par y (List.mem_of_getElem? t)with k|k
  .exact .inl ⟨k,Kx B t I k⟩
  .obtain⟨c,e⟩:=Kz k
   refine .inr ⟨.inl k,c,e,?_⟩;have q:=x.cell y c e;rw[Ky B t I (by show a.names.lookup y≠_;grind)]at q;exact q
 .exact l.hok.fresh (Nat.le_of_lt (x.above y c (PySem.mem_of_lookup h)))
 .unfold start
  show _=N.length
  ext
theorem nj{K:W7}{T kV y R h I Y:Value}(X:K.lookup f=some ⟨Y,od,.func (W.fnOf name g i j c T kV y R Z h I),osl⟩)(G:W.codeIn K h g=true)(S:dI N ps c)(B:∀vs H Q E,sp vs H Q E->vs.length=ps.length)(m:∀(A:Around) (a:List Env) (s:Shared) (H:Hp) (vs:AM) (Q:VK) (E:XK),Room k (A.deeper (envOfC g c (~~~s) f h))->sp vs H Q E->
   ∃t,PSs (cm CX P w K L l N g c f h A a s H E) j t/\t {nx:=λ_ H'=>Q .non H',rt:=Q} (start N vs) H):
  FnOk P w K L l CX (k+1) f (W.fnOf name g i j c T kV y R Z h I) ps sp:=by
  refine⟨B,λA a s H M us vs Q E D C hb r z=>?_⟩;have O:=C.mod.kin.keeps λb o e=>(C.bs b o e).1
  refine codeAny_call_function D.depth (O _ _ X) rfl S.co S.gen rfl (W.codeRec_of O G) (hb _ _ _ _ (wpAny_newFunctionEnv_cells S.kind (λ⟨n,v⟩ U=>by
   rcases S.par n (List.of_mem_zip U).1 with q|q
   .exact .inl q
   .exact .inr ⟨q,PySem.W.cellsFrom_some _ _ _ (.inl q)⟩) λenv d s1 x=>?_))
  subst d;refine⟨(C.mod.nolimit.keeps λb o e=>(C.bs b o e).1).keeps x.toInCall.keep,codeAny_func ?_⟩;obtain⟨t,ht,hq⟩:=m A a s H vs Q E (D.deeper _) z;refine w4 (ht [] s1 _ H _ (Rk S D.hd C (B _ _ _ _ z) r x) hq) (λfl s' hs=>?_) λe s' hs=>hs
  have p:∀{σ':St}{H':Hp}{v:V}{u:_},Inv (cm CX P w K L l N g c f h A a s H E) [] σ' H' s'->_->Q v H'->CE a P w H s Q u s':=
   λ{σ' H' v u} J F q=>⟨v,H',J.os,J.bare,J.base,J.hok,F,q⟩
  cases fl with
  | ret u=>
    obtain⟨v,σ',H',J,F,q⟩:=hs;exact p J F q
  | next=>
    obtain⟨σ',H',J,q⟩:=hs;exact p (v:=.non) J rfl q
  | brk=>
    obtain⟨_,_,_,q⟩:=hs;grind
  | cont=>
    obtain⟨_,_,_,q⟩:=hs;grind
section
variable {x:Str}{p:Pos}{e:Expr}{t:TA}{id T:String}{r:AM->Hp->VK->Prop}
def tF(r:AM->Hp->VK->Prop)(t:TA):TE:=λb H Q=>t b H λc a=>r c a Q
theorem nk(i:dA X (.builtin id) r)(j:Gl X x)(v:X.mg x=none)(m:bootBuiltins x=some (.builtin id))(n:PA X (e::es) t)(l:x≠"__name__":=by decide)(b:cu x:=by decide)(g:aab X e es:=by rfl)(d:aac X pos es:=by rfl):PE X (.Call (.Name x p) (e::es) [] pos) (tF r t):=by
 intro y s w H Q I h;refine wpAny_Call_Name_kw (iV I j v m (PyProof.Rows.callWith_builtin1 (az (n pos _ s w H _ I h) λA k c=>?_) g d) l b);obtain⟨z,f,q,o,u⟩:=c;exact i _ k w f z A Q q o u
theorem iW(i:dA X (.type T) r)(j:Gl X x)(v:X.mg x=none)(m:bootBuiltins x=some (.type T))(n:PA X (e::es) t)(l:x≠"__name__":=by decide)(b:cu x:=by decide)(g:aab X e es:=by rfl)(d:aac X pos es:=by rfl):PE X (.Call (.Name x p) (e::es) [] pos) (tF r t):=by
 intro y s w H Q I h;refine wpAny_Call_Name_kw (iV I j v m (PyProof.Rows.callWith_type1 (az (n pos _ s w H _ I h) λA k c=>?_) g d) l b);obtain⟨z,f,q,o,u⟩:=c;exact i _ k w f z A Q q o u
end
section
variable {κ:Type}[DecidableEq κ]
noncomputable def bz(a:List (κ×V))(k:κ):Option V:=(a.find? λb=>decide (b.1=k)).map (·.2)
noncomputable def bj(a:List (κ×V))(k:κ)(v:V):List (κ×V):=
 if (a.any λb=>decide (b.1=k))=true then a.map (λb=>if b.1=k then (b.1,v)else b)else a++[(k,v)]
def gY{k:κ}(e:p.1=k):bz (p::r) k=some p.2:=by simp[bz,e]
def gZ{k:κ}(e:¬p.1=k):bz (p::r) k=bz r k:=by simp[bz,e]
theorem zA(k:κ):∀a:List (κ×V),(a.any λb=>decide (b.1=k))=(bz a k).isSome
 | []=>rfl
 | p::r=>by
   rw[List.any_cons];by_cases e:p.1=k
   .simp [gY e,wn e,Bool.true_or]
   .rw[gZ e,wq e];exact zA k r
theorem KA(k j:κ)(y:V):∀a:List (κ×V),bz a k=none->bz (a++[(k,y)]) j=if j=k then some y else bz a j
 | [],_=>by
   by_cases e:k=j
   .rw[if_pos e.symm];exact gY e
   .rw[if_neg (λz=>e z.symm)];exact gZ e
 | p::r,b=>by
   rw[List.cons_append]
   have c:¬_:=λz=>by rw[gY z]at b;cases b
   rw[gZ c]at b;by_cases e:p.1=j
   .rw[gY e,gY e,if_neg (λz=>c (e.trans z))]
   .rw[gZ e,gZ e,KA k j y r b]
theorem tG(a:List (κ×V))(k:κ)(v:V):(bj a k v).length<=a.length+1:=by
 unfold bj
 split<;>ext
def Rm{a:List (κ×V)}{k:κ}(v:V)(h:bz a k=none):bj a k v=a++[(k,v)]:=by
 unfold bj;rw[zA,h];exact if_neg (by decide)
def RelO.isSome_eq(r:RelO o u):o.isSome=u.isSome:=by
 cases o with
 | none=>cases u with
   | none=>rfl
   | some _=>exact(r).elim
 | some _=>cases u with
   | none=>exact(r).elim
   | some _=>rfl
def RelO.getD(r:RelO o u)(a:RelV d b):RelV (o.getD d) (u.getD b):=by
 cases o with
 | none=>cases u with
   | none=>exact a
   | some _=>exact(r).elim
 | some _=>cases u with
   | none=>exact(r).elim
   | some _=>exact r
theorem KV.val(r:KV a vs)(k:κ):RelO (bz a k) (valueAt vs k):=by
 induction r with
 | nil=>exact .intro
 | @cons p q j c h t i=>
   obtain⟨f,g⟩:=h;by_cases e:p.1=k
   .have d:=f.symm.trans e
    have b:valueAt (q::c) k=some q.2:=by simp[valueAt,d]
    rwa [gY e,b]
   .have d:¬_:=λz=>e (f.trans z)
    have b:valueAt (q::c) k=valueAt c k:=by simp[valueAt,d]
    rwa [gZ e,b]
theorem KV.any(r:KV b vs)(k:κ):(b.any λa=>decide (a.1=k))=vs.any λa=>decide (a.1=k):=by
 induction r with
 | nil=>rfl
 | cons h t c=>ext
theorem KV.repl(r:KV b vs)(k:κ)(d:RelV y u):
 KV (b.map λa=>if a.1=k then (a.1,y)else a) (vs.map λa=>if a.1=k then (a.1,u)else a):=by
 induction r with
 | nil=>exact .nil
 | @cons p q f e h t c=>
   refine .cons ?_ c;symm
def KV.put(r:KV a vs)(k:κ)(b:RelV y u):KV (bj a k y) (stored vs k u):=by
 unfold bj stored;rw[r.any k];by_cases e:(vs.any λc=>decide (c.1=k))=true
 .rw[if_pos e,if_pos e];exact r.repl k b
 .rw[if_neg e,if_neg e];exact .snoc r ⟨rfl,b⟩
def KV.length{vs:List (κ×Value)}(r:KV a vs):a.length=vs.length:=Paired.length r
end
def iX(r:RelV (kV k) u):(Yt P w).is k u=true:=by
 cases k with
 | inl i=>obtain⟨t,e⟩:=r;subst e;exact QM P w i t
 | inr x=>obtain⟨t,e⟩:=r;subst e;exact QN P w x t
theorem KC:∀{ks:List aX}{us:AC},Vals (ks.map kV) us->ItemsAre (Yt P w) ks us
 | [],_,r=>by cases r;exact .nil
 | k::ks,_,r=>by
   cases r with
   | cons h t=>exact .cons (iX h) (KC t)
abbrev KT(H:Hp):List (List aX×V)->List (List aX×Addr×Value)->Prop:=Paired λp q=>p.1=q.1/\H q.2.1=some (.tup (p.1.map kV))/\RelV p.2 q.2.2
theorem KT.val(r:KT H a xs)(k:List aX):RelO (bz a k) ((atKey xs k).map (·.2)):=by
 induction r with
 | nil=>exact .intro
 | @cons p q j c h t i=>
   obtain⟨f,_,g⟩:=h;by_cases e:p.1=k
   .have d:=f.symm.trans e
    have b:atKey (q::c) k=some q.2:=by simp[atKey,d]
    rwa [gY e,b]
   .have d:¬_:=λz=>e (f.trans z)
    have b:atKey (q::c) k=atKey c k:=by simp[atKey,d]
    rwa [gZ e,b]
theorem KT.repl(r:KT H b xs)(k:List aX)(d:RelV y u):
 KT H (b.map λa=>if a.1=k then (a.1,y)else a) (xs.map (putAt k u)):=by
 induction r with
 | nil=>exact .nil
 | @cons p q e f h t c=>
   refine .cons ?_ c;unfold putAt
   split<;>ext
def KT.put(r:KT H a xs)(k:List aX)(d:H b=some (.tup (k.map kV)))(c:RelV y u):
 KT H (bj a k y) (storedH xs k b u):=by
 have e:(a.any λf=>decide (f.1=k))=(atKey xs k).isSome:=by
  rw[zA,(r.val k).isSome_eq,Option.isSome_map]
 unfold bj storedH;rw[e];by_cases q:(atKey xs k).isSome=true
 .rw[if_pos q,if_pos q];exact r.repl k c
 .rw[if_neg q,if_neg q];exact .snoc r ⟨rfl,d,c⟩
def KT.keeps(r:KT H a xs)(c:∀b ys,H b=some (.tup ys)->H' b=some (.tup ys)):KT H' a xs:=
 Paired.mapP r λ_ _ z=>⟨z.1,c _ _ z.2.1,z.2.2⟩
section
variable {P:P7}{w:World}{H:Hp}{h:Heap}{a:Addr}
def nq(b:HOk P w H h)(e:Rd H a u):ObjOk P w H h a u:=e.ok b
def iY(c:HOk P w H h)(e:Rd H a (.dK b)):b.length<=sizeLine/\(a==sysModules)=false/\∃vs,KV b vs/\h.DictOf (Yt P w) a vs:=
 nq c e
def tH(c:HOk P w H h)(e:H a=some (.dK b)):b.length<=sizeLine/\(a==sysModules)=false/\∃vs,KV b vs/\h.DictOf (Yt P w) a vs:=iY c (.inl e)
def lJ(f:HOk P w H h)(e:H a=some (.tup (ks.map kV))):(tupleKind (Yt P w)).is h ks a:=by
 obtain⟨_,g,r,o,b,d,n,c⟩:=f a _ e;exact⟨o,g.toArray,n,b,d,c,by simpa using KC r⟩
theorem jN(d:HOk P w H h)(e:Rd H a (.dT b)):b.length<=sizeLine/\(a==sysModules)=false/\
 ∃xs,KT H b xs/\h.DictOfH (tupleKind (Yt P w)) a xs:=by
 obtain⟨z,y,xs,r,o,s,i,k,n,u,j,f⟩:=nq d e;refine⟨z,y,xs,r,o,s,i,k,n,u,j,λx c=>?_,f⟩
 have g:∀{l:_}{m:_},KT H l m->∀x∈m,(tupleKind (Yt P w)).is h x.1 x.2.1:=by
  intro l m q
  induction q with
  | nil=>grind
  | @cons p q C B A t v=>
    intro x c;rcases qu c with e|c
    .exact lJ d (by ext)
    grind
 grind
def zB(c:HOk P w H h)(e:H a=some (.dT b)):b.length<=sizeLine/\(a==sysModules)=false/\
 ∃xs,KT H b xs/\h.DictOfH (tupleKind (Yt P w)) a xs:=jN c (.inl e)
end
def DGet(H:Hp)(a:Addr)(y:V)(r:Option V):Prop:=
 (∃c k,Rd H a (.dK c)/\y=kV k/\r=bz c k)\/∃c k b,Rd H a (.dT c)/\y=.ref b/\H b=some (.tup (k.map kV))/\r=bz c k
def DPut(H:Hp)(a:Addr)(y v:V)(H':Hp):Prop:=
 (∃c k,H a=some (.dK c)/\y=kV k/\c.length<sizeLine/\H'=upd H a (.dK (bj c k v)))\/
 ∃c k b,H a=some (.dT c)/\y=.ref b/\H b=some (.tup (k.map kV))/\c.length<sizeLine/\H'=upd H a (.dT (bj c k v))
def DGet.k{k:aX}(e:H a=some (.dK b)):DGet H a (kV k) (bz b k):=.inl ⟨b,k,.inl e,rfl,rfl⟩
def DPut.k{k:aX}(e:H a=some (.dK b))(c:b.length<sizeLine):DPut H a (kV k) v (upd H a (.dK (bj b k v))):=.inl ⟨b,k,e,rfl,c,rfl⟩
section
variable {σ:St}{H:Hp}{s:Shared}{a:Addr}{y v:V}{u r:Value}{o:Option V}{A:Around}{E:AA}
def Inv.big(I:Inv X pins σ H s):sysModules< ~~~s:=Nat.lt_trans (by decide) ((I.mod.glob.keeps I.bk).lt)
def KD(w:A.units+1<cLine)(I:Inv X pins σ H s)(g:DGet H a y (some v))(t:RelV y u)(h:∀f s',Inv X pins σ H s'->RelV v f->Q f s'):
 wpAny (mZ X.prog X.w) A (getItem (.ref a) u) Q E s:=by
 rcases g with⟨n,k,e,j,l⟩|⟨n,k,b,e,j,C,l⟩
 .subst j
  obtain⟨z,x,o,d,i⟩:=iY I.hok e;obtain⟨f,m,c⟩:=RelO.some_of (by rw[l];exact d.val k);exact wpAny_getItem_of (iX t) i.mapOf m (h f _ (I.tok _) c)
 .subst j
  cases (t);obtain⟨z,x,r,d,i⟩:=jN I.hok e;obtain⟨f,m,c⟩:=RelO.some_of (by rw[l];exact d.val k);obtain⟨p,B,q⟩:=qc m;refine wpAny_getItem_heap (tupleKind_room_in1 w) (lJ I.hok C) i B ?_;rw[q];exact h f _ (I.tok _) c
def zC(n:A.units+1<cLine)(I:Inv X pins σ H s)(g:DGet H a y o)(m:RelV y u)(h:∀s',Inv X pins σ H s'->Q (.bool o.isSome) s'):
 wpAny (mZ X.prog X.w) A (compareOp .In u (.ref a)) Q E s:=by
 rcases g with⟨i,k,e,j,l⟩|⟨i,k,b,e,j,p,l⟩
 .subst j
  obtain⟨z,d,t,c,f⟩:=iY I.hok e;refine wpAny_in_of (iX m) d f.mapOf ?_;rw[<-(c.val k).isSome_eq,<-l];exact h _ (I.tok _)
 .subst j
  cases (m);obtain⟨z,d,r,c,f⟩:=jN I.hok e;refine wpAny_in_heap (tupleKind_room_in1 n) (lJ I.hok p) d f ?_;have q:=(c.val k).isSome_eq;rw[Option.isSome_map]at q;rw[<-q,<-l];exact h _ (I.tok _)
def zD(n:A.units+1<cLine)(I:Inv X pins σ H s)(g:DGet H a y o)(m:RelV y u)(h:∀s',Inv X pins σ H s'->Q (.bool (!o.isSome)) s'):
 wpAny (mZ X.prog X.w) A (compareOp .NotIn u (.ref a)) Q E s:=by
 rcases g with⟨d,k,e,j,l⟩|⟨d,k,b,e,j,p,l⟩
 .subst j
  obtain⟨z,i,r,c,f⟩:=iY I.hok e;refine wpAny_notIn_of (iX m) i f.mapOf ?_;rw[<-(c.val k).isSome_eq,<-l];exact h _ (I.tok _)
 .subst j
  cases (m);obtain⟨z,i,t,c,f⟩:=jN I.hok e;refine wpAny_notIn_heap (tupleKind_room_in1 n) (lJ I.hok p) i f ?_;have q:=(c.val k).isSome_eq;rw[Option.isSome_map]at q;rw[<-q,<-l];exact h _ (I.tok _)
def lK(I:Inv X pins σ H s)(e:mR (H a))(hs:Heap.SameBut a s.heap h')(g:∃q,h'.get? a=some q)(c:ObjOk X.prog X.w (upd H a d) h' a d):
 Inv X pins σ (upd H a d) {s with heap:=h',toks:=t' }:=
 I.write e (.inl rfl) (λb q f z=>(hs.2 b f).trans z) g c
def tI(z:b.length<=sizeLine)(d:(a==sysModules)=false)(c:KV b vs)(e:f.DictOf (Yt P w) a vs):
 ObjOk P w H' f a (.dK b):=⟨z,d,vs,c,e⟩
theorem Rn(M:A.units+1<cLine)(I:Inv X pins σ H s)(g:DPut H a y v H')(x:RelV y u)(B:RelV v r)(h:∀s',Inv X pins σ H' s'->Q () s'):
 wpAny (mZ X.prog X.w) A (setItem (.ref a) u r) Q E s:=by
 rcases g with⟨d,k,e,p,l,n⟩|⟨d,k,b,e,p,D,l,n⟩
 .subst p n
  obtain⟨z,t,F,f,w⟩:=tH I.hok e
  have T:F.length<=sizeLine:=by rw[<-f.length];exact z
  have m:(bj d k v).length<=sizeLine:=by have:=tG d k v;lia
  refine wpAny_setItem_pairs (iX x) w λO i o=>h _ ?_;have L:∃q,_:=let ⟨q,_,_,j,_⟩:=i;⟨q,j⟩;exact lK I (by rw[e];exact .intro) o L (tI m t (f.put k B) i)
 .subst p n
  cases (x);obtain⟨z,t,N,f,w⟩:=zB I.hok e
  have T:N.length<=sizeLine:=by rw[<-Paired.length f];exact z
  have m:(bj d k v).length<=sizeLine:=by have:=tG d k v;lia
  refine wpAny_setItem_heap (tupleKind_room_in1 M) (lJ I.hok D) w λO i o=>h _ ?_;obtain⟨q,R,J,j,S,G,K,_,U⟩:=i;refine lK I (by rw[e];exact .intro) o ⟨q,j⟩ ⟨m,t,_,(f.put k D B).keeps λc V C=>?_,q,R,J,j,S,G,K,U⟩;rw[Yh (x9 C e (λz=>nomatch z))];exact C
end
def g7(i:Expr):Prop:=∀a b,subscripted i false a b=operate [a,b] (getItem a b)
def KE{T id:String}(m:typeLookup (.type T) "__getitem__"=pure (some (.builtin id)))(hs:g7 a)(h:wpAny (mZ prog w) A (eval c env) (λo e=>wpAny (mZ prog w) A (eval a env) (λi b=>b.TypeIs o T/\wpAny (mZ prog w) A (getItem o i) Q E b) E e) E s):
 wpAny (mZ prog w) A (eval (.Subscript c a l) env) Q E s:=by
 refine Subscript_ (w4 h (λo e k=>w4 k (λi b d=>?_) λ_ _ x=>x) λ_ _ x=>x);obtain⟨n,d⟩:=d;refine wa (wa (wpAny_specialOf n m ?_))
 have g:wpAny (mZ prog w) A (subscripted a false o i) (λr f=>wpAny (mZ prog w) A (letTemporaryGo c o r>>=λ_=>pure r) Q E f) E b:=by
  rw[hs o i];exact wpAny_operating (w4 d (λr f j=>wa (wpAny_letTemporaryGo (wc j))) λ_ _ x=>x)
 first
  | exact wc (wa g)
  | exact wa _
  | exact wa g
def KF{σ:St}(I:Inv X pins σ H s)(g:DGet H a y o):s.TypeIs (.ref a) "dict":=by
 rcases g with⟨c,k,e,_,_⟩|⟨c,k,b,e,_,_,_⟩
 .obtain⟨_,_,f,_,d⟩:=iY I.hok e
  exact d.typeIs
 .obtain⟨_,_,h,_,d⟩:=jN I.hok e
  exact d.typeIs
def zE(f e:TE):TE:=λb H Q=>f b H λx d=>e b d λy c=>∃a v,x=.ref a/\DGet c a y (some v)/\Q v c
section
variable {o i e:Expr}{td ty:TE}
def zF(m:X.A.units+1<cLine)(q:PE X o td)(n:PE X i ty)(hs:g7 i):PE X (.Subscript o i pos) (zE td ty):=by
 intro j s e H Q I h;refine KE PySem.F.slot_dict_getitem.lookup hs (az (q _ s e H _ I h) λu p b=>?_);obtain⟨x,r,l,A,t⟩:=b;refine az (n _ p e r _ l t) λE G b=>?_;obtain⟨y,w,f,k,a,v,z,g,B⟩:=b;subst z;obtain rfl:=A;exact⟨KF f g,KD m f g k λD F C c=>⟨v,w,C,c,B⟩⟩
end
def KG(h:Heap)(a:sysModules<h.objs.size):ObjOk P w H (h.push {cls:=.type "dict",data:=.dict #[]}) h.objs.size (.dK []):=
 ⟨Qh _,beq_eq_false_iff_ne.mpr (.symm (qm a)),[],.nil,.new h⟩
def zG:TE:=λ_ H Q=>∀p,H p=none->Q (.ref p) (upd H p (.dK []))
def Rq:PE X (.Dict [] [] pos) zG:=λa s b H Q I h=>
 wpAny_Dict_empty ⟨.ref _,_,I.laid (λ_ _ q=>qe _ q) (qv _) (KG _ I.big),rfl,h _ (I.hok.fresh (qv _))⟩
def nt:List (TE×TE)->St->Hp->(List (V×V)->Hp->Prop)->Prop
 | [],_,H,Q=>Q [] H
 | (tk,a)::r,σ,H,Q=>tk σ H λx c=>a σ c λy b=>nt r σ b λps d=>Q ((x,y)::ps) d
abbrev VV:List (V×V)->List (Value×Value)->Prop:=Paired λp q=>RelV p.1 q.1/\RelV p.2 q.2
def lL(X:Cx)(c:Pos)(b:List (Option Expr))(a:AK)(d:List (TE×TE)):Prop:=
 ∀(e:List _) (s:Shared) (f:St) (H:Hp) (Q:List _->Hp->Prop),Inv X e f H s->nt d f H Q->
  aag X (evalPairs (pairTrees b a X.env c)) (λi j=>∃h g,Inv X e f g j/\VV h i/\Q h g) X.xe s
def KH:lL X pos [] [] []:=λa s b H Q I h=>pairTrees_nil_walk ⟨[],H,I,.nil,h⟩
def KI(j:PE X k tk)(B:PE X v i)(p:lL X pos ks vs c):
 lL X pos (some k::ks) (v::vs) ((tk,i)::c):=λd s a H Q I h=>
 pairTrees_cons_walk (az (j _ s a H _ I h) λu m ⟨x,n,g,A,q⟩=>az (B _ m a n _ g q) λE l ⟨y,C,w,e,z⟩=>
  az (p _ l a C _ w z) λD F ⟨o,r,f,b,t⟩=>⟨(x,y)::o,r,f,.cons ⟨A,e⟩ b,t⟩)
def g8(c a:List (aX×V)):List (aX×V):=a.foldl (λb d=>bj b d.1 d.2) c
theorem KV.merge:∀{b:List (aX×V)}{c:List (aX×Value)}{a:List (aX×V)}{vs:List (aX×Value)},KV b c->KV a vs->KV (g8 a b) (merged vs c):=by
 intro b c a vs r
 induction r generalizing a vs with
 | nil=>exact λq=>q
 | @cons p q g i h t d=>
   intro f
   have e:KV (bj a p.1 p.2) (stored vs q.1 q.2):=by
    have:=f.put p.1 h.2
    rwa [<-h.1]
   exact d e
theorem KJ:∀(b a:List (aX×V)),(g8 a b).length<=a.length+b.length
 | [],a=>by show a.length<=_;ac_nf
 | p::r,a=>by
   have d:=KJ r (bj a p.1 p.2);have c:=tG a p.1 p.2;show(g8 _ r).length<=_;rw[qt];ac_nf
theorem KM{P:P7}{w:World}:∀{d:List (aX×V)}{g:List (Value×Value)},VV (d.map λf=>(kV f.1,f.2)) g->∃e,Carries (Yt P w) g e/\KV d e
 | [],_,r=>by cases r;exact⟨[],.intro,.nil⟩
 | p::d,_,r=>by
   cases r with
   | @cons a b j l h t=>
     obtain⟨e,c,q⟩:=KM t;obtain⟨k,i⟩:=b;exact⟨(p.1,i)::e,⟨iX h.1,rfl,c⟩,.cons ⟨rfl,h.2⟩ q⟩
def zH(b:List (TE×TE)):TE:=λe H Q=>∀p,H p=none->nt b e (upd H p (.dK [])) λf c=>c p=some (.dK [])/\∃a:List _,f=a.map (λd=>(kV d.1,d.2))/\a.length<=15/\Q (.ref p) (upd c p (.dK (g8 [] a)))
theorem zI{X:Cx}{pos:Pos}{a:List (Option Expr)}{b:AK}{i:List (TE×TE)}(h:lL X pos a b i)(f:a.all (·.isSome)=true)(t:a.length=b.length)(h0:a≠[])(l:a.length<=15):PE X (.Dict a b pos) (zH i):=by
 intro m s x H Q I q;refine wpAny_Dict_walk (knd:=Yt _ X.w) f t h0 l (az (h _ _ x _ _ (I.laid (t':=s.toks) (λ_ _ q=>qe _ q) (qv _) (KG _ I.big)) (q _ (I.hok.fresh (qv _)))) λK J k=>?_);obtain⟨L,G,n,j,e,g,u,F,D⟩:=k;subst u;obtain⟨w,c,E⟩:=KM j;obtain⟨z,A,B,o,r⟩:=tH n.hok e;cases o;refine⟨w,c,r,λM d y=>⟨.ref _,_,?_,rfl,D⟩⟩
 have p:(g8 [] g).length<=sizeLine:=by
  have C:=KJ g [];rw[List.length_nil]at C;rw[jh];lia
 exact lK n (by rw[e];exact .intro) y (let ⟨q,_,_,v,_⟩:=d;⟨q,v⟩) (tI p A (E.merge .nil) d)
structure M1(X:Cx)(o:Expr)(m:Str)(apos:Pos)(e:Expr)(cpos:Pos):Prop where
 base:attributeBase o m X.env (eval o X.env)=eval o X.env
 few:((backTo cpos (starEach [e] X.env)).all (λx=>!x.1)&&(backToKw cpos (keywordEach [] X.env)).all (λx=>x.1.isSome)
  &&decide (([e]:AK).length+([]:List Keyword).length+(if ([]:List Keyword).isEmpty then 0 else 1)<30))=true
 line:(apos.endLine==cpos.line)=true
 trees:backTo cpos (starEach [e] X.env)=[(false,eval e X.env)]
structure M2(X:Cx)(o:Expr)(m:Str)(apos:Pos)(e f:Expr)(cpos:Pos):Prop where
 base:attributeBase o m X.env (eval o X.env)=eval o X.env
 few:((backTo cpos (starEach [e,f] X.env)).all (λx=>!x.1)&&(backToKw cpos (keywordEach [] X.env)).all (λx=>x.1.isSome)
  &&decide (([e,f]:AK).length+([]:List Keyword).length+(if ([]:List Keyword).isEmpty then 0 else 1)<30))=true
 line:(apos.endLine==cpos.line)=true
 trees:backTo cpos (starEach [e,f] X.env)=[(false,eval e X.env),(false,eval f X.env)]
def KN(H:Hp)(a:Addr):Prop:=(∃b,Rd H a (.dK b))\/∃b,Rd H a (.dT b)
def zJ{σ:St}(I:Inv X pins σ H s)(d:KN H a):
 s.TypeIs (.ref a) "dict"/\(∀b,Value.ref a=.ref b->∃c,s.heap.get? b=some c/\c.dict=none)/\(a==sysModules)=false:=by
 rcases d with⟨i,e⟩|⟨i,e⟩
 .obtain⟨_,g,k,_,f⟩:=iY I.hok e
  refine⟨f.typeIs,λb q=>?_,g⟩;cases q;obtain⟨c,_,_,h,j,_⟩:=f;exact⟨c,h,j.2.1⟩
 .obtain⟨_,g,l,_,f⟩:=jN I.hok e
  refine⟨f.typeIs,λb q=>?_,g⟩;cases q;obtain⟨c,_,_,h,j,_⟩:=f;exact⟨c,h,j.2.1⟩
section
variable {σ:St}{H:Hp}{s:Shared}{a:Addr}{y d:V}{u r:Value}{o:Option V}{A:Around}{E:AA}
def zL(w:A.units+1<cLine)(I:Inv X pins σ H s)(g:DGet H a y o)(q:RelV y u)(p:RelV d r)(h:∀t s',Inv X pins σ H s'->RelV (o.getD d) t->Q t s'):
 wpAny (mZ X.prog X.w) A (call (.builtin "dict.get") [.ref a,u,r]) Q E s:=by
 rcases g with⟨n,k,e,m,l⟩|⟨n,k,b,e,m,v,l⟩
 .subst m
  obtain⟨z,j,B,f,i⟩:=iY I.hok e;refine call_meetsIn PySem.F.slot_dict_get i.typeIs PySem.F.entry_dict_get (PySem.F.args_dict_get_3 _ _ _) (meets_dict_get_default _ a (iX q) j r) ⟨_,i.mapOf,h _ _ (I.tok _) ?_⟩;rw[l];exact(f.val k).getD p
 .subst m
  cases (q);obtain⟨z,j,x,f,i⟩:=jN I.hok e;refine call_meetsIn PySem.F.slot_dict_get i.typeIs PySem.F.entry_dict_get (PySem.F.args_dict_get_3 _ _ _) (meetsH_dict_get_default _ a b j r) ⟨tupleKind_room_in1 w,k,x,lJ I.hok v,i,h _ _ (I.tok _) ?_⟩;rw[l];exact(f.val k).getD p
end
def zM(f e d:TE):TE:=λh H Q=>f h H λx c=>∃a,x=.ref a/\KN c a/\e h c λy g=>d h g λz b=>∃o,DGet b a y o/\Q (o.getD z) b
section
variable {o e f:Expr}{td ty tx:TE}
def Rr(w:X.A.units+1<cLine)(A:PE X o td)(r:PE X e ty)(G:PE X f tx)(m:M2 X o "get" apos e f cpos):PE X (.Call (.Attribute o "get" apos) [e,f] [] cpos) (zM td ty tx):=by
 intro Z s Y H Q I h;refine wpAny_Call_method m.base m.few m.line PySem.F.plainAttrs_dict PySem.F.slot_dict_get PySem.F.type_dict_get (az (A _ s Y H _ I h) λu v c=>?_);obtain⟨x,B,k,L,a,q,d,C⟩:=c;subst q;obtain rfl:=L;obtain⟨K,D,_⟩:=zJ k d;refine⟨K,D,?_⟩;rw[m.trees];refine Calls.callWith_builtin rfl (Calls.evalArgs_plain (Calls.spliced_cons (az (r _ v Y B _ k C) λP t c=>?_)));obtain⟨y,J,n,l,N⟩:=c;refine Calls.spliced_cons (az (G _ t Y J _ n N) λV S c=>?_);obtain⟨z,E,p,O,U,g,F⟩:=c;exact Calls.spliced_nil (zL w p g l O λR T M j=>⟨_,E,M,j,F⟩)
end
end L2
namespace HT
open PySem PyProof.Rows
section
variable {prog:P7}{w:World}{A:Around}{E:AA}{s:Shared}
theorem cat_tup(r:IsTup s.heap t vs.toArray)(u:IsTup s.heap b d.toArray)(y:vs≠[])(v:d=[]->Q (.ref t) s)(x:d≠[]->Q (.ref (~~~s)) {s with heap:=s.heap.push {cls:=.type "tuple",data:=.seq (vs++d).toArray} })(hsz:vs.length+d.length<=sizeLine):wpAny (mZ prog w) A (binaryOp .Add (.ref t) (.ref b)) Q E s:=by
 obtain⟨⟨cls,m,data,l⟩,i,o,n,k⟩:=id r;obtain⟨⟨p,g,data2,h⟩,c,f,q,e⟩:=id u;simp at o k f e;subst o k f e;by_cases j:d=[]
 .exact concat_meets ⟨_,i,rfl⟩ ⟨_,c,rfl⟩ noFill_tuple_add seq_tuple_add PySem.F.slot_tuple_add PySem.F.entry_tuple_add (PySem.F.args_tuple_add_2 _ _)
   (tuple_addW1 t b _ _ n q m g l h (by grind) (by simp[j])) ⟨i,c,v j⟩
 .refine concat_meets ⟨_,i,rfl⟩ ⟨_,c,rfl⟩ noFill_tuple_add seq_tuple_add PySem.F.slot_tuple_add PySem.F.entry_tuple_add (PySem.F.args_tuple_add_2 _ _)
   (tuple_addW2 t b _ _ n q m g l h (by grind) (by grind) (by omega)) ⟨i,c,?_⟩
  ext
noncomputable def sIx(n d:Nat):Option Int->Nat
 | none=>d
 | some v=>if v<0 then (v+n).toNat else min v.toNat n
def sIx_none(n d:Nat):sIx n d none=d:=rfl
theorem sIx_nat(n d k:Nat):sIx n d (some (k:Int))=min k n:=by
 show(if k<0 then (k+(n:Int)).toNat else _)=_;constructor<;>ac_nf
theorem zN(n d:Nat)(hd:d<=n)(o:Option Int):sIx n d o<=n:=by
 cases o with
 | none=>exact hd
 | some v=>
   show(if v<0 then (v+(n:Int)).toNat else min v.toNat n)<=n;by_cases hv:v<0
   .rw[if_pos hv];ac_nf
   .rw[if_neg hv];exact Nat.min_le_right _ _
theorem KO(v:Int)(n d:Nat):(if v<0 then max (v+(n:Int)) 0 else min v (n:Int))=((sIx n d (some v):Nat):Int):=by
 show(if v<0 then _ else min v _)=(((if v<0 then (v+n).toNat else min v.toNat n)));grind
def Rt(lo a:Option Int)(n:Nat):Builtin.Slice.sliceAdjust lo a 1 (n:Int)=(((sIx n 0 lo:Nat):Int),((sIx n n a:Nat):Int)):=by
 refine Prod.ext ?_ ?_
 .cases lo with
  | none=>rfl
  | some v=>exact KO v n 0
 .cases a with
  | none=>rfl
  | some v=>exact KO v n n
theorem Ru(i j:Nat):Builtin.Slice.slicePlaces (i:Int) (j:Int) 1=j-i:=by
 unfold Builtin.Slice.slicePlaces
 ext<;>lia
def KP(p:IsPart v o)(h:Q o s):wpAny (mZ prog w) A (Builtin.Slice.slicePartIndex v) Q E s:=by
 cases p with
 | none=>exact slicePart_none h
 | int i t=>exact slicePart_int h
def sliceApplied_gen{lo c:Option Int}{Q:Int×Int×Nat->Shared->Prop}(hs:s.heap.IsSliceOf g e d .none)(f:IsPart e lo)(j:IsPart d c)(h:Q (((sIx n 0 lo:Nat):Int),1,sIx n n c-sIx n 0 lo) s):wpAny (mZ prog w) A (Builtin.Slice.sliceApplied (.ref g) (pure (n:Int))) Q E s:=by
 obtain⟨os,a,i,b⟩:=id hs;refine wa (wa (wpAny_field a b (x:=e) rfl (wa (wpAny_field a b (x:=d) rfl (wa (wpAny_field a b (x:=.none) rfl (wc (wa (slicePart_none (wa (KP f (wa (KP j (wa (wc ?_)))))))))))))));show wpAny _ _ (match Builtin.Slice.sliceAdjust lo c 1 _ with|(lo,c)=>pure (lo,_,Builtin.Slice.slicePlaces lo c 1)) _ _ s;rw[Rt lo c n];show wpAny _ _ (pure _) _ _ s;rw[Ru];exact wc h
theorem Rv(xs:Array Value)(i k:Nat):((List.range k).filterMap fun(m:Nat)=>xs[((i:Int)+(m:Int)*1).toNat]?).toArray=((xs.toList.drop i).take k).toArray:=by
 have e:(fun(m:Nat)=>xs[((i:Int)+(m:Int)*1).toNat]?)=λm=>xs[i+m]?:=by
  funext m
  have:((i:Int)+(m:Int)*1).toNat=i+m:=by lia
  rw[this]
 rw[e];have:=pick_run xs i k;rw[List.filterMap_map]at this;have e2:((λx=>xs[x]?) ∘ λx=>i+x)=λm=>xs[i+m]?:=rfl;rw[e2]at this;rw[this]
theorem getItem_tuple_cut{lo d:Option Int}(e:IsTup s.heap t a)(hs:s.heap.IsSliceOf k o n .none)(m:IsPart o lo)(l:IsPart n d)(q:¬(sIx a.size 0 lo=0/\sIx a.size a.size d=a.size))(h:Q (.ref (~~~s)) {s with heap:=s.heap.push {cls:=.type "tuple",data:=.seq ((a.toList.drop (sIx a.size 0 lo)).take (sIx a.size a.size d-sIx a.size 0 lo)).toArray} })(hsz:a.size<=sizeLine):wpAny (mZ prog w) A (getItem (.ref t) (.ref k)) Q E s:=by
 have c:=by
  show((a.toList.drop (sIx a.size 0 lo)).take (sIx a.size a.size d-sIx a.size 0 lo)).toArray.size<=sizeLine
  (simp at*;lia)
 obtain⟨os,f,i,p⟩:=id hs
 have g:s.TypeIs (.ref k) _:=⟨os,f,i⟩
 unfold getItem
 try with_reducible refine we ?_
 refine wa (wpAny_sequenceKey e.typeIs (by decide) ?_)
 refine wa (wpAny_callSpecial?_slot e.typeIs PyProof.Rows.slot_tuple_getitem
  (wg PyProof.Rows.slot_tuple_getitem e.typeIs entry_tuple_getitem ?_ (args_tuple_getitem _ _)))
 show wpAny _ _ (Builtin.Tuple.tupleItemsOf _>>=_) _ _ s;refine wa (tupleItemsOf_ e ?_);refine wa (wpAny_typeOf g ?_);refine wa (sliceApplied_gen hs m l ?_)
 have j:¬((((sIx a.size 0 lo):Int)==0&&(1:Int)==1&&(sIx a.size a.size d-sIx a.size 0 lo)==a.size)=true):=by
  ext
 show wpAny _ _ (if _ then _ else _) _ _ s;rw[if_neg j,Rv]
 first
  | exact wa (wh (wc ⟨_,rfl,wc h⟩) c)
  | exact wa _
  | exact wa _
  | exact wa _
end
end HT
namespace L2
variable {X:Cx}{pins:AB}{pos pos' tpos apos cpos:Pos}{ys:AM}{prog:P7}{K:W7}{dx:Addr}{value:Expr}{tv:TE}{es:AK}
open PySem PySem.Spec PyProof.Rows
abbrev TO:=St->Hp->(Option Int->Hp->Prop)->Prop
def PO(X:Cx)(e:Option Expr)(t:TO):Prop:=
 ∀(a:List _) (s:Shared) (b:St) (H:Hp) (Q:Option Int->Hp->Prop),Inv X a b H s->t b H Q->
  aag X (evalPart e X.env) (λu d=>∃o c,Inv X a b c d/\IsPart u o/\Q o c) X.xe s
def KQ:TO:=λ_ H Q=>Q none H
def nu(t:TE):TO:=λb H Q=>t b H λx a=>∃i,x=.int i/\Q (some i) a
theorem tJ:∀{us:AC},Vals (ns.map V.int) us->IntsAre us ns:=by
 induction ns with
 | nil=>intro us r;cases r;exact .nil
 | cons n ns b=>
   intro us r
   cases r with
   | cons a c=>
     obtain⟨t,e⟩:=a;subst e;exact .cons n t (b c)
section
variable {e:Expr}{te:TE}{lo hi:Option Expr}{tl th:TO}{p2:Pos}
def zO:PO X none KQ:=by
 intro a s b H Q I h;exact wc ⟨none,H,I,.none,h⟩
def zP(h:PE X e te):PO X (some e) (nu te):=by
 intro k s l H Q I f;refine az (h _ s l H _ I f) λu j a=>?_;obtain⟨x,g,c,b,d⟩:=a;obtain⟨i,rfl,q⟩:=d;obtain⟨t,rfl⟩:=b;exact⟨some i,g,c,.int i t,q⟩
def SlR(X:Cx)(r:V->Option Int->Option Int->Hp->VK->Prop):Prop:=
 ∀(d:List _) (s:Shared) (f:St) (H:Hp) (x:V) (v b a:Value) (lo e:Option Int) (c:Addr) (Q:VK),Inv X d f H s->RelV x v->s.heap.IsSliceOf c b a .none->IsPart b lo->IsPart a e->r x lo e H Q->
  ∃T id,typeLookup (.type T) "__getitem__"=pure (some (.builtin id))/\s.TypeIs v T/\aag X (getItem v (.ref c)) (EP X d f Q) X.xe s
def SlR.or(h:SlR X r)(h':SlR X k):SlR X (λx lo hi H Q=>r x lo hi H Q\/k x lo hi H Q):=by
 intro f s g H x v d b lo hi c Q I i e j a q;rcases q with q|q
 .exact h _ s g H x v d b lo hi c Q I i e j a q
 .exact h' _ s g H x v d b lo hi c Q I i e j a q
def Rw(r:V->Option Int->Option Int->Hp->VK->Prop)(te:TE)(tl th:TO):TE:=λd H Q=>te d H λx c=>tl d c λl b=>th d b λu a=>r x l u a Q
def KU(z:SlR X r)(E:PE X e te)(p:PO X lo tl)(F:PO X hi th):PE X (.Subscript e (.Slice lo hi none p2) pos) (Rw r te tl th):=by
 intro g s c H Q I h;refine Subscript_ (az (E _ s c H _ I h) λv D a=>?_);obtain⟨x,y,m,K,A⟩:=a;refine wpAny_Slice (az (p _ D c y _ m A) λf o a=>?_);obtain⟨l,M,B,n,L⟩:=a;refine az (F _ o c M _ B L) λi d a=>?_;obtain⟨u,j,N,k,C⟩:=a;refine wc ?_;have t:Inv X _ c j {d with heap:=d.heap.push {cls:=.type "slice",data:=.fields #[f,i,.none]} }:=N.kept λb O q=>qe _ q;obtain⟨T,id,w,G,J⟩:=z _ _ c j x v f i l u d.heap.objs.size Q t K (.new ..) n k C;exact tail_any G w J (by with_unfolding_all rfl)
def el(xs:AM)(lo hi:Option Int):AM:=(xs.drop (HT.sIx xs.length 0 lo)).take (HT.sIx xs.length xs.length hi-HT.sIx xs.length 0 lo)
theorem KW(xs:AM)(lo hi:Option Int):(el xs lo hi).length<=xs.length:=by
 unfold el
 ext<;>ac_nf
def zQ(K:W7):V->Option Int->Option Int->Hp->VK->Prop:=λx lo d H Q=>∃a b,x=.ref a/\SqT K H a b/\
 ¬(HT.sIx b.length 0 lo=0/\HT.sIx b.length b.length d=b.length)/\∀p,H p=none->Q (.ref p) (upd H p (.tup (el b lo d)))
def zR:SlR X (zQ X.K):=by
 intro g s w H x v y A lo n z Q I m j k i h;obtain⟨a,l,rfl,p,t,q⟩:=h;cases m;obtain⟨e,r,f,o⟩:=I.tuple p;have c:e.toArray.size=_:=r.length.symm;refine⟨"tuple",_,PyProof.Rows.slot_tuple_getitem.lookup,f.typeIs,HT.getItem_tuple_cut f j k i (by rwa [c]) ?_ (by rwa [c])⟩;rw[c];refine⟨.ref _,_,I.laid (λb u q=>qe _ q) (qv _) ?_,rfl,q _ (I.hok.fresh (qv _))⟩;exact⟨Qg (KW l lo n) o,_,(r.drop _).take _,.new _ _⟩
def zS(K:W7):R2:=λx y H Q=>∃a b d c,x=.ref a/\y=.ref b/\SqT K H a d/\SqT K H b c/\d≠[]/\d.length+c.length<=sizeLine/\
 (c=[]->Q (.ref a) H)/\(c≠[]->∀p,H p=none->Q (.ref p) (upd H p (.tup (d++c))))
def Vals.nil_iff(r:Vals xs us):us=[]↔xs=[]:=by
 cases r with
 | nil=>simp
 | cons _ _=>simp
def zT:br X (binaryOp .Add) (zS X.K):=by
 intro f s A H x y v u Q I n l h;obtain⟨a,b,C,B,rfl,rfl,m,o,i,t,j,p⟩:=h;cases n;cases l;obtain⟨g,d,r,_⟩:=I.tuple m;obtain⟨e,c,k,_⟩:=I.tuple o;refine HT.cat_tup r k (λz=>i (d.nil_iff.mp z)) (λz=>⟨.ref a,H,I,rfl,j (c.nil_iff.mp z)⟩) (λz=>⟨.ref _,_,I.laid (λb E q=>qe _ q) (qv _) ?_,rfl,p (λw=>z (c.nil_iff.mpr w)) _ (I.hok.fresh (qv _))⟩) (by rwa [<-d.length,<-c.length]);exact⟨by rwa [qz],_,d.append c,.new _ _⟩
end
noncomputable def iZ(n:Nat)(i:Int):AL:=if 0<=i then (if i<n then some i.toNat else none)else if -n<=i then some (i+n).toNat else none
def bD{a:Type}(xs:List a)(i:Int):Option a:=(iZ xs.length i).bind λj=>xs[j]?
theorem zU(h:iZ n i=some j):seqIndex? i n=some j/\j<n/\-(n:Int)<=i/\i<n:=by
 unfold iZ at h;by_cases b:0<=i
 .rw[if_pos b]at h
  by_cases a:i<n
  .rw[if_pos a]at h
   have e:=w5 h;exact⟨by rw[seqIndex_of b a,e],by lia,by lia,a⟩
  ext
 .rw[if_neg b]at h
  by_cases a:-n<=i
  .rw[if_pos a]at h
   have e:=w5 h;exact⟨by rw[seqIndex_neg (by lia) a,e],by lia,a,by lia⟩
  ext
theorem zV(h:bD xs i=some v):∃j,seqIndex? i xs.length=some j/\xs[j]?=some v/\j<xs.length/\-(xs.length:Int)<=i/\i<xs.length:=by
 unfold bD at h
 cases e:iZ xs.length i with
 | none=>ext
 | some j=>
   obtain⟨a,d,c,b⟩:=zU e
   ext
theorem lM{j:Nat}(h:xs[j]?=some v):bD xs (j:Int)=some v:=by
 have a:=(qo h).1
 have e:iZ xs.length j=some j:=by
  unfold iZ;rw[if_pos (by lia),if_pos (by ext)];simp
 unfold bD;rwa [e]
def jO(b:Expr):Prop:=∀o i,subscripted b false o i=operate [o,i] (getItem o i)
def IxR(X:Cx)(r:R2):Prop:=
 ∀(b a:Expr) (c:List _) (s:Shared) (d:St) (H:Hp) (x y:V) (v u:Value) (Q:VK),Inv X c d H s->RelV x v->RelV y u->r x y H Q->
  subscripted a false v u=operate [v,u] (getItem v u)->aag X (subscriptTail b a v u) (EP X c d Q) X.xe s
def Rx(X:Cx)(id:String)(r:V->AM->Hp->VK->Prop):Prop:=
 ∀(a:List _) (s:Shared) (b:St) (H:Hp) (x:V) (c:AM) (v:Value) (d:List _) (Q:VK),Inv X a b H s->RelV x v->Vals c d->r x c H Q->
  aag X (call (.builtin id) (v::d)) (EP X a b Q) X.xe s
section
variable {a b:Expr}{ta tb:TE}
def IxR.or(h:IxR X r)(j:IxR X g):IxR X (λx y H Q=>r x y H Q\/g x y H Q):=by
 intro c d i s a H x y v u Q I f e q b;rcases q with q|q
 .exact h c d _ s a H x y v u Q I f e q b
 .exact j c d _ s a H x y v u Q I f e q b
def zW(f:IxR X r)(c:PE X a ta)(l:PE X b tb)(hs:jO b):PE X (.Subscript a b pos) (jJ r ta tb):=by
 intro k s m H Q I h;exact Subscript_ (jK c l I h λv u g x y e i d j q=>f a b _ g m e x y v u Q i d j q (hs _ _))
def nv(K:W7):R2:=λx y H Q=>∃p b i v,x=.ref p/\y=.int i/\SqL K H p b/\bD b i=some v/\Q v H
def ny(K:W7):R2:=λx y H Q=>∃p b i v,x=.ref p/\y=.int i/\SqT K H p b/\bD b i=some v/\Q v H
def nz:R2:=λx y H Q=>∃z i c,x=.str z/\y=.int i/\z.length<=sizeLine/\bD z.cps.toList i=some c/\Q (.str ⟨#[c]⟩) H
theorem ix_list:IxR X (nv X.K):=by
 intro f c o s E H x y v u Q I D A h n;obtain⟨p,M,i,z,rfl,rfl,G,F,q⟩:=h;cases D;obtain⟨t,rfl⟩:=A;obtain⟨k,r,g,L⟩:=I.list G;obtain⟨j,b,J,N,C,K⟩:=zV F;obtain⟨w,l,d⟩:=r.get J;have B:=r.length;have O:=m9
 have a:EP X _ E Q w s:=⟨z,H,I,d,q⟩
 by_cases m:0<=i
 .have e:=by
   rw[seqIndex_of m K]at b;exact w5 b
  exact item_listR g.isList m (by lia) (by rw[e];simpa using l) a n
 .have e:(i+k.toArray.size).toNat=j:=by
   rw[seqIndex_neg (by lia) C]at b;rw[qk,<-B];exact w5 b
  exact subscriptTail_builtinR g.isList.typeIs slot_list_getitem.lookup
   (wpAny_getItem_list_neg g.isList (by lia) (by rw[qk]<;>lia) (by lia) (by rw[e];simpa using l) ⟨rfl,a⟩) n
theorem ix_tup:IxR X (ny X.K):=by
 intro d c a s L H x y v u Q I k f h J;obtain⟨p,K,i,z,rfl,rfl,l,g,q⟩:=h;cases k;obtain⟨t,rfl⟩:=f;obtain⟨G,r,b,C⟩:=I.tuple l;obtain⟨j,D,m,n,B,F⟩:=zV g;obtain⟨w,A,e⟩:=r.get m;have E:=r.length;have o:=m9
 exact subscriptTail_builtinR b.typeIs slot_tuple_getitem.lookup
  (getItem_tuple (j:=j) b ∅ ∅ ⋯ ⋯ ⟨rfl,⟨z,H,I,e,q⟩⟩) J
theorem zX:IxR X nz:=by
 intro e d a s C H x y v u Q I g f h b;obtain⟨z,i,c,rfl,rfl,n,k,q⟩:=h;obtain⟨t,rfl⟩:=g;obtain⟨B,rfl⟩:=f;obtain⟨j,r,p,l,o,A⟩:=zV k
 have w:z.cps.toList.length=z.length:=by simp[Str.length]
 have m:=m9
 exact tail_any (typeIs_str s z t) slot_str_getitem.lookup (getItem_str (by
  ext<;>lia) (by grind) ⟨.str _,H,I.tok _,⟨_,rfl⟩,q⟩) b
def KY(K:W7):R2:=λx y H Q=>nv K x y H Q\/ny K x y H Q\/nz x y H Q
def zY:IxR X (KY X.K):=ix_list.or (ix_tup.or zX)
theorem Ry(lo d:Option Int)(n:Nat):(sliceBounds lo d none n).1=((HT.sIx n 0 lo:Nat):Int)/\(sliceBounds lo d none n).2.1=((HT.sIx n n d:Nat):Int)/\(sliceBounds lo d none n).2.2=1:=by
 refine⟨?_,?_,rfl⟩
 .cases lo with
  | none=>constructor<;>ac_nf
  | some i=>
    simp only[sliceBounds,HT.sIx];symm
 .cases d with
  | none=>constructor<;>ac_nf
  | some i=>
    simp only[sliceBounds,HT.sIx];symm
def Rz(its:AC)(lo c:Option Int):slicePick its.toArray lo c none=((its.drop (HT.sIx its.length 0 lo)).take (HT.sIx its.length its.length c-HT.sIx its.length 0 lo)).toArray:=by
 obtain⟨f,g,e⟩:=Ry lo c _;unfold slicePick;rw[f,g,e];simp only[sliceRange_one,pick_run]<;>rfl
def zZ(K:W7):V->Option Int->Option Int->Hp->VK->Prop:=λx lo d H Q=>∃a c,x=.ref a/\SqL K H a c/\∀p,H p=none->Q (.ref p) (upd H p (.lst (el c lo d)))
theorem KZ:SlR X (zZ X.K):=by
 intro f s y H x v n o lo e m Q I i w t g h;obtain⟨a,p,rfl,j,q⟩:=h;cases i;obtain⟨u,r,d,k⟩:=I.list j;have c:=r.length;refine⟨"list",_,slot_list_getitem.lookup,d.isList.typeIs,wpAny_getItem_list_slice d.isList w t g .none nofun ?_ (by ext)⟩;rw[Rz,<-c];refine⟨.ref _,_,I.laid (λb l q=>qe _ q) (qv _) ?_,rfl,q _ (I.hok.fresh (qv _))⟩;exact⟨Qg (KW p lo e) k,_,0,(r.drop _).take _,qp _ rfl⟩
theorem tL:dA X (.builtin "len") (λxs H Q=>∃p ys,xs=[.ref p]/\(SqL X.K H p ys\/SqT X.K H p ys)/\Q (.int ys.length) H):=by
 intro k s m H xs l Q I r h;obtain⟨p,ys,rfl,c,q⟩:=h;obtain⟨u,rfl,g⟩:=ef r;cases g;have j:=m9;rcases c with c|c
 .obtain⟨f,e,b,i⟩:=I.list c
  have d:=e.length;exact Calls.call_len_list b.isList (by ext<;>lia) ⟨.int _,H,I.tok _,⟨s.toks+1,by grind⟩,q⟩
 .obtain⟨f,e,b,i⟩:=I.tuple c
  have d:=e.length;exact len_tuple b (by ext<;>lia) ⟨.int _,H,I.tok _,⟨s.toks+1,by grind⟩,q⟩
theorem RA:dA X (.type "list") (λxs H Q=>∃p ys,xs=[.ref p]/\(SqL X.K H p ys\/SqT X.K H p ys)/\∀l,H l=none->Q (.ref l) (upd H l (.lst ys))):=by
 intro y s z H xs A Q I r h;obtain⟨p,ys,rfl,f,q⟩:=h;obtain⟨u,rfl,x⟩:=ef r;cases x
 have j:∀_,_->_->∀(b:Heap) _,_->
  _->EP X _ z Q _ {s with heap:=b}:=λa c g b d i e=>
  ⟨.ref _,_,I.laid i (qv _) (show ObjOk _ X.w _ b _ (.lst ys) from⟨g,a,d,c,e⟩),rfl,q _ (I.hok.fresh (qv _))⟩
 rcases f with f|f
 .obtain⟨a,c,w,g⟩:=I.list f
  have k:=c.length;obtain⟨o,m,v,n,t⟩:=w.isList;exact call_list_seq p (.inl rfl) m v t (λb d i e=>j a c g b d i e) (by grind)
 .obtain⟨a,c,w,g⟩:=I.tuple f
  have k:=c.length;obtain⟨o,m,v,n,t⟩:=w;exact call_list_seq p (.inr rfl) m v t (λb d i e=>j a c g b d i e) (by grind)
theorem nA:dA X (.type "tuple") (λxs H Q=>∃p ys,xs=[.ref p]/\((SqL X.K H p ys/\∀l,H l=none->Q (.ref l) (upd H l (.tup ys)))\/(SqT X.K H p ys/\Q (.ref p) H))):=by
 intro n s w H xs v Q I r h;obtain⟨p,ys,rfl,h⟩:=h;obtain⟨u,rfl,j⟩:=ef r;cases j;rcases h with⟨c,q⟩|⟨c,q⟩
 .obtain⟨a,d,m,f⟩:=I.list c
  have g:=d.length;refine call_tuple_list m.isList (λt k=>?_) ⋯;have i:=I.kept (t':=s.toks) k;exact⟨.ref _,_,i.laid (λb o e=>qe _ e) (qv _) (show ObjOk _ X.w _ _ _ (.tup ys) from⟨f,a,d,.new _ _⟩),rfl,q _ (i.hok.fresh (qv _))⟩
 .obtain⟨a,d,m,f⟩:=I.tuple c
  exact call_tuple_same m ⟨.ref p,H,I,rfl,q⟩
def K0(K:W7)(T:String)(x:V)(H:Hp):Prop:=match x with
 | .str _=>T="str"
 | .int _=>T="int"
 | .ref p=>(T="list"/\∃b,SqL K H p b)\/(T="tuple"/\∃o,K.lookup p=some o/\o.cls=.type "tuple"/\o.dict=none)\/
  (T="dict"/\((∃c,H p=some (.dK c))\/∃c,H p=some (.dT c)))\/(T="set"/\∃S n,H p=some (.set S n))
 | _=>False
theorem z0{σ:St}(I:Inv X pins σ H s)(r:RelV x v)(g:K0 X.K T x H):
 s.TypeIs v T/\∀a,v=.ref a->∃k,s.heap.get? a=some k/\k.dict=none:=by
 cases x with
 | str z=>
   obtain⟨t,rfl⟩:=r;cases (g);exact⟨typeIs_str s z t,λ_ e=>nomatch e⟩
 | int i=>
   obtain⟨t,rfl⟩:=r;cases (g);exact⟨typeIs_int s i t,λ_ e=>nomatch e⟩
 | ref p=>
   cases r;rcases g with⟨rfl,w,l⟩|⟨rfl,o,d,m,j⟩|⟨rfl,d⟩|⟨rfl,S,n,d⟩
   .obtain⟨u,_,q,_⟩:=I.list l
    refine⟨q.isList.typeIs,λa e=>?_⟩;obtain⟨o,n,e,c,j,_⟩:=q
    ext
   .refine⟨⟨o,I.kIn p o d,m⟩,λa e=>?_⟩
    cases e;exact⟨o,I.kIn _ o d,j⟩
   .have z:∃o,s.heap.get? p=some o/\o.ExactDict:=by
     rcases d with⟨h,d⟩|⟨h,d⟩
     .obtain⟨_,_,_,_,o,_,_,e,f,_⟩:=I.hok p _ d
      grind
     .obtain⟨_,_,_,_,o,_,_,e,f,_⟩:=I.hok p _ d
      grind
    obtain⟨o,e,f⟩:=z;refine⟨⟨o,e,f.1⟩,λa b=>?_⟩;cases b;exact⟨o,e,f.2.1⟩
   .obtain⟨o,_,_,_,e,f,_⟩:=I.hok p _ d
    refine⟨⟨o,e,f.1⟩,λa b=>?_⟩;cases b;exact⟨o,e,f.2.1⟩
 | _=>exact False.elim g
def RC(K:W7)(T:String)(r:V->AM->Hp->VK->Prop)(e:TE)(t:TA):TE:=λb H Q=>e b H λx d=>K0 K T x d/\t b d λc f=>r x c f Q
variable {o e:Expr}{to:TE}{t:TA}{name:Str}{T id:String}{r:V->AM->Hp->VK->Prop}
theorem nB(K:PlainAttrs T)(g:Slot T name id)(j:typeOf (.builtin id)=pure (.type "method_descriptor"))(w:Rx X id r)(y:PE X o to)(G:PA X (e::es) t)(d:attributeBase o name X.env (eval o X.env)=eval o X.env:=by rfl)(i:((backTo cpos (starEach (e::es) X.env)).all (λx=>!x.1)&&(backToKw cpos (keywordEach [] X.env)).all (λx=>x.1.isSome)
  &&decide ((e::es).length+([]:List Keyword).length+(if ([]:List Keyword).isEmpty then 0 else 1)<30))=true:=by rfl)(b:(apos.endLine==cpos.line)=true:=by rfl)(hs:starEach (e::es) X.env=(false,eval e X.env)::starEach es X.env:=by rfl)(a:(backTo cpos (starEach es X.env)).any (·.1)=false:=by rfl):
 PE X (.Call (.Attribute o name apos) (e::es) [] cpos) (RC X.K T r to t):=by
 intro p s k H Q I h;refine wpAny_Call_method_late d i b rfl (az (y _ s k H _ I h) λv E c=>?_);obtain⟨x,C,m,l,q,D⟩:=c;obtain⟨A,M⟩:=z0 m l q;refine⟨T,id,K,g,j,A,M,?_⟩;have n:=G cpos _ E k C _ m D;rw[hs]at n ⊢;refine Calls.callWith_builtin (by show(false||(backTo _ _).any _)=_;rw[a]<;>rfl) (Calls.evalArgs_plain (az n λF u c=>?_));obtain⟨B,L,z,J,N⟩:=c;exact w _ u k L x B v F Q z l J N
end
def tM(X:Cx)(id:String)(r:V->AM->Hp->VK->Prop):Prop:=
 ∀(a:List _) (s:Shared) (b:St) (H:Hp) (x:V) (c:AM) (v:Value) (d:List _) (Q:VK),Inv X a b H s->RelV x v->Vals c d->r x c H Q->
  aag X (call (.builtin id) (v::d)) (EP X a b Q) X.xe s
theorem Vals.one:∀{x:V}{us:AC},Vals [x] us->∃u,us=[u]/\RelV x u
 :=by
  intro x us h
  cases h with
  | cons r t=>
    cases t;symm
section
variable {σ:St}{H:Hp}{s:Shared}{l b:Addr}{xs zs:AM}
def Inv.lset{its a:AC}(I:Inv X pins σ H s)(i:H l=some (.lst xs))(e:s.heap.get? l=some {cls:=.type "list",data:=.seq its.toArray n})(g:f its.toArray=a.toArray)(c:Vals ys a)(d:ys.length<=sizeLine):
 Inv X pins σ (upd H l (.lst ys)) {s with heap:=s.heap.update l (Obj.mapSeq f),toks:=t' }:=by
 have q:=PySem.IsL.update e f;rw[g]at q;exact I.write (by rw[i];exact trivial) (.inl rfl) (λj u k h=>(Heap.get?_update_other _ _ (.symm k)).trans h) ⟨_,q⟩ (⟨d,a,_,c,q⟩)
def Inv.lnew(I:Inv X pins σ H s)(a:Vals ys its)(c:ys.length<=sizeLine):
 Inv X pins σ (upd H (~~~s) (.lst ys)) {s with heap:=s.heap.push {cls:=.type "list",data:=.seq its.toArray},toks:=t' }:=
 I.laid (λ_ _ q=>qe _ q) (qv _) ⟨c,its,0,a,qp _ rfl⟩
def Inv.fresh(I:Inv X pins σ H s):H (~~~s)=none:=I.hok.fresh (qv _)
def Inv.lstM(I:Inv X pins σ H s)(a:H l=some (.lst xs)):xs.length<=sizeLine/\∃(its:AC) (n:Nat),Vals xs its/\xs.length=its.length/\s.heap.get? l=some {cls:=.type "list",data:=.seq its.toArray n}:=by
 obtain⟨z,its,n,r,e⟩:=I.hok l _ a;exact⟨z,its,n,r,r.length,e⟩
theorem RE(h:n<=sizeLine):Builtin.List.listTooLong n=false:=by
 unfold Builtin.List.listTooLong
 ext
def z1:V->AM->Hp->VK->Prop:=λx b H Q=>∃l a y,x=.ref l/\b=[y]/\H l=some (.lst a)/\a.length<sizeLine/\Q .non (upd H l (.lst (a++[y])))
theorem z3:tM X "list.append" z1:=by
 intro b s p H x t v o Q I g f h;obtain⟨l,m,y,rfl,rfl,c,i,q⟩:=h;cases g;obtain⟨u,rfl,d⟩:=f.one;obtain⟨z,k,n,r,j,e⟩:=I.lstM c;refine call_meets F.slot_list_append ⟨_,e,rfl⟩ F.entry_list_append (F.args_list_append_2 _ _) (PySem.list_append l _ n u (by ext)) ⟨e,⟨.non,_,I.lset c e nofun (r.append (.cons d .nil)) ?_,rfl,q⟩⟩
 (simp;lia)
end
end L2
namespace Att
open PySem PySem.W PySem.Calls PyProof.Rows
theorem RF:∀(ns:AF) (vs:AC),WellAll P h vs (ns.map WData.int)->IntsAre vs ns:=by
 intro ns
 induction ns with
 | nil=>
   intro vs w;cases w;exact .nil
 | cons n ns c=>
   intro vs w
   cases w with
   | cons a b=>
     cases a;exact .cons _ _ (c _ b)
theorem RG{l:OpenLaw}(t:l.most=some n)(b:l.row.toRowW.claim.pre args=true)(g:WellAll P h e args):
 ∃a vs ns,e=[Value.ref a]/\args=[WData.list (ns.map WData.int)]/\h.get? a=some {cls:=.type "list",data:=.seq vs.toArray}/\IntsAre vs ns/\ns.length<=n:=by
 have s:l.pre.holds [] _=true:=(pre_splitW b).2;obtain⟨d,r,rfl,p,o⟩:=hasAllW_cons ((pre_splitW b).1);obtain rfl:=hasAllW_nil o;obtain⟨v,rfl,m⟩:=hasW_list p;obtain⟨ns,rfl⟩:=items_int m
 have f:ns.length<=n:=by
  have i:(WTm.not (.lt (.lit (.int n)) (.len (.arg 0)))).holds [] {args:=[.list (ns.map .int)]}=true:=by
   have i:=(holds_andW s).1
   ext
  have u:=condW_of i (w_not (w_lt w_lit (w_len_list (w_arg rfl))))
  ext
 cases g with
 | cons q k=>
   cases k
   cases q with
   | list j c=>exact⟨_,_,ns,rfl,rfl,j,RF ns _ c,f⟩
def RH(l:OpenLaw)(a:List WData):l.row.toRowW.claim.post a (.bool true) a=true:=
 postW_of
  (by first|rfl|decide|simp[.arms])
  (w_eq_bool (w_res rfl) w_lit) rfl
def attach_call{l:OpenLaw}(M:l.most=some n)(v:d.params.defaults=[])(call:∀(w:World) (c b:Shared) (p S:AD) (h:Addr) (o:Obj) (y m e:Value) (a:Addr) (vs:AC) (ns:AF),
  Ground q loose [] XP w c p S b.heap->YP w b.heap->
  b.heap.get? h=some o->o.data=.func (docDef d.name d.params d.body d.scope y m e)->b.heap.CodeRec m d.name->p d.name=some (.ref h)->
  b.heap.get? a=some {cls:=.type "list",data:=.seq vs.toArray}->IntsAre vs ns->ns.length<=n->b.gens=#[]->
  codeAny (mZ l.prog w) callerA (.call (.ref h) ⟨[.ref a],[]⟩) (λr s'=>r=.ok (.ret (.bool true))/\OldK b.heap s'.heap/\s'.os=b.os/\AllBare s'.gens) b):
 WalkO q loose XP YP l.row.toRowW d [] (λf vs=>PySem.call f vs):=by
 intro w c b p S G Y h o y m e R Q E N u B t L C A P k z F s J;obtain rfl:=Dflts.none B v;obtain rfl:=Dflts.noKw B;obtain⟨a,vs,ns,rfl,rfl,j,g,i⟩:=RG M k s;refine enter_call (codeAny_mono (call w c b p S h o y m e a vs ns G Y E (fd_plain N) u t j g i L) λr s' K=>?_);obtain⟨rfl,H,I,D⟩:=K;exact⟨.inl ⟨.bool _,.bool _,[],rfl,λ_=>rfl,.bool _,RH l _,λ_=>⟨.nil,λ_ O=>nomatch O⟩⟩,H,I,D⟩
end Att
namespace L2
variable {X:Cx}{pins:AB}{pos pos' tpos apos cpos:Pos}{ys:AM}{prog:P7}{K:W7}{dx:Addr}{value:Expr}{tv:TE}{es:AK}
open PySem PySem.Spec PyProof.Rows
theorem nC:∀{vs:AC}{ns:AF},IntsAre vs ns->Vals (ns.map V.int) vs
 | _,_,.nil=>.nil
 | _,_,.cons n t h=>.cons ⟨t,rfl⟩ (nC h)
def jP(H:Hp):Prop:=∀b,H b=none\/∃o a,H b=some (.frz o (.lst a))
theorem RI{K:W7}(T:K.In c.heap)(t:c.heap.Ns mainGlobals G)(hb:c.heap.Ns builtinsNs mb)(O:∀x:Str,x≠"__name__"->mb x=bootBuiltins x)(p:c.heap.NoLimit)(hg:c.gens=#[])(M:c.heap.get? a=some {cls:=.type "list",data:=.seq vs.toArray})(ua:IntsAre vs ns)(hl:ns.length<=sizeLine)(hr:Room k callerA)(F:∀g:Heap,K.In g->g.Ns mainGlobals G->FnOk P w K G g CX k U fd [x] sp)(l:∀(s:Shared) (u:Value),BindsTo s fd ⟨[u],[]⟩ [(x,u)])(I:∀H:Hp,jP H->SqL K H a (ns.map V.int)->sp [.ref a] H (λv _=>v=.bl true) λ_ _ _=>False)(L:∀H e s',CX [] H c (λ_ _ _=>False) e s'->False):
 codeAny (mZ P w) callerA (.call (.ref U) ⟨[.ref a],[]⟩) (λr s'=>r=.ok (.ret (.bool true))/\OldK c.heap s'.heap/\s'.os=c.os/\AllBare s'.gens) c:=by
 have rv:=nC ua;have R:=ua.length
 have j:∀H,jP H->SqL K H a (ns.map V.int)->HOk P w H c.heap->(∀b,H b≠none->b=a)->(H a≠none->K.lookup a=none)->
  codeAny (mZ P w) callerA (.call (.ref U) ⟨[.ref a],[]⟩) (λr s'=>r=.ok (.ret (.bool true))/\OldK c.heap s'.heap/\s'.os=c.os/\AllBare s'.gens) c:=by
  intro H S Y C hA hK;have f:∀{b:Addr}{o:Obj},c.heap.get? b=some o->H b=none->_:=λe n=>QR e n
  have N:∀{b:Addr}{o:Obj}{E:Array DictEntry}{D:Nat},c.heap.get? b=some o->o.data=.dict E D->H b=none:=λ{b o E D} e d=>by
   grind
  have i:∀{b:Addr}{m:AD},c.heap.Ns b m->(ek c.heap H).Ns b m:=λ{b m} ⟨o,E,D,e,d,r⟩=>⟨o,E,D,f e (N e d),d,r⟩
  have B:=λb o e=>f (T b o e) (by
   grind)
  have hM:Mod K G (ek c.heap H):=⟨B,i t,⟨mb,i hb,O⟩,let ⟨mc,h1,h2⟩:=p;⟨mc,i h1,h2⟩⟩
  have Z:Env0 P w K G (ek c.heap H) callerA [] c H:=⟨rfl,hM,λb o e=>x_ e,Nat.le_of_eq (QQ _ _),trivial,λb hb=>absurd (show b∈([]) from hb) nofun,C,.of_eq hg⟩
  refine codeAny_mono ((F _ B (i t)).run callerA [] c H ⟨[.ref a],[]⟩ [.ref a] [.ref a] _ _ hr Z (l c (.ref a)) (.cons rfl .nil) (I H S Y)) λr s' h=>?_
  cases r with
  | error e=>exact(L H e s' h).elim
  | ok fl=>
    cases fl with
    | next=>exact False.elim h
    | brk=>exact False.elim h
    | cont=>exact False.elim h
    | ret u=>
      obtain⟨v,H',os,A,Q,y,r',q⟩:=h;have q':=q;subst q';obtain rfl:=r';refine⟨rfl,OldK.of_keep λb o e=>?_,os,A⟩
      cases q:H b with
      | none=>exact Q.keep b o e q (by intro z;exact absurd (show b∈([]) from z) nofun) nofun
      | some u=>
        rcases S b with z|⟨ob,xs,z⟩
        .grind
        .have z2:=Q.frzs b ob _ z
         obtain⟨e1,_⟩:=C b _ z;obtain⟨e2,_⟩:=y b _ z2;grind
 cases J:K.lookup a with
 | some o=>
   have e:=T a o J;rw[M]at e;cases e;refine j (λ_=>none) (λ_=>.inl rfl) (.inr ⟨_,vs.toArray,_,J,rfl,rfl,rfl,by ext,by grind⟩) (λb u z=>by grind) (λb z=>absurd rfl z) λz=>absurd rfl z
 | none=>
   refine j (λb=>if b=a then some _ else none) (λb=>?_) (.inl (.inr ⟨{cls:=.type "list",data:=.seq vs.toArray},if_pos rfl⟩)) (λb u z=>?_) (λb z=>?_) λ_=>J
   .grind
   .by_cases hb:b=a
    .have z':=(if_pos hb).symm.trans z
     cases z';subst hb;exact⟨M,by ext,vs,_,rv,M⟩
    ext
   ext
def walk_of{l:W.OpenLaw}{K:Params->W7}{CX:World->gX}{sp:World->Sp}(S:l.most=some n)(A:n<=sizeLine)(t:d.params.defaults=[])(P:Room k callerA)(O:∀(w:World) (h:Heap),YP w h->(K w.params).In h)(F:∀(w:World) (j:AD) (r:Addr) (h:Heap),(K w.params).In h->h.Ns mainGlobals j->j d.name=some (.ref r)->
  ∃z:FuncData,(∀(s:Shared) (u:Value),BindsTo s z ⟨[u],[]⟩ [(x,u)])/\
   ∀c:Heap,(K w.params).In c->c.Ns mainGlobals j->FnOk l.prog w (K w.params) j c (CX w) k r z [x] (sp w))(C:∀(w:World) (H:Hp) (a:Addr) (ns:AF),ns.length<=n->jP H->SqL (K w.params) H a (ns.map V.int)->sp w [.ref a] H (λv _=>v=.bl true) λ_ _ _=>False)(B:∀(w:World) (H:Hp) (s:Shared) (e:Value) (s':Shared),CX w [] H s (λ_ _ _=>False) e s'->False):
 W.WalkO q loose XP YP l.row.toRowW d [] (λf vs=>PySem.call f vs):=by
 refine Att.attach_call S t λw D m j mb r o U T J a vs ns G Y X L R y p i g I=>?_;have E:=O w _ Y;obtain⟨z,Z,M⟩:=F w j r _ E G.T.g y;exact RI E G.T.g G.T.b G.T.builtins G.T.nolimit I p i (Qg g A) P M Z (λH Q N=>C w H a ns g Q N) λH e s'=>B w H m e s'
noncomputable def inClass(s:Stmt)(j:Nat):Stmt:=match s with
 | .ClassDef _ _ _ a _ _ _ _ _ _ _=>a.getD j (.Pass ⟨0,0,0,0⟩)
 | _=>.Pass ⟨0,0,0,0⟩
noncomputable def aGa(s:Stmt):Arguments:=match s with
 | .FunctionDef _ a _ _ _ _ _ _ _ _=>a
 | _=>{posonlyargs:=[],args:=[],vararg:=none,kwonlyargs:=[],kw_defaults:=[],kwarg:=none,defaults:=[]}
def aFa(s:Stmt):List Stmt:=match s with
 | .FunctionDef _ _ b _ _ _ _ _ _ _=>b
 | _=>[]
noncomputable def aDa(s:Stmt):Scope:=match s with
 | .FunctionDef _ _ _ _ _ _ a _ _ _=>a
 | _=>{kind:=.function,names:=[],isGenerator:=false,isCoroutine:=false}
abbrev cJ:gX:=λ_ _ _ _ _ _=>False
abbrev E0:XK:=λ_ _ _=>False
def tN:lI cJ X E0:=λ_ _ _ _ _ _ _ h=>h.elim
structure Fun(K:W7)(x qual:Str)(st:Stmt)(f:Addr)(fd:FuncData):Prop where
 ex:∃(oc:Value) (od:Option Addr) (kV doc pm:Value) (an:Option Addr) (cdv ct:Value) (osl:Array (Option Value)),
  fd=W.fnOf x qual (aGa st) (aFa st) (aDa st) .none kV doc pm an cdv ct/\K.lookup f=some ⟨oc,od,.func fd,osl⟩/\W.codeIn K cdv qual=true
 kp:W.keepIn K (.ref f)=true
section
variable {P:P7}{w:World}{mg:AD}{base:Heap}
def Fun.ok{st:Stmt}(F:Fun K x c st f n)(S:dI N z (aDa st))(g:∀vs H Q E,sp vs H Q E->vs.length=z.length)(d:∀(b:Value) (A:Around) (a:List Env) (s:Shared) (H:Hp) (vs:AM) (Q:VK) (E:XK),Room k (A.deeper (envOfC c (aDa st) (~~~s) f b))->sp vs H Q E->
  ∃t,PSs (cm cJ P w K mg base N c (aDa st) f b A a s H E).nox (aFa st) t/\t {nx:=λ_ H'=>Q .non H',rt:=Q} (start N vs) H):FnOk P w K mg base cJ (k+1) f n z sp:=by
 obtain⟨p,u,kV,j,v,r,b,y,m,rfl,l,i⟩:=F.ex;refine nj l i S g λA a s H vs Q E o e=>?_;obtain⟨t,h,q⟩:=d b A a s H vs Q E o e;exact⟨t,h.nox,q⟩
def Fun.binds{st:Stmt}(F:Fun K x c st f i)(h:∀(kV a e:Value) (g:Option Addr) (b d:Value) (us:AC),us.length=o.length->bindArgs (W.fnOf x c (aGa st) (aFa st) (aDa st) .none kV a e g b d) ⟨us,[]⟩=pure (o.zip us)):Binds K i o []:=by
 obtain⟨n,m,kV,a,e,g,b,d,k,rfl,l,j⟩:=F.ex;exact .all (h kV a e g b d)
def nE{st:Stmt}{kV d h b g:Value}(l:K.lookup f=some ⟨j,m,.func (W.fnOf x a (aGa st) (aFa st) (aDa st) .none kV d h i b g),e⟩)(c:W.codeIn K b a=true)(k:W.keepIn K (.ref f)=true):Fun K x a st f (W.fnOf x a (aGa st) (aFa st) (aDa st) .none kV d h i b g):=⟨⟨j,m,kV,d,h,i,b,g,e,rfl,l,c⟩,k⟩
end
def z4{A B:Prop}(h:B):if false=true then A else B:=h
def z_{A B:Prop}(h:A):if true=true then A else B:=h
def Same(H H':Hp):Prop:=∀b o,H b=some o->H' b=some o
def Same.refl(H:Hp):Same H H:=λ_ _ h=>h
def Same.trans(a:Same H e)(b:Same e d):Same H d:=λc o h=>b c o (a c o h)
def Same.free(e:Same H H')(h:H' l=Option.none):H l=Option.none:=by
 cases q:H l with
 | none=>rfl
 | some o=>
   rw[e l o q]at h;cases h
def Same.seq{K:W7}(e:Same H H')(h:SqL K H a xs):SqL K H' a xs:=by
 rcases h with(h|⟨o,h⟩)|h
 .exact .inl (.inl (e _ _ h))
 .exact .inl (.inr ⟨o,e _ _ h⟩)
 .exact .inr h
noncomputable def a6(env:Env):List (Str×NameKind)->List (Str×Addr)->List (Str×Addr)
 | [],cs=>cs
 | (n,k)::r,cs=>if (k==NameKind.free)=true then (match env.cells.lookup n with|some c=>a6 env r ((n,c)::cs)|none=>a6 env r cs)else a6 env r cs
theorem K1(h:∀x∈a.names,x.2=NameKind.free->∃c,env.cells.lookup x.1=some c):closureFor a env=pure (a6 env a.names []):=by
 have f:∀(l:_) (d:_),(∀x∈l,x.2=.free->∃c,env.cells.lookup x.1=some c)->
  (forIn l d fun(x:Str×_) r=>if (x.2==.free)=true then (do let c <-cellOf env x.1;pure (.yield ((x.1,c)::r)))else pure (.yield r))=(pure (a6 env l d)):=by
  intro l
  induction l with
  | nil=>intro d _;rfl
  | cons x l j=>
    intro d g;obtain⟨n,k⟩:=x;have m:=λy s=>g y (qg _ s);rw[List.forIn_cons];by_cases o:k=.free
    .subst o
     obtain⟨c,q⟩:=g _ qh rfl;have b:=q
     have p:cellOf env n=pure c:=by unfold cellOf;rw[b]
     have e:(.free==NameKind.free)=true:=rfl;rw[if_pos e,p,pure_bind,pure_bind];show forIn l _ _=_;rw[j _ m];show _=pure (if _ then _ else _);rw[if_pos e,b]
    .have i:(k==.free)=false:=by simpa using o
     rw[if_neg (by rw[i];exact qi),pure_bind];show forIn l d _=_;rw[j _ m];show _=pure (if _ then _ else _);rw[if_neg (by rw[i];exact qi)]
 have:=f _ [] h;unfold closureFor;simpa using this
theorem tQ:∀(l:List (Str×NameKind)) (d:List (Str×Addr)),(∀x c,(x,c)∈d->env.cells.lookup x=some c)->∀x c,(x,c)∈a6 env l d->env.cells.lookup x=some c
 | [],d,h,x,c,e=>h x c e
 | (n,k)::r,d,h,x,c,e=>by
   unfold a6 at e
   split at e
   .split at e
    .refine tQ r _ (λy b a=>?_) x c e
     grind
    .exact tQ r d h x c e
   .exact tQ r d h x c e
theorem tR:∀(l:List (Str×NameKind)) (a:List (Str×Addr)) (p:Str×Addr),p∈a->p∈a6 env l a
 | [],_,_,h=>h
 | (n,k)::r,a,p,h=>by
   unfold a6
   split
   .split
    .exact tR r _ p (qg _ h)
    .exact tR r _ p h
   .exact tR r _ p h
theorem nF:∀(l:List (Str×NameKind)) (b:List (Str×Addr)) (x:Str) (c:Addr),(x,NameKind.free)∈l->env.cells.lookup x=some c->(x,c)∈a6 env l b
 | (n,k)::r,b,x,c,h,a=>by
   rcases qu h with q|q
   .cases q
    unfold a6;rw[a];exact tR r _ _ qh
   .unfold a6
    split
    .split
     .exact nF r _ x c q a
     .exact nF r _ x c q a
    .exact nF r _ x c q a
theorem K3{a:List (Str×Addr)}(h:(x,c)∈a):∃d,a.lookup x=some d:=by
 induction a with
 | nil=>cases h
 | cons p r f=>
   obtain⟨n,b⟩:=p;rw[List.lookup_cons]
   cases e:(x==n)with
   | true=>grind
   | false=>
     ext
structure gD(XN:AJ)(xsc:Scope)(N:AJ)(src:List AL)(sc:Scope):Prop where
 kind:sc.kind=.function
 xkind:xsc.kind=.function
 cellU:∀y∈sc.names,y.2=NameKind.cell->sc.names.lookup y.1=some NameKind.cell
 names:∀y∈sc.names,y.2=NameKind.local->sc.names.lookup y.1=some NameKind.local
 len:src.length=N.length
 nd:N.Nodup
 cap:∀(i j:Nat) (x:Str),N[i]?=some x->src[i]?=some (some j)->XN[j]?=some x/\sc.names.lookup x=some NameKind.free
 fr:∀y∈sc.names,y.2=NameKind.free->xsc.names.lookup y.1=some NameKind.cell\/xsc.names.lookup y.1=some NameKind.free
noncomputable def fY(b:AJ)(a:Scope):AJ->List AL->Bool
 | [],[]=>true
 | x::N,none::src=>fY b a N src
 | x::N,some j::src=>decide (b[j]?=some x)&&decide (a.names.lookup x=some NameKind.free)&&fY b a N src
 | _,_=>false
theorem Aa:∀{N:AJ}{c:List AL},fY b a N c=true->c.length=N.length
 | [],[],_=>rfl
 | _::N,none::c,h=>by
   have:=Aa (N:=N) h;simp[this]
 | _::N,some j::c,h=>by
   replace h:(_&&_)=true:=h;simp [Qe]at h;have:=Aa h.2;simp[this]
 | [],_::_,h=>Bool.noConfusion h
 | _::_,[],h=>Bool.noConfusion h
theorem Ab:∀{N:AJ}{e:List AL},fY b a N e=true->∀(i j:Nat) (x:Str),N[i]?=some x->e[i]?=some (some j)->b[j]?=some x/\a.names.lookup x=some NameKind.free
 | [],[],_,i,j,x,h,_=>by simp at h
 | _::N,none::e,h,i,j,x,d,c=>by
   cases i with
   | zero=>simp at c
   | succ i=>exact Ab (N:=N) h i j x (by ext) (by ext)
 | y::N,some k::e,h,i,j,x,d,c=>by
   replace h:(_&&_)=true:=h;simp [Qe]at h
   cases i with
   | zero=>
     ext
   | succ i=>exact Ab h.2 i j x (by ext) (by ext)
 | [],_::_,h,_,_,_,_,_=>Bool.noConfusion h
 | _::_,[],h,_,_,_,_,_=>Bool.noConfusion h
def jQ(c:AJ)(a:Scope)(N:AJ)(d:List AL)(b:Scope):Bool:=
 decide (b.kind=.function)&&decide (a.kind=.function)&&b.names.all (λy=>decide (y.2=.cell->b.names.lookup y.1=some .cell))&&b.names.all (λy=>decide (y.2=.local->b.names.lookup y.1=some .local))&&
  decide N.Nodup&&fY c b N d&&b.names.all (λy=>decide (y.2=.free->a.names.lookup y.1=some .cell\/a.names.lookup y.1=some .free))
def RJ(h:jQ e a N l g=true):gD e a N l g:=by
 unfold jQ at h;simp only[Qe,wm,List.all_eq_true]at h;obtain⟨⟨⟨⟨⟨⟨i,d⟩,k⟩,c⟩,j⟩,b⟩,f⟩:=h;exact⟨i,d,k,c,Aa b,j,Ab b,f⟩
noncomputable abbrev cv(X:Cx)(a:Scope)(N:AJ)(b:List (Str×Addr))(C:Addr)(c:List Addr)(s:Shared)(H:Hp):Cx where
 prog:=X.prog
 w:=X.w
 K:=X.K
 mg:=X.mg
 base:=X.base
 A:=X.A
 N:=N
 s₀:=s
 H₀:=H
 env:=compEnvC a b C X.env
 outer:=X.stack
 stack:=X.stack
 ex:=c
 fn:=λx=>a.names.lookup x==some .cell
 calm:=X.calm
 pn:=[]
 xe:=λ_ _=>False
noncomputable def c_(a:List AL)(σ:St):St:=a.map λo=>o.bind λj=>σ[j]?.join
def d5(X:Cx)(a:AK)(t:TT):Prop:=
 ∀(d:List _) (s:Shared) (e:St) (H:Hp) (Q:Bool->Hp->Prop),Inv X d e H s->t e H Q->
  aag X (forIn a true λc r=>if r=true then do let b <-isTrue c X.env (eval c X.env);pure (.yield b)else pure (.yield r)) (TP X d e Q) X.xe s
def nG:TT:=λ_ H Q=>Q true H
def Ac:d5 X [] nG:=λ_ _ _ H _ I h=>wpAny_tests_nil ⟨H,I,h⟩
def Ad(n:TI)(r:List AL)(g:TG)(q:TT)(l:TE):TE:=λt H Q=>n t H λJ f=>∀p,f p=none->
 ∃W:Nat->Nat->St->Hp->Prop,(∃m,W 0 m (c_ r t) (upd f p (.lst [])))/\∀i m c e,W i m c e->
  (J.stop i e/\Q (.ref p) e)\/
  (J.go i e/\∀x h,J.yld i e x h->g x c h λa o=>q a o λb j=>if b=true then l a j λv k=>∃s,k p=some (.lst s)/\s.length<sizeLine/\∃d,d<m/\W (i+1) d a (upd k p (.lst (s++[v])))else ∃d,d<m/\W (i+1) d a j)
section
variable {w:World}{A:Around}{R:Result->Shared->Prop}{s:Shared}{elt tg iter:Expr}{ifs:AK}{scope:Scope}{wi:TI}{g:TG}{ti:TT}{te:TE}{N:AJ}{src:List AL}
theorem RL(I:Nat->Shared->Prop)(u:∀n s,I n s->wpAny (mZ prog w) A (pyNext y) (λr a=>match r with
  | none=>R (.ok .next) a
  | some v=>wpAny (mZ prog w) A (letOwnedTupleGo b y v) (λ_ a=>wpAny (mZ prog w) A (assign b env v) (λ_ l=>
   wpAny (mZ prog w) A (forIn ifs true λc r=>if r=true then do let ok <-isTrue c env (eval c env);pure (ForInStep.yield ok)else pure (ForInStep.yield r)) (λok f=>
    if ok=true then wpAny (mZ prog w) A (eval elt env) (λx j=>
     wpAny (mZ prog w) A (call (.builtin "list.append") [t,x]) (λ_ k=>∃m,m<n/\I m k) (notedBy (mZ prog w) A env λe s'=>R (.error e) s') j) (notedBy (mZ prog w) A env λe s'=>R (.error e) s') f
    else ∃m,m<n/\I m f) (notedBy (mZ prog w) A env λe s'=>R (.error e) s') l) (notedBy (mZ prog w) A env λe s'=>R (.error e) s') a) (notedBy (mZ prog w) A env λe s'=>R (.error e) s') a) (notedBy (mZ prog w) A env λe s'=>R (.error e) s') s)(n:Nat)(h:I n s):
 codeAny (mZ prog w) A (.compLoop (.ListComp elt [⟨b,iter,ifs,0⟩] scope pos) 0 y t env) R s:=by
 refine codeAny_loop rfl I (λn s z=>?_) n h;show wpAny _ A _ _ _ s;refine wpAny_noted ?_;rw[compTurn_list];refine wa (wpAny_standAt (wa (w4 (u n s z) (λr a d=>?_) λ_ _ g=>g)))
 cases r with
 | none=>exact wc d
 | some v=>
   refine wa (w4 d (λ_ a d=>wa (w4 d (λ_ l o=>wa (w4 o (λok f i=>?_) λ_ _ g=>g)) λ_ _ g=>g)) λ_ _ g=>g)
   cases ok with
   | false=>exact wc ⟨rfl,i⟩
   | true=>
     exact wa (wa (w4 i (λx j q=>wa (w4 q (λ_ k p=>wc (wc ⟨rfl,p⟩)) λ_ _ g=>g)) λ_ _ g=>g))
theorem RM(h:scope.names.lookup x=some NameKind.free)(a:env.kindOf x=some NameKind.cell\/env.kindOf x=some NameKind.free):
 (relabel scope env).names.lookup x=some NameKind.cell\/(relabel scope env).names.lookup x=some NameKind.free:=by
 unfold relabel;generalize scope.names=l at h
 induction l with
 | nil=>cases h
 | cons p r b=>
   symm
theorem RN(h:(relabel scope env).names.lookup x=some NameKind.cell\/(relabel scope env).names.lookup x=some NameKind.free):
 (x,NameKind.free)∈scope.names\/(x,NameKind.cell)∈scope.names:=by
 unfold relabel at h
 revert h
 generalize scope.names=l
 induction l with
 | nil=>simp
 | cons p r a=>
   symm
theorem nH:∀(b:List (Str×NameKind)) (n:Nat) (a:List (Str×Addr)),cellsFrom n b a=cellsFrom n b []++a
 | [],_,_=>rfl
 | (x,k)::r,n,a=>by
   unfold cellsFrom
   split
   .rw[nH r _ _,nH r _ [(x,n)],ja];rfl
   .exact nH r n a
theorem Ae:∀(a:List (Str×NameKind)) (n:Nat) (x:Str) (c:Addr),(x,c)∈cellsFrom n a []->(x,NameKind.cell)∈a
 | [],_,_,_,h=>nomatch h
 | (y,k)::r,n,x,c,h=>by
   unfold cellsFrom at h
   split at h
   .rw[nH]at h
    rcases qw h with h|h
    .exact qg _ (Ae r _ x c h)
    ext
   .exact qg _ (Ae r n x c h)
theorem K4{a b:List (Str×Addr)}:(a++b).lookup x=(a.lookup x).or (b.lookup x):=by grind
theorem jR{a b:List (Str×Addr)}(h:(a++b).lookup x=some c):a.lookup x=some c\/(a.lookup x=none/\b.lookup x=some c):=by
 rw[K4]at h
 ext
def RO(h:Q (newEnv scope (~~~s) a (cellsFrom (~~~s+1) scope.names []++i) c none .none (some b) f) {s with heap:=pushCells (s.heap.push {cls:=.type "dict",data:=.dict #[]}) scope.names}):
 wpAny M A (newFunctionEnv scope a i [] c none .none (some b) f) Q E s:=by
 refine wa (wpAny_alloc (wa (wpAny_layCells _ (λg e d=>by simp) _ _ _ _ ?_)));rw[wx ..,nH];exact wa (wc (wc h))
theorem RP{σ:St}(S:gD X.N X.env.scope N src scope)(I:Inv X pins σ H s)(M:∀b∈fp,cI X pins H b)(ho:∀b∈fp,∃o,s.heap.get? b=some o)(hn:n.Ns (~~~s) λ_=>none)(O:∀b o,s.heap.get? b=some o->n.get? b=some o)(t:CellsOk n (~~~s+1) f)(R:∀x c,(x,c)∈f->(x,NameKind.cell)∈scope.names)(E:∀x,scope.names.lookup x=some NameKind.cell->∃c,f.lookup x=some c):
 Inv (cv X scope N (f++a6 X.env scope.names []) (~~~s) fp s H) [] (c_ src σ) H {s with heap:=n,toks:=tk}:=by
 have h:∀x c,(a6 X.env scope.names []).lookup x=some c->X.env.cells.lookup x=some c:=λx c e=>tQ scope.names [] (λ_ _ z=>nomatch z) x c (PySem.mem_of_lookup e)
 have clt:∀x c,(a6 X.env scope.names []).lookup x=some c->c< ~~~s:=λx c e=>by
  obtain⟨v,q⟩:=I.cell x c (h x c e);exact q.lt
 have V:∀x c,f.lookup x=some c->(~~~s)<c:=λx c e=>(t.empty x c (PySem.mem_of_lookup e)).2
 have L:∀x,scope.names.lookup x=some NameKind.free->f.lookup x=none:=λx J=>by
  cases e:f.lookup x with
  | none=>rfl
  | some c=>
    have:=S.cellU _ (R x c (PySem.mem_of_lookup e)) rfl;grind
 have T:∀b∈fp,b< ~~~s:=λb g=>by
  obtain⟨o,e⟩:=ho b g;exact ql e
 have U:∀b∈fp,b∉fF X.stack:=λb g z=>by
  rcases qu (I.stkSub b z)with e|e
  .exact(M b g).2.1 e
  .exact(M b g).2.2.1 e
 refine⟨⟨I.ok.mod,S.kind,I.ok.glob,I.ok.blt,qv _,λx y c C k=>?_,λx J=>?_,λx c z e=>?_,I.ok.hd,I.ok.frames,.inl rfl,λb g=>⟨qm (T b g),λx c e=>?_⟩,
  I.bs,Qg I.ok.bsz I.sz,λb o e g=>?_,U,I.stack,I.stkFree⟩,rfl,I.bare,Un.kept O,⟨_,hn,λi x v C k h3=>?_⟩,λx c e=>?_,I.fresh,λx c e=>?_,λp hp=>(nomatch hp),I.hok.kept O,?_⟩
 .rcases jR C with C|⟨_,C⟩
  .rcases jR k with k|⟨_,k⟩
   .exact name_of_addr t.apart (PySem.mem_of_lookup C) (PySem.mem_of_lookup k)
   grind
  .rcases jR k with k|⟨_,k⟩
   .grind
   .exact I.ok.inj x y c (h x c C) (h y c k)
 .show ∃c,(f++a6 X.env scope.names []).lookup x=some c
  rw[K4]
  cases e:f.lookup x with
  | some c=>grind
  | none=>
    rcases RN J with P|P
    .obtain⟨c,t⟩:=I.ok.has x (S.fr _ P rfl)
     exact K3 (nF scope.names [] x c P t)
    .obtain⟨c,t⟩:=E x (S.cellU _ P rfl)
     grind
 .have z':scope.names.lookup x=some NameKind.cell:=by simpa using z
  obtain⟨d,Y⟩:=E x z';rcases jR e with e|⟨e,_⟩
  .grind
  ext
 .rcases jR e with e|⟨_,e⟩
  .grind
  .exact(M b g).2.2.2.2.1 x c (h x c e)
 .rcases(M b g).2.2.2.1 with z|z
  .exact I.ok.noex b o e z
  .exact absurd (Qi (ql e) (Qg I.ok.bsz z)) (Nat.lt_irrefl _)
 .have hi:i<src.length:=by
   have:=(qo k).1;unfold c_ at this
   ext
  have A:src[i]?=some src[i]:=qr hi;unfold c_ at k;rw[Qm,A]at k;have F:(src[i].bind λj=>(σ[j]?).join)=some v:=w5 k;cases q:src[i]with
  | none=>ext
  | some j=>
    rw[q]at F A;have W:(σ[j]?).join=some v:=F;obtain⟨J,D⟩:=S.cap i j x C A;obtain⟨m,_,Z⟩:=I.loc;have G:X.env.kindOf x=some NameKind.cell\/X.env.kindOf x=some NameKind.free:=S.fr (x,NameKind.free) (PySem.mem_of_lookup D) rfl
    have Q:σ[j]?=some (some v):=by
     grind
    obtain⟨u,r,l⟩:=Z j x v J Q (.inr G);refine⟨u,r,.inr ⟨RM D G,?_⟩⟩;rcases l with⟨z,_⟩|⟨_,c,t,B⟩
    .simp_all
    .obtain⟨d,Y⟩:=K3 (nF (env:=X.env) scope.names [] x c (PySem.mem_of_lookup D) t)
     have K:=h x d Y;rw[t]at K;cases K;refine⟨c,?_,B.keeps O⟩;show(f++a6 X.env scope.names []).lookup x=some c;grind
 .rcases jR e with e|⟨_,e⟩
  .exact⟨_,(t.empty x c (PySem.mem_of_lookup e)).1⟩
  .obtain⟨v,q⟩:=I.cell x c (h x c e)
   exact⟨v,q.keeps O⟩
 .rcases jR e with e|⟨_,e⟩
  .exact I.hok.fresh (Nat.le_of_lt (V x c e))
  .exact I.freeC x c (h x c e)
 .unfold c_
  rw[qf];exact S.len
def RQ{σ c:St}(I:Inv X pins σ H s)(a:∀b∈d,cI X pins H b)(J:Inv (cv X scope N f C d s H) e c H' s'):Inv X pins σ H' s':=
 I.call' J.os J.base J.hok J.bare λb g=>⟨(a b g).2.2.2.1,(a b g).2.1,(a b g).2.2.2.2.1,(a b g).2.2.2.2.2⟩
theorem K5{σ:St}{Q:VK}{R:Value->Addr->Result->Shared->Prop}(S:gD X.N X.env.scope N src scope)(hc:X.calm=true)(hg:∀cl C k s H,PG (cv X scope N cl C k s H) tg g)(hi:∀cl C k s H,d5 (cv X scope N cl C k s H) ifs ti)(he:∀cl C k s H,PE (cv X scope N cl C k s H) elt te)(I:Inv X pins σ H s)(T:d4 X.prog X.w X.K tg J k it tn)(st:tn 0 s.heap)(hf:∀b∈k,cI X pins H b)(h:∀p,H p=none->∃W:Nat->Nat->St->Hp->Prop,(∃m,W 0 m (c_ src σ) (upd H p (.lst [])))/\∀i m σ1 H2,W i m σ1 H2->
  (J.stop i H2/\Q (.ref p) H2)\/
  (J.go i H2/\∀x G,J.yld i H2 x G->g x σ1 G λO H4=>ti O H4 λb H5=>if b=true then te O H5 λv H6=>∃xs,H6 p=some (.lst xs)/\xs.length<sizeLine/\∃A,A<m/\W (i+1) A O (upd H6 p (.lst (xs++[v])))else ∃A,A<m/\W (i+1) A O H5))(hR:∀(D C:Addr) (s':Shared) (H':Hp) (m:AD),Inv X pins σ H' s'->s'.heap.Ns C m->H' C=none->C≠X.env.locals->X.s₀.heap.objs.size<=C->(∀x c,X.env.cells.lookup x=some c->c≠C)->(∀p∈X.pn++pins,p.1≠C)->Q (.ref D) H'->R (.ref D) C (.ok .next) s'):
 aag X (newList []) (λacc s₃=>aag X (newFunctionEnv scope X.env.globals (a6 X.env scope.names []) [] X.env.qual none .none (some X.env)) (λZ s₄=>
  codeAny (mZ X.prog X.w) X.A (.compStart (.ListComp elt [⟨tg,iter,ifs,0⟩] scope pos) 0 (.ref it) acc {Z with scope:=relabel scope X.env}) (R acc Z.locals) s₄) E s₃) E s:=by
 refine wh (RO ?_);have hfree:H (~~~s)=none:=I.fresh;obtain⟨W,⟨m0,w0⟩,turn⟩:=h (~~~s) hfree;have I3:Inv X pins σ (upd H (~~~s) (.lst [])) {s with heap:=s.heap.push {cls:=.type "list",dict:=none,data:=.seq ([]:AC).toArray},toks:=s.toks}:=I.lnew (ys:=[]) (its:=[]) .nil (Qh _);generalize hD:(~~~s)=L at *;generalize hH3:upd H L (.lst [])=G at *;have kp0:∀b o,s.heap.get? b=some o->(s.heap.push {cls:=.type "list",dict:=none,data:=.seq ([]:AC).toArray}).get? b=some o:=λb o e=>qe _ e
 have lt0:∀b o,s.heap.get? b=some o->b≠L:=λb o e=>by rw[<-hD];exact qm (ql e)
 generalize hs3:s.heap.push {cls:=.type "list",dict:=none,data:=.seq ([]:AC).toArray}=a at *
 have f3:∀b∈k,cI X pins G b:=λb l=>by
  obtain⟨o,e,_⟩:=T.obj _ _ st b l;refine⟨?_,(hf b l).2⟩;rw[<-hH3,Yh (lt0 b o e)];exact(hf b l).1
 have ob3:∀b∈k,∃o,a.get? b=some o:=λb l=>by
  obtain⟨o,e,_⟩:=T.obj _ _ st b l;exact⟨o,kp0 b o e⟩
 dsimp only;have M:(pushCells (a.push {cls:=.type "dict",data:=.dict #[]}) scope.names).Ns a.objs.size (λ_=>none):=(Heap.Ns.new a (.type "dict")).keeps (pushCells_keeps _ _);have old:∀b o,a.get? b=some o->(pushCells (a.push {cls:=.type "dict",data:=.dict #[]}) scope.names).get? b=some o:=λb o e=>pushCells_keeps _ _ b o (qe _ e);have cok:=cellsFrom_ok scope.names (a.push {cls:=.type "dict",data:=.dict #[]}) (a.objs.size+1) [] ⟨λ_ _ V=>(nomatch V),List.Pairwise.nil⟩ (by rw[wx];exact qv _);rw[wx]at cok;have chas:∀x,scope.names.lookup x=some NameKind.cell->∃c,(cellsFrom (a.objs.size+1) scope.names []).lookup x=some c:=λx hx=>Option.isSome_iff_exists.mp (PySem.W.cellsFrom_some _ _ _ (.inl hx));have cmem:∀x c,(x,c)∈cellsFrom (a.objs.size+1) scope.names []->(x,NameKind.cell)∈scope.names:=λx c h=>Ae _ _ x c h;generalize cellsFrom (a.objs.size+1) scope.names []=z,pushCells (a.push {cls:=.type "dict",data:=.dict #[]}) scope.names=F at *
 have I4:Inv (cv X scope N (z++a6 X.env scope.names []) a.objs.size k {s with heap:=a,toks:=s.toks} G) [] (c_ src σ) G {s with heap:=F,toks:=s.toks}:=
  RP (s:={s with heap:=a,toks:=s.toks}) (tk:=s.toks) S I3 f3 ob3 M old cok cmem chas
 have st4:tn 0 F:=T.keep _ _ _ st λb _ o e=>old b o (kp0 b o e);have hCl:a.objs.size≠X.env.locals:=Nat.ne_of_gt I3.lt
 have hCc:∀x c,X.env.cells.lookup x=some c->c≠a.objs.size:=λx c e=>by
  obtain⟨v,q⟩:=I3.cell x c e;exact qm q.lt
 have hCp:∀p∈X.pn++pins,p.1≠a.objs.size:=λp hp=>qm (ql (I3.pin p hp).1)
 have K:∀{H':Hp},(∀b∈k,H' b=none)->∀b∈k,cI _ [] H' b:=λ{H'} hn b l=>by
  obtain⟨e1,e2⟩:=I4.ok.exf b l;exact⟨hn b l,e1,I4.ok.exfs b l,.inl l,e2,λp hp=>nomatch hp⟩
 have loop:codeAny (mZ X.prog X.w) X.A (.compLoop (.ListComp elt [⟨tg,iter,ifs,0⟩] scope pos) 0 (.ref it) (.ref L) (compEnvC scope (z++a6 X.env scope.names []) a.objs.size X.env)) (R (.ref L) a.objs.size) {s with heap:=F,toks:=s.toks}:=by
  refine RL (λn s'=>∃i B H',Inv (cv X scope N (z++a6 X.env scope.names []) a.objs.size k {s with heap:=a,toks:=s.toks} G) [] B H' s'/\tn i s'.heap/\(∀b∈k,H' b=none)/\W i n B H') ?_ m0 ⟨0,_,G,I4,st4,λb l=>(f3 b l).1,w0⟩;rintro n s3 ⟨i,Y,U,I3',st3,fr3,w3⟩;rcases turn i n Y U w3 with⟨stop,qn⟩|⟨go,step⟩
  .refine az (T.done (cv X scope N (z++a6 X.env scope.names []) a.objs.size k {s with heap:=a,toks:=s.toks} G) rfl rfl rfl hc i [] s3 Y U _ I3' (K fr3) st3 stop) λr s4 j=>?_
   obtain⟨hr,I5⟩:=j;subst hr;obtain⟨m,V,_⟩:=I5.loc;exact hR L a.objs.size s4 U m (RQ I3 f3 I5) V I5.free hCl (Qg I3.sz (qv _)) hCc hCp qn
  .refine az (T.item (cv X scope N (z++a6 X.env scope.names []) a.objs.size k {s with heap:=a,toks:=s.toks} G) rfl rfl rfl hc i [] s3 Y U _ I3' (K fr3) st3 go) λr s4 j=>?_
   obtain⟨u,hr,h4⟩:=j;subst hr;refine az h4 λ_ s5 j=>?_;obtain⟨x,H5,I5,r5,y5,st5,fr5⟩:=j;have I5':=I5.pinned (K fr5) (T.obj _ _ st5);have un:∀{α:Type}{t:Sem α}{Q':α->Shared->Prop}{E':AA}{s':Shared},aag X t Q' (λ_ _=>False) s'->aag X t Q' E' s':=λh=>w4 h (λ_ _ q=>q) λ_ _ f=>f.elim;refine un (az (hg _ _ _ _ _ _ s5 Y H5 x u _ I5' r5 (step x H5 y5)) λ_ s6 j=>?_);obtain⟨w,H6,I6,q6⟩:=j;refine un (az (hi _ _ _ _ _ _ s6 w H6 _ I6 q6) λok s7 j=>?_);obtain⟨H7,I7,q7⟩:=j
   have again:∀{H8:Hp}{s8:Shared}{A:Nat},A<n->Inv (cv X scope N (z++a6 X.env scope.names []) a.objs.size k {s with heap:=a,toks:=s.toks} G) ([]++ts k s5.heap) w H8 s8->W (i+1) A w H8->
    ∃m,m<n/\∃i B H',Inv _ [] B H' s8/\tn i s8.heap/\(∀b∈k,H' b=none)/\W i m B H':=λ{H8 s8 A} V I8 w8=>by
    refine⟨A,V,i+1,w,H8,I8.unpinned,T.keep _ _ _ st5 λb l o e=>(I8.pin (b,o) (Qr _ (Qr _ (tw l e)))).1,λb l=>?_,w8⟩;obtain⟨o,e,d⟩:=T.obj _ _ st5 b l;exact(I8.pin (b,o) (Qr _ (Qr _ (tw l e)))).2.1
   cases ok with
   | false=>
     rw[if_neg qi]at q7 ⊢;obtain⟨A,V,w7⟩:=q7;exact again V I7 w7
   | true=>
     rw[if_pos rfl]at q7 ⊢;refine un (az (he _ _ _ _ _ _ s7 w H7 _ I7 q7) λy s8 j=>?_);obtain⟨v,H8,I8,r8,q8⟩:=j;obtain⟨xs,e8,z8,A,V,w8⟩:=q8;refine un (az (z3 _ s8 w H8 (.ref L) [v] (.ref L) [y] (λ_ H9=>H9=upd H8 L (.lst (xs++[v]))) I8 rfl (.cons r8 .nil) ⟨L,xs,v,rfl,rfl,e8,z8,rfl⟩) λ_ s9 j=>?_);obtain⟨_,H9,I9,_,q9⟩:=j;subst q9;exact again V I9 w8
 exact codeAny_compStart_list loop (T.self _ _ _ _ _ st4 loop)
def Af(S:gD X.N X.env.scope N src scope)(M:X.calm=true)(l:PI X tg iter wi)(P:∀c C a s H,PG (cv X scope N c C a s H) tg g)(t:∀c C a s H,d5 (cv X scope N c C a s H) ifs ti)(O:∀c C a s H,PE (cv X scope N c C a s H) elt te)(hs:∀x,foldedSetIterable iter X.env x=pure x:=by intro _;rfl):PE X (.ListComp elt [⟨tg,iter,ifs,0⟩] scope pos) (Ad wi src g ti te):=by
 intro w s σ H Q I h;refine wpAny_comprehension_free rfl hs (K1 λy K F=>I.ok.has y.1 (S.fr y K F)) S.kind S.names (az (l _ s σ H _ I h) λv Y r=>az r λU W j=>?_);obtain⟨V,a,Z,J,H2,e,u,T,i,G,q⟩:=j;subst e
 exact K5 S M P t O u T i G q λD C s' R m B p E k d n f z=>⟨m,p,λh' L=>⟨.ref D,R,B.turned (λb o A e=>(L.2 b A).trans e) E k (.inr d) n f,rfl,z⟩⟩
theorem Ag{M c:Pos}(S:gD X.N X.env.scope N src scope)(hc:X.calm=true)(u:PI X tg iter wi)(Z:∀f C d s H,PG (cv X scope N f C d s H) tg g)(hi:∀f C d s H,d5 (cv X scope N f C d s H) ifs ti)(Q:∀f C d s H,PE (cv X scope N f C d s H) elt te)(O:X.N.Nodup)(F:X.N[i]?=some y)(V:c9 X.env.scope y)(p:swapsWith (.ListComp elt [⟨tg,iter,ifs,0⟩] scope pos) (some (.Name y M)) c.line X.env=pure true)(G:X.fn y=true\/X.env.scope.names.lookup y=some .local:=by trivial)(hs:∀x,foldedSetIterable iter X.env x=pure x:=by intro _;rfl):PS X (.Assign [.Name y M] (.ListComp elt [⟨tg,iter,ifs,0⟩] scope pos) c) (fT (Ad wi src g ti te) (lH i)):=by
 intro w s A H D I h;rw[exec_Assign_Name_used _ _ _ _ p];refine wa (wpAny_standAt (wa (wa (w4 (wpAny_comprehension_free rfl hs (K1 λy F G=>I.ok.has y.1 (S.fr y F G)) S.kind S.names (az (u _ s A H _ I h) λv s1 h1=>az h1 λitv s2 B=>?_)) (λ_ s' n=>wc (wc n)) λ_ _ e=>e))));obtain⟨it,d,tn,J,H2,e,I2,T,r,U,q⟩:=B;subst e;refine K5 (Q:=λx H1=>lH i x A H1 _) S hc Z hi Q I2 T r U q λDd C s' H' m Y hm P z j k E n=>wpAny_assign_Name (Ka Y O F V (v:=.ref Dd) rfl (λs'' t K=>?_) G);obtain⟨a,W,ha⟩:=K
 have L:C≠a:=by
  grind
 exact⟨m,hm.sameBut W L,λh' l=>⟨_,H',t.turned (λb o R e=>(l.2 b R).trans e) P z (.inr j) k E,n⟩⟩
end
end L2
namespace M
variable {prog:P7}{fp wr:List Addr}{K:W7}{X:Cx}{es rest ifs elts:AK}{fa fk fz f2 fo:AU}{pos pos' p2 pos2 px dpos p3 pos3 pos4 apos p1 cpos:Pos}{pins:AB}{gl:AV}{st:Stmt}{sts:List Stmt}{tg elt iter ie ke f':Expr}{scope:Scope}{mg:AD}{base:Heap}{x1:Nat}
open PySem PySem.Spec PyProof.Rows L2
def cn(xs:Array Nat):Prop:=xs.toList.Pairwise (·<·)
theorem Ah(f:cn xs)(j:Nat):∀(a lo b:Nat),lo<=b->b<=xs.size->b-lo<=a->
 (∀(i:Nat) (h:i<xs.size),i<lo->xs[i]<j)->(∀(i:Nat) (h:i<xs.size),b<=i->j<=xs[i])->
 SetTable.below.go xs j a lo b<=xs.size/\(∀(i:Nat) (h:i<xs.size),i<SetTable.below.go xs j a lo b->xs[i]<j)/\(∀(i:Nat) (h:i<xs.size),SetTable.below.go xs j a lo b<=i->j<=xs[i])
 | 0,lo,b,p,l,t,g,n=>by
   rw[SetTable.below.go];grind
 | a+1,lo,b,p,l,t,g,n=>by
   have m:∀(i k:Nat) (b:i<xs.size) (s:k<xs.size),i<k->xs[i]<xs[k]:=λi k b s h=>by
    have:=List.pairwise_iff_getElem.mp f i k (by ext) (by ext) h
    ext
   rw[SetTable.below.go];by_cases r:lo<b
   .rw[if_pos r]
    have u:(lo+b)/2<xs.size:=by lia
    have q:xs.getD ((lo+b)/2) j=xs[(lo+b)/2]:=by ext
    dsimp only;rw[q];by_cases c:xs[(lo+b)/2]<j
    .rw[if_pos c]
     refine Ah f j a _ _ (by lia) l (by ext<;>lia) (λi d o=>?_) n;by_cases e:i=(lo+b)/2
     .simp_all
     grind
    .rw[if_neg c]
     refine Ah f j a _ _ (by lia) (by lia) (by ext<;>lia) g (λi d o=>?_);by_cases e:i=(lo+b)/2
     .subst e;ext
     grind
   grind
theorem K6(l:cn xs)(j:Nat):SetTable.below xs j<=xs.size/\(∀a∈xs.toList.take (SetTable.below xs j),a<j)/\(∀a∈xs.toList.drop (SetTable.below xs j),j<=a):=by
 obtain⟨k,f,g⟩:=Ah l j xs.size 0 _ (Qh _) (qv _) ∅ (λi _ h=>absurd h (Nat.not_lt_zero _)) (λi h n=>absurd h ∅);have e:SetTable.below xs j=SetTable.below.go xs j _ 0 _:=rfl;refine⟨k,λa b=>?_,λa b=>?_⟩
 .obtain⟨i,d,rfl⟩:=List.mem_iff_getElem.mp b
  rw[List.length_take]at d
  have c:i<xs.size:=by ext<;>ac_nf
  rw[List.getElem_take];exact f i c (by ext)
 .obtain⟨i,d,rfl⟩:=List.mem_iff_getElem.mp b
  rw[List.length_drop]at d
  have m:xs.toList.length=xs.size:=by simp
  rw[List.getElem_drop];exact g _ (by ext<;>ac_nf) (by ext)
def K7(xs:Array a)(p:Nat)(x:a):(SetTable.insertAt xs p x).toList=xs.toList.take p++x::xs.toList.drop p:=by
 unfold SetTable.insertAt;simp[Array.toList_extract];exact List.take_of_length_le nofun
theorem RT(d:cn xs)(j:Nat)(e:xs[SetTable.below xs j]?≠some j):cn (SetTable.insertAt xs (SetTable.below xs j) j):=by
 obtain⟨n,k,f⟩:=K6 d j;unfold cn at d ⊢;rw[K7];generalize q:SetTable.below xs j=p at n k f e ⊢;rw[<-Array.getElem?_toList]at e;generalize xs.toList=l at d k f e ⊢;rw[<-List.take_append_drop p l,List.pairwise_append]at d;obtain⟨o,h,s⟩:=d
 have m:∀a∈l.drop p,j<a:=by
  cases i:l.drop p with
  | nil=>grind
  | cons b r=>
    rw[i]at h f
    have t:l[p]?=some b:=by
     have:(l.drop p)[0]?=some b:=by rw[i];rfl
     grind
    have c:=Nat.lt_of_le_of_ne (f b qh) (λz=>e (by rw[t,z]));intro a g;rcases qu g with rfl|g
    .exact c
    .exact Nat.lt_trans c ((List.pairwise_cons.mp h).1 a g)
 rw[List.pairwise_append]
 ext
theorem RU{t:SetTable}(h:∀i,t.slot j≠.live i):t.place[SetTable.below t.place j]?≠some j:=λz=>by
 refine h (SetTable.below t.place j) ?_;unfold SetTable.slot
 ext
theorem Ai:∀(a:Nat) (p:SetTable.Probe) {j:Nat}{d:AL},(∀x,p.dummy=some x->∀i,t.slot x≠.live i)->
 SetTable.probe.go t g h a p=some (.empty j d)->∀i,t.slot (d.getD j)≠.live i
 | 0,p,j,d,_,e=>by cases e
 | a+1,p,j,d,f,e=>by
   rw[SetTable.probe.go]at e
   split at e
   .cases k:p.dummy with
    | none=>grind
    | some x=>grind
   .refine Ai a _ (λx b i=>?_) e
    have c:x=p.j:=by
     unfold SetTable.advance at b;grind
    grind
   .split at e
    .cases e
    .refine Ai a _ (λx b i=>f x ?_ i) e
     unfold SetTable.advance at b;grind
def Tab(a:Bool)(t:SetTable):Prop:=(a=false->t.led=true)/\(t.plain=true->cn t.place)
def Tab.standIn(h:Tab a t)(n:Nat):Tab a (t.standIn n):=⟨h.1,λz=>nomatch z⟩
def Tab.off(h:Tab a t):Tab a {t with plain:=false}:=⟨h.1,λz=>nomatch z⟩
def Tab.fresh:Tab a (.fresh 0 0 (!a)):=⟨λh=>by subst h;rfl,λ_=>.nil⟩
def Tab.layNew(h:Tab g t)(i:Array (Int×Value))(e:Int)(x:Value):Tab g (PySem.layNew t i e x).2.1:=by
 unfold PySem.layNew
 split
 .rename_i b l c
  dsimp only;unfold SetTable.orStandIn
  split
  .refine⟨h.1,λz=>RT (h.2 z) b (RU ?_)⟩
   unfold SetTable.freeSlot at c
   split at c
   .rename_i j d k
    cases c;exact Ai _ _ (λx f=>by simp[SetTable.probeStart]at f) k
   .cases c
  .exact⟨h.1,λz=>nomatch z⟩
 .exact h.standIn _
theorem Aj{led plain:Bool}(h:SetTable.laid mask finger moves led plain hs=some (t,o)):cn t.place/\t.led=led/\t.plain=plain:=by
 obtain⟨f,_,h⟩:=qa h;cases h;refine⟨?_,rfl,rfl⟩;rw[List.map_filterMap];refine .filterMap _ (λa b c x e y d=>?_) List.pairwise_lt_range
 ext
def Tab.relayAll(h:Tab c t)(f:Array (Int×Value))(n:Nat):Tab c (PySem.relayAll t f n).2.1:=by
 unfold PySem.relayAll
 split
 .rename_i j b e
  obtain⟨g,d,i⟩:=Aj e;dsimp only
  split
  .exact⟨λz=>by rw[d];exact h.1 z,λ_=>g⟩
  .exact h.standIn _
 .exact h.standIn _
section
variable {w:World}{A:Around}{E:AA}{s:Shared}
noncomputable def cK(e:Int×Value):Int:=match e.2 with
 | .int n _=>n
 | _=>0
noncomputable abbrev er(w:World):Bool:=w.params.followText "set-order"
def SetI(prog:P7)(w:World)(h:Heap)(a:Addr)(ns:AF):Prop:=
 ∃o b c t,h.get? a=some o/\o.ExactSet/\o.data=.set b c t/\ElemsOf (intKind prog w) b.toList/\b.toList.map cK=ns/\ns.Nodup/\b.size<scanBound/\t.fits b.size=true/\Tab (er w) t
def Ak(h:(intKind prog w).is k e.2=true):cK e=k:=by
 obtain⟨t,a⟩:=Value.isInt_shape h;unfold cK;rw[a]
def lN(h:ElemsOf (intKind prog w) d)(b:e∈d):∃t,e=(hashInt (cK e),.int (cK e) t):=by
 obtain⟨⟨k,a,c⟩,_⟩:=h e b;obtain⟨t,f⟩:=Value.isInt_shape a;refine⟨t,?_⟩;rw[Ak a];exact Prod.ext c f
def SetI.at(x:SetI prog w h a ns)(e:∀o,h.get? a=some o->f.get? a=some o):SetI prog w f a ns:=
 let ⟨o,c,d,t,b,r⟩:=x
 ⟨o,c,d,t,e o b,r⟩
theorem SetI.len(x:SetI prog w h a ns):ns.length<scanBound:=by
 obtain⟨o,g,i,t,f,b,j,d,e,c,k,_⟩:=x;grind
def jS{h:Heap}(d:h.get? a=some o)(c:o.data=.set f e t)(b:Array (Int×Value))(t':SetTable):
 (h.update a (Obj.putSet b t')).get? a=some {o with data:=.set b (e+1) t' }:=by
 have:=wy (.putSet b t') d (by rw[putSet_of b t' c];rfl)
 rwa [putSet_of b t' c]at this
theorem K8{g:Bool->Sem Unit}(N:∀(b:Bool) (i:Shared) (F:Unit->Shared->Prop),F () i->wpAny (mZ prog w) A (g b) F E i)(G:s.heap.get? a=some o)(n:o.ExactSet)(H:o.data=.set P O t)(f:ElemsOf (intKind prog w) c.toList)(k:(c.toList.map cK).Perm J)(u:J.Nodup)(p:c.size<scanBound)(D:d.fits c.size=true)(v:Tab (er w) d)(h:∀Q x,Heap.SameBut a s.heap Q->SetI prog w Q a x->x.Perm J->R (some true) {s with heap:=Q}):
  wpAny (mZ prog w) A (do
   storeSet a c d
   if (!m&&d.tooFull)=true then do
       g (relayAll d c (SetTable.grown c.size)).2.2
       storeSet a (relayAll d c (SetTable.grown c.size)).1 (relayAll d c (SetTable.grown c.size)).2.1
       pure (some true)
    else pure (some true)) R E s:=by
  refine wa (wpAny_storeSet_of G H ?_ (fits_of_scanBound p));have l:=jS G H c d;have j:=ww s.heap a (.putSet c d)
  split
  .have B:=relayAll_perm d c (SetTable.grown c.size)
   have q:=relayAll_fits d c (SetTable.grown c.size);have z:=v.relayAll c (SetTable.grown c.size);generalize M:relayAll d c _=L at B q z ⊢;obtain⟨e,I,C⟩:=L
   have K:e.size=c.size:=by rw[<-qj,B.length_eq,qj]
   have r:e.size<scanBound:=by ext
   have y:=(B.map cK).trans k;exact wa (N _ _ _ (wa (wpAny_storeSet_of l rfl (wc (h _ _ (j.trans (.update _ a _)) ⟨_,e,_,I,jS l rfl e I,n,rfl,f.perm B,rfl,y.nodup_iff.mpr u,r,q,z⟩ y)) (fits_of_scanBound r))))
  .exact wc (h _ _ j ⟨_,c,_,d,l,n,rfl,f,rfl,k.nodup_iff.mpr u,p,D,v⟩ k)
theorem K9(hS:SetI prog w s.heap a ns)(R:ns.length+1<scanBound)(h:∀h' f,Heap.SameBut a s.heap h'->SetI prog w h' a f->f.Perm (if k∈ns then ns else ns++[k])->Q (!decide (k∈ns)) {s with heap:=h' }):
 wpAny (mZ prog w) A (setAddHashed a (.int k u) (hashInt k)) Q E s:=by
 have U:=hS;obtain⟨o,D,ep,t,M,H,K,l,y,hnd,hb,hf,ht⟩:=hS;have p:(intKind prog w).is k (.int k u)=true:=intKind_is _ _ _ _;have C:(Value.int k u).scannable=true:=rfl
 have hsz:D.size=ns.length:=by grind
 unfold setAddHashed setAddHashedIn;refine we (wa (wj M K hf ?_));dsimp only;rw[byScan_of C hb l];simp only[↓reduceIte];unfold setAddByScan;refine wa ?_;refine wa (wpAny_rule ?_);refine wa (wpAny_setScan_of (knd:=intKind prog w) (k:=k) p M K hf l ?_)
 cases hr:List.findIdx? (λe=>(intKind prog w).is k e.2) D.toList with
 | some j=>
   dsimp only;obtain⟨hj,O,_⟩:=List.findIdx?_eq_some_iff_getElem.mp hr
   have J:k∈ns:=by
    rw[<-y,<-Ak O];grind
   refine wc (wc ?_);have:=h s.heap ns (Heap.SameBut.refl a s.heap) U (by grind)
   ext
 | none=>
   dsimp only
   have J:k∉ns:=λJ=>by
    rw[<-y]at J;obtain⟨e,Z,T⟩:=qy J;have h1:=List.findIdx?_eq_none_iff.mp hr e Z;obtain⟨t',V⟩:=lN l Z;rw[V,T]at h1;have h2:(intKind prog w).is k (.int k t')=true:=intKind_is _ _ _ _;grind
   have S:∀(b:Bool) {i:Shared}{G:Unit->Shared->Prop},G () i->wpAny (mZ prog w) A (match b with|true=>rule "set.scan.the-table-gave-way" | false=>pure ()) G E i:=
    λb i G m=>by cases b<;>first|exact wc m|exact wpAny_rule m
   have c:=layNew_perm t D (hashInt k) (.int k u);have d:=layNew_fits t D (hashInt k) (.int k u);have g:=ht.layNew D (hashInt k) (.int k u);generalize hL:layNew t D (hashInt k) (.int k u)=L at c d g ⊢;obtain⟨z,t1,F,Y⟩:=L;dsimp only at c d g ⊢;rw[Array.toList_push]at c;have n:ElemsOf (intKind prog w) z.toList:=(l.push (knd:=intKind prog w) (k:=k) p C).perm c
   have r:z.size<scanBound:=by rw[<-qj,c.length_eq,qz,qj];simp;ext
   have I:(z.toList.map cK).Perm (ns++[k]):=by
    have:=c.map cK;rw[wu,y]at this;exact this
   have q:(ns++[k]).Nodup:=by
    grind
   have v:∀h' f,Heap.SameBut a s.heap h'->SetI prog w h' a f->f.Perm (ns++[k])->Q true {s with heap:=h' }:=by
    grind
   refine wa (S _ ?_)
   split
   .refine wa ?_
    rw[hashByValue_scannable 8 C];refine wc ?_;refine K8 ?_ M H K n I q r ?_ ?_ ?_
    .intro b i G m;cases b<;>first|exact wc m|exact wpAny_rule m
    .split
     .exact d
     .exact SetTable.fits_plain_off d
    .split
     .exact g
     .exact g.off
    .intro h' f B x N;dsimp only;exact wc (v h' f B x N)
   .refine wa (wc ?_)
    simp only[↓reduceIte];refine K8 ?_ M H K n I q r d g ?_
    .intro b i G m;cases b<;>first|exact wc m|exact wpAny_rule m
    .intro h' f B x N;dsimp only;exact wc (v h' f B x N)
end
noncomputable def aR:AF->AF->AF
 | a,[]=>a
 | a,k::r=>aR (if k∈a then a else a++[k]) r
theorem K_:∀(r a b:AF),a.Perm b->(aR a r).Perm (aR b r)
 | [],_,_,h=>h
 | k::r,a,b,h=>by
   refine K_ r _ _ ?_;symm
section
variable {w:World}{A:Around}{R:Result->Shared->Prop}{I:Addr}{G:Array GenState->Array GenState->Prop}{n:Nat}{P:Nat->Value->Prop}{St:Nat->Shared->Prop}
theorem La(W:WalksS prog w A.in1 I fp wr G n P St)(S:Addr)(y:S∉fp)(g:AF)(Y:g.length=n)(B:∀i v,P i v->∃t,v=.int (g.getD i 0) t)(Z:n+1<scanBound):
 ∀(k i:Nat) (s:Shared) (ns:AF),n-i=k->i<=n->St i s->ns.length<=i->SetI prog w s.heap S ns->
  (∀s' a,Moved (S::wr) G s s'->SetI prog w s'.heap S a->a.Perm (aR ns (g.drop i))->R (.ok (.ret .none)) s')->
  codeAny (mZ prog w) A (.builtin "set.update.loop" ⟨[.ref S,.ref I],[]⟩) R s:=by
 have u:S∉wr:=λh=>y (W.sub _ h);have c:∀b∈wr,b∈S::wr:=λb Z=>qg _ Z;intro k
 induction k with
 | zero=>
   intro i s ns X V f T D K
   have L:i=n:=by lia
   subst L;refine wz F.entry_set_update_loop ?_;refine wa (W.done s _ _ f λs' j=>?_);show wpAny _ A.in1 (ret Value.none) _ _ s';refine wc (K s' ns (j.mono c) (D.at λo e=>j.heap S _ u e) ?_);rw[List.drop_of_length_le (by lia),aR]
 | succ k U=>
   intro i s ns X V f T D K
   have z:i<n:=by lia
   refine wz F.entry_set_update_loop ?_;refine wa (W.item i s _ _ z f λv s' O p j=>?_);obtain⟨t,rfl⟩:=B i v O;have E:SetI prog w s'.heap S ns:=D.at λo e=>j.heap S _ u e;generalize Q:g.getD i 0=x
   have d:g.drop i=x::g.drop (i+1):=by
    rw[List.drop_eq_getElem_cons (by ext),<-Q,List.getD_eq_getElem?_getD,qr (by ext)];rfl
   refine wa (we ?_);unfold setAdd;refine we ?_;refine wa ((intKind prog w).pyHash (k:=x) (intKind_is _ _ _ _) ?_);refine K9 (s:={ s' with toks:=s'.toks+1}) E (by lia) λh' a C M N=>?_
   have J:a.length<=i+1:=by
    rw[N.length_eq];grind
   refine wc ⟨jc F.plain_set_update_loop _,U (i+1) _ a (by ext<;>lia) z (W.frame _ s' _ _ p (Nat.le_succ _) λb Z o e=>?_) J M λH m q r l=>?_⟩
   .rw[C.2 b (λh:b=S=>y (by grind))];exact e
   .refine K H m (Moved.trans W.gtrans ((j.mono c).then_heap (Nat.le_succ _) λb o Z e=>?_) q) r ?_
    .rw[C.2 b (λh:b=S=>Z (by grind))];exact e
    .rw[d,aR]
     exact l.trans (K_ _ _ _ N)
end
section
variable {w:World}{A:Around}{E:AA}{s:Shared}
def RV:isSubtype (.type "tuple") (.type "set")=pure false:=by kernel_rfl
def RX:isSubtype (.type "tuple") (.type "frozenset")=pure false:=by kernel_rfl
theorem Lb(k:TypeCalled T l h)(G:checkTypeCall T ⟨g,[]⟩=pure ())(j:entryFor table h=some H)(o:codeAny (mZ prog w) A.in1 (.call (.builtin l) ⟨.type T::g,[]⟩) (wants Q₁ E) s)(m:∀d b,Q₁ d b->b.TypeIs d T/\(∀(K:Around) (L:AA) (z:Unit->Shared->Prop),z () b->wpAny (mZ prog w) K (checkBuiltinCall h ⟨d::g,[]⟩) z L b)/\
  wpAny (mZ prog w) A.in1.in1 (H ⟨d::g,[]⟩)
   (λv s'=>match v with|.done f=>wants (λr a=>r=.none/\Q d a) E (.ok f) s'|.again C=>C.quiet=true/\codeAny (mZ prog w) A.in1 C (wants (λr a=>r=.none/\Q d a) E) s')
   (λe s'=>wants (λr a=>r=.none/\Q d a) E (.error e) s') b):
 wpAny (mZ prog w) A (call (.type T) g) Q E s:=by
 obtain⟨c,P,B⟩:=k.mro;have t:=k.made;have D:=k.sub;refine wpAny_call (codeAny_of_tree ?_);refine wc ⟨Code.quiet_builtin _ (by decide +kernel),wz F.entry_type_call ?_⟩;have R:=k.notType;have O:=k.canCreate
 repeat (any_goals (first|assumption|wp_step))
 refine codeAny_mono o λr b u=>?_
 cases r with
 | error e=>exact u
 | ok q=>
   cases q with
   | ret d=>
     obtain⟨N,y,x⟩:=m _ _ u;have I:=k.init.lookup;have J:=k.init.bind d
     repeat (any_goals (first|assumption|wp_step))
     refine codeAny_mono (codeAny_call_builtin k.init.plain j (y _ _ _ x)) λp a i=>?_
     cases p with
     | error e=>exact i
     | ok n=>
       cases n with
       | ret r=>
         obtain⟨rfl,M⟩:=i
         repeat (any_goals (first|assumption|wp_step))
       | _=>ext
   | _=>exact u.elim
abbrev cL(w:World):Obj:={cls:=.type "set",dict:=none,data:=.set #[] 0 (.fresh 0 0 (!er w))}
def Lc(a:Value)(h:Q₁ (.ref (~~~s)) {s with heap:=s.heap.push (cL w)}):
 codeAny (mZ prog w) A (.call (.builtin "set.__new__") ⟨[.type "set",a],[]⟩) (wants Q₁ E) s:=by
 refine codeAny_of_tree (wa (wpAny_of_eq (F.newCall_set_1 a) (wc ⟨jc F.plain_set_new _,wz F.entry_set_new ?_⟩)));have b:=sub_set_self
 wp_walk
 refine wpAny_askSetting (wc ?_);refine wa (wpAny_alloc (wc ?_));exact wc h
theorem RY{l:Addr}{a:Array Value}{u:AF}{Q:AA}(Y:A.handled=none)(X:s.heap.IsList l a)(O:IntsAre a.toList u)(hb:a.size+1<scanBound)(h:∀(h':Heap) (tk:Nat) ns,SetI prog w h' (~~~s) ns->ns.Perm (aR [] u)->
  (∀b o,b< ~~~s->s.heap.get? b=some o->h'.get? b=some o)->Q (.ref (~~~s)) {s with heap:=h',toks:=tk}):
 wpAny (mZ prog w) A (call (.type "set") [.ref l]) Q E s:=by
 refine Lb (Q₁:=λg d=>g=.ref (~~~s)/\d={s with heap:=s.heap.push (cL w)}) F.called_set (F.typeCall_set_1 _) F.entry_set_init (Lc _ ⟨rfl,rfl⟩) ?_;rintro g d ⟨rfl,rfl⟩;have M:(s.heap.push (cL w)).get? (~~~s)=some (cL w):=qp _ rfl
 have R:Shared.TypeIs {s with heap:=s.heap.push (cL w)} (.ref (~~~s)) "set":=⟨_,M,rfl⟩
 refine⟨R,λA' E' Q' Z=>check_set_init_1 R Z,?_⟩;obtain⟨U,m,k,T,r⟩:=X;obtain⟨P,f,C,c⟩:=U;simp only at k r;subst k;subst r;have q:(s.heap.push (cL w)).get? l=some {cls:=.type "list",dict:=f,data:=.seq a T,slots:=c}:=qe _ m;have N:=F.sub_list_set;have S:=F.sub_list_frozenset
 have hne:(Value.type "list"==Value.type "dict")=false:=by decide
 have y:(s.heap.push (cL w)).IsList l a:=⟨_,q,rfl,T,rfl⟩
 unfold Builtin.«set.__init__» noKeywords Builtin.Frozenset.updateFrom;generalize G:pyIter=PI
 wp_walk
 subst G;refine wpAny_pyIter_list y ?_;refine wa (wpAny_runValue ?_);have W:l< ~~~s:=ql m
 have D:A.in1.in1.in1.handled=none:=by simp[Y]
 have p:l≠(s.heap.push (cL w)).objs.size:=by
  rw[wx];grind
 have J:(~~~s)∉[(s.heap.push (cL w)).objs.size,l]:=by
  rw[wx];grind
 have x:u.length=a.size:=by have:=IntsAre.length O;grind
 have n:∀(i:Nat) (v:Value),a[i]?=some v->∃t,v=.int (u.getD i 0) t:=λi v hv=>
  IntsAre.int_at O i v (by grind)
 refine La ((Walks.list D _ l p a).toS) (~~~s) J u x n hb (a.size-0) 0 _ [] (by lia) (Qh _)
  ⟨⟨_,qp _ rfl,rfl,rfl⟩,y.push _⟩ (qv _) ?hS0 ?hR
 case hS0=>
  have j:((s.heap.push (cL w)).push {cls:=.type "list_iterator",data:=.fields #[.ref l,.int 0 0]}).get? (~~~s)=some (cL w):=qe _ M;exact⟨cL w,#[],0,_,j,⟨rfl,rfl,rfl⟩,rfl,λe he=>by simp at he,rfl,.nil,by decide,rfl,.fresh⟩
 case hR=>
  intro s' L z B H;obtain⟨h',g',d',K,I⟩:=s';have eg:g'=s.gens:=z.gens;have ed:d'=s.drawn:=z.drawn;have V:I=s.os:=z.os;subst eg;subst ed;subst V;show wpAny _ _ _ _ _ _;refine wc ?_;show wpAny _ _ (ret Value.none) _ _ _;refine wc ⟨rfl,h h' K L B H λb o hb e=>?_⟩;have hb1:b≠(~~~s):=qm hb
  have hb2:b≠(s.heap.push (cL w)).objs.size:=by
   rw[wx];grind
  exact z.heap b o (by grind) (qe _ (qe _ e))
theorem RZ{l:Addr}{a:Array Value}{p:AF}{Q:AA}(Y:A.handled=none)(X:s.heap.IsTuple l a)(O:IntsAre a.toList p)(hb:a.size+1<scanBound)(h:∀(h':Heap) (tk:Nat) ns,SetI prog w h' (~~~s) ns->ns.Perm (aR [] p)->
  (∀b o,b< ~~~s->s.heap.get? b=some o->h'.get? b=some o)->Q (.ref (~~~s)) {s with heap:=h',toks:=tk}):
 wpAny (mZ prog w) A (call (.type "set") [.ref l]) Q E s:=by
 refine Lb (Q₁:=λj f=>j=.ref (~~~s)/\f={s with heap:=s.heap.push (cL w)}) F.called_set (F.typeCall_set_1 _) F.entry_set_init (Lc _ ⟨rfl,rfl⟩) ?_;rintro j f ⟨rfl,rfl⟩;have N:(s.heap.push (cL w)).get? (~~~s)=some (cL w):=qp _ rfl
 have R:Shared.TypeIs {s with heap:=s.heap.push (cL w)} (.ref (~~~s)) "set":=⟨_,N,rfl⟩
 refine⟨R,λA' E' Q' Z=>check_set_init_1 R Z,?_⟩;obtain⟨U,m,k,G,x⟩:=X;obtain⟨P,g,K,c⟩:=U;simp only at k x;subst k;subst x;have d:(s.heap.push (cL w)).get? l=some {cls:=.type "tuple",dict:=g,data:=.seq a G,slots:=c}:=qe _ m;have S:=RV;have T:=RX
 have hne:(Value.type "tuple"==Value.type "dict")=false:=by decide
 have J:(s.heap.push (cL w)).IsTuple l a:=⟨_,d,rfl,G,rfl⟩
 unfold Builtin.«set.__init__» noKeywords Builtin.Frozenset.updateFrom;generalize C:pyIter=PI
 wp_walk
 subst C;refine wpAny_pyIter_tuple J ?_;refine wa (wpAny_runValue ?_);have W:l< ~~~s:=ql m
 have D:A.in1.in1.in1.handled=none:=by simp[Y]
 have r:l≠(s.heap.push (cL w)).objs.size:=by
  rw[wx];symm
 have L:(~~~s)∉[(s.heap.push (cL w)).objs.size,l]:=by
  rw[wx];symm
 have u:p.length=a.size:=by have:=IntsAre.length O;symm
 have n:∀(i:Nat) (v:Value),a[i]?=some v->∃t,v=.int (p.getD i 0) t:=λi v hv=>
  IntsAre.int_at O i v ⋯
 refine La ((Walks.tuple D _ l r a).toS) (~~~s) L p u n hb (a.size-0) 0 _ [] ∅ (Qh _)
  ⟨⟨_,qp _ rfl,rfl,rfl⟩,(⟨_,qe _ d,rfl,G,rfl⟩)⟩ (qv _) ?hS0 ?hR
 case hS0=>
  have q:((s.heap.push (cL w)).push {cls:=.type "tuple_iterator",data:=.fields #[.ref l,.int 0 0]}).get? (~~~s)=some (cL w):=qe _ N;exact⟨cL w,#[],0,_,q,⟨rfl,rfl,rfl⟩,rfl,λe he=>by simp at he,rfl,.nil,by decide,rfl,.fresh⟩
 case hR=>
  intro s' M y z H;obtain⟨h',g',d',I,B⟩:=s';have eg:g'=s.gens:=y.gens;have ed:d'=s.drawn:=y.drawn;have V:B=s.os:=y.os;subst eg;subst ed;subst V;show wpAny _ _ _ _ _ _;refine wc ?_;show wpAny _ _ (ret Value.none) _ _ _;refine wc ⟨rfl,h h' I M z H λb o hb e=>?_⟩;have hb1:b≠(~~~s):=qm hb
  have hb2:b≠(s.heap.push (cL w)).objs.size:=by
   rw[wx];symm
  exact y.heap b o ⋯ (qe _ (qe _ e))
end
theorem Al{a:Type}{l:List a}(h:i<l.length):(l[i]::l.eraseIdx i).Perm l:=by
 rw[List.eraseIdx_eq_take_drop_succ]
 have e:l=l.take i++l[i]::l.drop (i+1):=by
  ext
 conv=>rhs;rw[e]
 exact List.perm_middle.symm
theorem Ld(c:Nat->Nat):∀(b k:Nat) (a:List e) (f:Array e),a.length=b->(pickOrder.go c b k a f).toList.Perm (f.toList++a)
 | 0,k,a,f,h=>by
   rw[pickOrder.go]
   ext
 | b+1,k,a,f,h=>by
   rw[pickOrder.go];have d:c k%a.length<_:=Nat.mod_lt _ (by ext);rw[qr d];refine(Ld c b _ _ _ (by grind)).trans ?_;rw[Array.toList_push,ja];exact(Al d).append_left _
def Lf(a:Nat->Nat)(xs:Array b):(pickOrder a xs).toList.Perm xs.toList:=by
 have:=Ld a xs.size 0 xs.toList #[] nofun;simpa [pickOrder]using this
section
variable {w:World}{A:Around}{E:AA}
theorem R0(a:0<n)(h:∀i e,i<n->Q i {s with drawn:=e}):wpAny (mZ prog w) A (choose d n) Q E s:=by
 intro c p b;exact⟨by lia,h _ _ (Nat.mod_lt _ a)⟩
theorem Am:∀(n:Nat) (xs:List c) (s:Shared) (Q:List c->Shared->Prop),xs.length=n->(∀ys f,ys.Perm xs->Q ys {s with drawn:=f})->wpAny (mZ prog w) A (drawOrder n xs) Q E s
 | 0,xs,s,Q,h,a=>by
   rw[List.length_eq_zero_iff.mp h]at a ⊢;exact wc (a [] _ .nil)
 | n+1,[],s,Q,h,a=>by simp at h
 | n+1,x::xs,s,Q,h,a=>by
   refine wa (R0 nofun λi f b=>?_);rw[qr b];exact wa (Am n _ _ _ (by grind) λys d e=>wc (a _ d ((e.cons _).trans (Al b))))
end
def nI:Manifest.owners.lookup (String.ofList ['r','o','t','a','r','e','t','i','_','t','e','s'].reverse)=some Manifest.sig_set_iterator:=by kernel_rfl
theorem slot_si_next:Slot "set_iterator" "__next__" "set_iterator.__next__":=
 .of (owner:="set_iterator") (n:="__next__") (by kernel_rfl) (by decide +kernel) (by decide +kernel) (by decide +kernel)
  (by first|exact .inl (by decide +kernel)|exact .inr (by decide +kernel)) (by kernel_rfl)
def tS:entryFor table "set_iterator.__next__"=some Builtin.«set_iterator.__next__»:=entryFor_of_tree (by kernel_rfl)
def tU(a:Value):argsOk "set_iterator.__next__" ⟨[a],[]⟩:=by
 kernel_rfl
theorem Lg:Slot "set_iterator" "__iter__" "set_iterator.__iter__":=
 .of (owner:="set_iterator") (n:="__iter__") (by kernel_rfl) (by decide +kernel) (by decide +kernel) (by decide +kernel)
  (by first|exact .inl (by decide +kernel)|exact .inr (by decide +kernel)) (by kernel_rfl)
def R1(a:Value):argsOk "set_iterator.__iter__" ⟨[a],[]⟩:=by
 kernel_rfl
theorem R3:entryFor table "set_iterator.__iter__"=some Builtin.«dict_keyiterator.__iter__»:=
 entryFor_alias (id':="dict_keyiterator.__iter__") (by kernel_rfl) (by first|rfl|decide +kernel|(unfold String.splitOn)) (by decide +kernel) (by kernel_rfl)
theorem R4:entryFor table "set.__iter__"=some Builtin.«frozenset.__iter__»:=
 entryFor_alias (id':="frozenset.__iter__") (by kernel_rfl) (by first|rfl|decide +kernel|(unfold String.splitOn)) (by decide +kernel) (by kernel_rfl)
def SIt(h:Heap)(I:Addr)(first:Value)(i:Nat)(a:Addr)(n b:Nat):Prop:=∃o,h.get? I=some o/\o.cls=.type "set_iterator"/\o.data=.fields #[first,.int i 0,.ref a,.int n 0,.int b 0]
def SAt(h:Heap)(a:Addr)(b:Array (Int×Value))(c:Nat)(t:SetTable):Prop:=∃o,h.get? a=some o/\o.ExactSet/\o.data=.set b c t/\t.fits b.size=true
def SIt.at(x:SIt h I f i a n c)(e:∀o,h.get? I=some o->d.get? I=some o):SIt d I f i a n c:=let ⟨o,b,r⟩:=x;⟨o,e o b,r⟩
def SAt.at(x:SAt h a c d t)(e:∀o,h.get? a=some o->f.get? a=some o):SAt f a c d t:=let ⟨o,b,r⟩:=x;⟨o,e o b,r⟩
def SIt.typeIs{s:Shared}(x:SIt s.heap I f i a n d):s.TypeIs (.ref I) "set_iterator":=let ⟨o,b,c,_⟩:=x;⟨o,b,c⟩
section
variable {w:World}{A:Around}{E:AA}{s:Shared}
def Lh(b:SIt s.heap I f i a n c)(h:Q (.ref I) s):wpAny (mZ prog w) A (pyIter (.ref I)) Q E s:=wpAny_pyIter_slot b.typeIs Lg (wg Lg b.typeIs R3 (wc ⟨_,rfl,"set_iterator",_,b.typeIs,slot_si_next.lookup,h⟩) (R1 _))
theorem An{m i f nx:Nat}(c:SIt s.heap I (.int m 0) i a n.size f)(q:SAt s.heap a n f t)(y:∀(u:Around) (l:Option (Value×Nat)->Shared->Prop) (z:AA),l (some (x,nx)) s->wpAny (mZ prog w) u (setNext a m i f) l z s)(r:∀C,SIt C I (.int nx 0) (i+1) a n.size f->Heap.SameBut I s.heap C->Q (some x) {s with heap:=C}):wpAny (mZ prog w) A (pyNext (.ref I)) Q E s:=by
 obtain⟨o,k,v,e⟩:=id c;obtain⟨B,g,p,h,j⟩:=q;refine wa (jg (wpAny_callSpecial?_slot c.typeIs slot_si_next (wg slot_si_next c.typeIs tS ?_ (tU _))));show wpAny _ _ (fieldsOf _>>=_) _ _ s;refine wa (wpAny_fieldsOf k e (wa (wpAny_setEntries_of g h j ?_)));rw[if_neg nofun];refine wa (y _ _ _ (wa (wpAny_setField k e nofun ?_)));have d:=wy (.mapFields (·.setIfInBounds 0 (rawInt nx))) k (Obj.isFreed_of_fields (jf e _));have b:=jf e (·.setIfInBounds 0 (rawInt nx))
 exact wa (wpAny_setField d b nofun (wc ⟨x,rfl,wc (r _ (⟨_,wy _ d (Obj.isFreed_of_fields (jf b _)),(Obj.cls_mapFields ..).trans ((Obj.cls_mapFields ..).trans v),by
  rw[jf b];simp[rawInt]⟩) ((ww ..).trans (.update ..)))⟩))
theorem Ao{j i d:Nat}(l:A.handled=none)(b:SIt s.heap I (.int j 0) i a r.size d)(v:SAt s.heap a r d t)(n:∀(q:Around) (g:Option (Value×Nat)->Shared->Prop) (u:AA),g none s->wpAny (mZ prog w) q (setNext a j i d) g u s)(p:∀z,Heap.ExtBut I s.heap z->Q none {s with heap:=z}):wpAny (mZ prog w) A (pyNext (.ref I)) Q E s:=by
 obtain⟨o,m,x,k⟩:=id b;obtain⟨y,c,h,e,f⟩:=v;refine wa (jg (wpAny_callSpecial?_slot b.typeIs slot_si_next (wg slot_si_next b.typeIs tS ?_ (tU _))));show wpAny _ _ (fieldsOf _>>=_) _ _ s;refine wa (wpAny_fieldsOf m k (wa (wpAny_setEntries_of c e f ?_)));rw[if_neg nofun];refine wa (n _ _ _ (wa (wpAny_setField m k nofun (wa (wa (m:=firstArgMember _ _) (wpAny_of_eq (a:=.none) (by first|rfl|(rfl)) (wh (wa (wpAny_handled ?_)) (by size_fits))))))))
 first|rw[l]|rw[l]
 refine wa (wc (wpAny_throw ?_));exact wa (wpAny_isInstance ⟨_,qp _ rfl,rfl⟩ isSubtype_stop (wc (p _ (((ww ..).extBut.push _).push _))))
theorem R5{i j l:Nat}(b:SIt s.heap I (.ref T) i a k.size l)(v:SAt s.heap a k l t)(y:s.heap.IsTuple T F)(x:F[i]?=some (.int j tk))(u:k[j]?=some e)(r:∀D,SIt D I (.ref T) (i+1) a k.size l->Heap.SameBut I s.heap D->Q (some e.2) {s with heap:=D}):wpAny (mZ prog w) A (pyNext (.ref I)) Q E s:=by
 obtain⟨o,n,q,g⟩:=id b;obtain⟨B,c,p,f,d⟩:=v;obtain⟨z,h,_,C,m⟩:=y;refine wa (jg (wpAny_callSpecial?_slot b.typeIs slot_si_next (wg slot_si_next b.typeIs tS ?_ (tU _))));show wpAny _ _ (fieldsOf _>>=_) _ _ s;refine wa (wpAny_fieldsOf n g (wa (wpAny_setEntries_of c f d ?_)));rw[if_neg nofun];refine wa (wpAny_seqItems h m ?_);simp [x];refine wa (wa (wj c f d ?_));dsimp only;rw[if_neg nofun,u]
 exact wc (wa (wpAny_setField n g nofun (wc ⟨e.2,rfl,wc (r _ (⟨_,wy _ n (Obj.isFreed_of_fields (jf g _)),(Obj.cls_mapFields ..).trans q,by
  rw[jf g];simp[rawInt]⟩) (.update ..))⟩)))
theorem Ap(n:A.handled=none)(b:SIt s.heap I (.ref T) i a q.size u)(v:SAt s.heap a q u t)(p:s.heap.IsTuple T F)(x:F[i]?=none)(r:∀D,Heap.ExtBut I s.heap D->Q none {s with heap:=D}):wpAny (mZ prog w) A (pyNext (.ref I)) Q E s:=by
 obtain⟨o,l,C,c⟩:=id b;obtain⟨B,g,m,k,h⟩:=v;obtain⟨y,d,_,z,j⟩:=p;refine wa (jg (wpAny_callSpecial?_slot b.typeIs slot_si_next (wg slot_si_next b.typeIs tS ?_ (tU _))));show wpAny _ _ (fieldsOf _>>=_) _ _ s;refine wa (wpAny_fieldsOf l c ?_);refine wa (wpAny_setEntries_of g k h ?_);rw[if_neg nofun];refine wa (wpAny_seqItems d j ?_);simp [x];refine wa (wpAny_setField l c nofun ?_);have f:=wy (.mapFields (·.setIfInBounds 0 (rawInt 0))) l (Obj.isFreed_of_fields (jf c _));have e:=jf c (·.setIfInBounds 0 (rawInt 0));refine wa (wpAny_setField f e nofun ?_);refine wa ?_;simp [newExc];refine wa (m:=firstArgMember _ _) (wpAny_of_eq (a:=.none) (by first|rfl|(rfl)) ?_);refine wh ?_ (by size_fits);refine wa (wpAny_handled ?_)
 first|rw[n]|rw[n]
 refine wa (wc (wpAny_throw ?_));refine wa (wpAny_isInstance ⟨_,qp _ rfl,rfl⟩ isSubtype_stop ?_);exact wc (r _ ((((ww ..).trans (.update ..)).extBut.push _).push _))
end
section
variable {w:World}{A:Around}{E:AA}{s:Shared}
def jT(h:Q (er w) s):wpAny (mZ prog w) A setsByText Q E s:=wa (wpAny_askSetting (wc h))
def Li(n:er w=true)(j:SAt s.heap a k g t)(h:Q (((pickOrder (w.params.setOrder a g) k)[i]?).map λe=>(e.2,l)) s):wpAny (mZ prog w) A (setNext a l i g) Q E s:=by
 obtain⟨m,c,f,d,b⟩:=j;refine wa (wj c d b (wa (jT ?_)));rw[if_pos n,if_neg nofun];refine wa (wa (wj c d b (wa (jT ?_))));rw[if_pos n];exact wa (wpAny_askSetting (wc (wc h)))
theorem Lj(hb:er w=false)(n:(!t.plain&&decide (f.size > 1))=false)(p:t.led=true)(o:SAt s.heap a f m t)(k:SetTable.below t.place l=i)(h:Q (match f[i]?,t.place[i]? with|some (_,x),some j=>some (x,j+1)|_,_=>none) s):wpAny (mZ prog w) A (setNext a l g m) Q E s:=by
 obtain⟨q,b,e,c,d⟩:=o;refine wa (wj b c d (wa (jT ?_)));rw[if_neg (by rw[hb];exact qi)];show wpAny _ _ (if (_&&_)=true then _ else _) _ _ _;rw[if_neg (by rw[n];exact qi)];show wpAny _ _ ((if _ then _ else _)>>=_) _ _ _;rw[if_neg (by rw[p];simp),k];exact wc h
noncomputable def g9(a:Array Nat):Nat->Nat
 | 0=>0
 | i+1=>a.getD i 0+1
theorem Lk(g:cn q)(m:i<=q.size):SetTable.below q (g9 q i)=i:=by
 obtain⟨n,l,f⟩:=K6 g _;generalize o:SetTable.below q (g9 q i)=p at n l f
 have b:∀(i k:Nat) _ (a:k<q.size),i<k->q[i]<q[k]:=λi k m a h=>by
  have:=List.pairwise_iff_getElem.mp g i k ⋯ ⋯ h;symm
 have r:∀k _,k<p->q[k]<g9 q i:=λk a d=>l _ (by
  rw[List.mem_iff_getElem]
  ext<;>ac_nf)
 have s:∀k _,p<=k->g9 q i<=q[k]:=λk a d=>f _ (by
  rw[List.mem_iff_getElem]
  exact⟨k-p,by simp;symm,by
   ext⟩)
 rcases Nat.lt_trichotomy p i with h|h|h
 .have a:p<q.size:=by ac_nf
  have:=s p a (qv _)
  cases i with
  | zero=>ac_nf
  | succ j=>
    have c:j<q.size:=by ac_nf
    simp only[g9,Array.getD,c,dite_true]at this;by_cases e:p=j
    .subst e;exact absurd this nofun
    .have:=b p j a c ∅
     simp at *;ac_nf
 .exact h
 .have a:i<q.size:=by symm
  have:=r i a h
  cases i with
  | zero=>simp[g9]at this
  | succ j=>
    have c:j<q.size:=by ac_nf
    have t:=b j (j+1) c a ∅;simp only[g9,Array.getD,dite_true]at this;simp at *;ac_nf
def jU(a:AF)(i:Nat)(v:Value):Prop:=∃k t,a[i]?=some k/\v=.int k t
theorem Aq{b:Array (Int×Value)}(a:ElemsOf (intKind prog w) b.toList)(c:e∈b.toList):∃t,e.2=.int (cK e) t:=by
 obtain⟨t,d⟩:=lN a c;grind
theorem Ar(hS:SetI prog w s.heap a ns)(hQ:∀(h':Heap) (d':Drawn) (I:Addr) (fp:List Addr) (f:AF) (St:Nat->Heap->Prop),(∀b o,s.heap.get? b=some o->h'.get? b=some o)->(~~~s)<=I->I∈fp->
  (∀b∈fp,b<h'.objs.size/\(b=a\/(~~~s)<=b))->f.Perm ns->(∀y:Around,y.handled=none->Walks prog w y I fp [I] ns.length (jU f) St)->St 0 h'->
  (∀(i:Nat) (s':Shared),St i s'.heap->s'.TypeIs (.ref I) "set_iterator")->Q (.ref I) {s with heap:=h',drawn:=d' }):
 wpAny (mZ prog w) A (pyIter (.ref a)) Q E s:=by
 obtain⟨o,d,q,t,N,T,X,V,hns,hnd,hb,J,ht⟩:=hS
 have hT:s.TypeIs (.ref a) "set":=⟨o,N,T.1⟩
 have L:ns.length=d.size:=by grind
 have hlt:a< ~~~s:=ql N
 have hsa:SAt s.heap a d q t:=⟨o,N,T,X,J⟩
 have hps:t.place.size=d.size:=by
  simp only[SetTable.fits,Qe,beq_iff_eq]at J;exact J.1
 refine wpAny_pyIter_slot hT F.slot_set_iter (wg F.slot_set_iter hT R4 ?_ (F.args_set_iter_1 _));unfold Builtin.«frozenset.__iter__»;show wpAny _ _ (Builtin.Frozenset.sizeOf a>>=_) _ _ s;unfold Builtin.Frozenset.sizeOf;refine wa (wa (wpAny_setEntries_of N X J (wc ?_)));refine wa ?_;unfold setDrawn;refine wa (wj N X J ?_);dsimp only;refine wa (jT (wc ?_))
 have plain:∀(f:AF) (st:Nat->Nat) (xv:Nat->Value),f.Perm ns->st 0=0->(∀i,i<d.size->jU f i (xv i))->
  (∀(s':Shared) (y:Around) (i:Nat) (n:AA),SAt s'.heap a d q t->i<d.size->∀l:Option (Value×Nat)->Shared->Prop,l (some (xv i,st (i+1))) s'->wpAny (mZ prog w) y (setNext a (st i) i q) l n s')->
  (∀(s':Shared) (y:Around) (n:AA),SAt s'.heap a d q t->∀l:Option (Value×Nat)->Shared->Prop,l none s'->wpAny (mZ prog w) y (setNext a (st d.size) d.size q) l n s')->
  wpAny (mZ prog w) A.in1 (do
   let x <-newFields "set_iterator" [rawInt 0,rawInt 0,.ref a,rawInt d.size,rawInt (<-setEpoch a)]
   ret x) (λO s'=>∃v,O=.done (.ret v)/\∃T' r,s'.TypeIs v T'/\typeLookup (.type T') "__next__"=pure (some r)/\Q v s') E s:=by
  intro f st xv hp h0 hx p hn;refine wa (wpAny_setEpoch_of N X J ?_);refine wa (wh ?_);refine wc ⟨_,rfl,"set_iterator",_,⟨_,qp _ rfl,rfl⟩,slot_si_next.lookup,?_⟩
  have key:=hQ (s.heap.push {cls:=.type "set_iterator",data:=.fields #[rawInt 0,rawInt 0,.ref a,rawInt d.size,rawInt q]}) s.drawn (~~~s) [~~~s,a] f
   (λi h=>SIt h (~~~s) (.int (st i) 0) i a d.size q/\SAt h a d q t) (λb o e=>qe _ e) (qv _) nofun (λb hb=>by
    rw[wx]
    grind) hp (λy U=>{
    sub:=λb hb=>by grind
    frame:=λi h h' c Y=>⟨c.1.at λo e=>Y _ nofun o e,c.2.at λo e=>Y a nofun o e⟩
    item:=λi s' l n hlt' c g=>by
     refine An c.1 c.2 (x:=xv i) (nx:=st (i+1)) (λA2 Q2 E2 G=>p s' A2 i E2 c.2 (by ext) Q2 G) λh' D m=>?_;exact g _ h' s'.toks (hx i (by ext)) ⟨D,c.2.at λo e=>m.extBut a o (λz=>by grind) e⟩ λb o hb e=>m.extBut b o (λz=>hb (by simp[z])) e
    done:=λs' l n c g=>by
     rw[L]at c;exact Ao U c.1 c.2 (λA2 Q2 E2 G=>hn s' A2 E2 c.2 Q2 G) λh' R=>g h' s'.toks λb o hb e=>R b o (λz=>hb (by simp[z])) e
    self:=λi s' l n c g=>Lh c.1 g}) ⟨⟨_,qp _ rfl,rfl,by rw[h0];rfl⟩,hsa.at λo e=>qe _ e⟩ (λi s' c=>c.1.typeIs)
  exact key
 have hdr:∀b:Bool,(!t.plain&&decide (d.size > 1))=b->wpAny (mZ prog w) A.in1 (if (!er w&&b)=true then do
  let first <-newTuple ((<-drawOrder d.size (List.range d.size)).map fun(i:Nat)=>rawInt i)
  let x <-newFields "set_iterator" [first,rawInt 0,.ref a,rawInt d.size,rawInt (<-setEpoch a)]
  ret x
  else do
   let x <-newFields "set_iterator" [rawInt 0,rawInt 0,.ref a,rawInt d.size,rawInt (<-setEpoch a)]
   ret x) (λO s'=>∃v,O=.done (.ret v)/\∃T' r,s'.TypeIs v T'/\typeLookup (.type T') "__next__"=pure (some r)/\Q v s') E s:=by
  intro b P
  cases C:er w with
  | true=>
    rw[if_neg nofun];generalize hor:pickOrder (w.params.setOrder a q) d=k
    have hpm:k.toList.Perm d.toList:=by rw[<-hor];exact Lf _ _
    have hos:k.size=d.size:=by
     have:=hpm.length_eq;grind
    refine plain (k.toList.map cK) (λ_=>0) (λi=>(k.getD i (0,.none)).2) (by grind) rfl (λi p=>?_) (λs' y i n M p l G=>?_) (λs' y n M l G=>?_)
    .have Z:i<k.size:=by ext
     obtain⟨u,hu⟩:=Aq V (hpm.mem_iff.mp (show k[i]∈k.toList by simp));refine⟨cK k[i],u,by simp[Z],?_⟩
     ext
    .have Z:i<k.size:=by ext
     refine Li C M ?_
     ext
    .refine Li C M ?_
     ext
  | false=>
    have K:=ht.1 C
    cases b with
    | false=>
      rw[if_neg nofun]
      have B:cn t.place:=by
       cases hpl:t.plain with
       | true=>exact ht.2 hpl
       | false=>
         rw[hpl]at P
         have h1:t.place.toList.length<=1:=by
          ext
         unfold cn
         match t.place.toList,h1 with
         | [],_=>exact .nil
         | [x],_=>simp
      refine plain ns (g9 t.place) (λi=>(d.getD i (0,.none)).2) .rfl rfl (λi p=>?_) (λs' y i n M p l G=>?_) (λs' y n M l G=>?_)
      .obtain⟨u,hu⟩:=Aq V (show d[i]∈d.toList by simp)
       refine⟨cK d[i],u,by grind,?_⟩
       ext
      .refine Lj C P K M (Lk B (by lia)) ?_
       have hi2:i<t.place.size:=by ext
       rw[Array.getElem?_eq_getElem p,Array.getElem?_eq_getElem hi2];simp only[Array.getD,p,hi2,dite_true,g9]at G;exact G
      .refine Lj C P K M (Lk B (by ext)) ?_
       ext
    | true=>
      rw[if_pos nofun];refine wa (Am d.size (List.range d.size) s _ nofun λys d' hp=>?_);simp only[newTuple]
      have hyl:ys.length=d.size:=by rw[hp.length_eq];simp
      refine wa (wh ?_ (by show(ys.map fun(i:Nat)=>rawInt i).toArray.size<=sizeLine;rw[qk,qf,hyl];exact fits_of_scanBound hb));have S:((s.heap.push {cls:=.type "tuple",data:=.seq (ys.map fun(i:Nat)=>rawInt i).toArray})).get? a=some o:=qe _ N;refine wa (wpAny_setEpoch_of (s:={s with heap:=s.heap.push {cls:=.type "tuple",data:=.seq (ys.map fun(i:Nat)=>rawInt i).toArray},drawn:=d' }) S X J ?_);refine wa (wh ?_);refine wc ⟨_,rfl,"set_iterator",_,⟨_,qp _ rfl,rfl⟩,slot_si_next.lookup,?_⟩
      have hmem:∀j∈ys,j<d.size:=λj hj=>by grind
      have hvp:(ys.map λj=>cK (d.getD j (0,.none))).Perm ns:=by
       rw[<-hns];refine(hp.map _).trans ?_
       have:(List.range d.size).map (λj=>cK (d.getD j (0,.none)))=d.toList.map cK:=by
        refine List.ext_getElem nofun λi h1 h2=>?_
        have p:i<d.size:=by(simp at*;lia)
        simp[Array.getD,p]
       rw[this]
      generalize hH:s.heap.push {cls:=.type "tuple",data:=.seq (ys.map fun(i:Nat)=>rawInt i).toArray}=H at S ⊢
      have hHs:H.objs.size= ~~~s+1:=by rw[<-hH,wx]
      have hT0:H.IsTuple (~~~s) (ys.map fun(i:Nat)=>rawInt i).toArray:=⟨_,by rw[<-hH];exact qp _ rfl,rfl,_,rfl⟩
      have W:∀b o,s.heap.get? b=some o->H.get? b=some o:=λb o e=>by rw[<-hH];exact qe _ e
      have haI:a≠H.objs.size:=λz=>by grind
      have hTI:(~~~s)≠H.objs.size:=by grind
      exact hQ (H.push {cls:=.type "set_iterator",data:=.fields #[.ref (~~~s),rawInt 0,.ref a,rawInt d.size,rawInt q]}) d' H.objs.size [H.objs.size,a,~~~s] (ys.map λj=>cK (d.getD j (0,.none)))
       (λi h=>SIt h H.objs.size (.ref (~~~s)) i a d.size q/\SAt h a d q t/\h.IsTuple (~~~s) (ys.map fun(i:Nat)=>rawInt i).toArray) (λb o e=>qe _ (W b o e)) (by lia) nofun (λb hb=>by
        rw[wx]
        (simp at*;lia)) hvp (λy U=>{
        sub:=λb hb=>by grind
        frame:=λi h h' c Y=>⟨c.1.at λo e=>Y _ nofun o e,c.2.1.at λo e=>Y a nofun o e,c.2.2.at λo e=>Y _ nofun o e⟩
        item:=λi s' l n hlt' c g=>by
         have p:i<ys.length:=by lia
         have hj:=hmem ys[i] (List.getElem_mem p);refine R5 c.1 c.2.1 c.2.2 (j:=ys[i]) (tk:=0) (e:=d[ys[i]]) (by simp[p,rawInt]) (Array.getElem?_eq_getElem hj) λh' D m=>?_;refine g _ h' s'.toks ?_ ⟨D,c.2.1.at λo e=>m.extBut a o haI e,c.2.2.at λo e=>m.extBut _ o hTI e⟩ λb o hb e=>m.extBut b o (λz=>hb (by simp[z])) e;obtain⟨u,hu⟩:=Aq V (show d[ys[i]]∈d.toList by simp);exact⟨cK d[ys[i]],u,by simp[p,Array.getD,hj],hu⟩
        done:=λs' l n c g=>by
         rw[L]at c;exact Ap U c.1 c.2.1 c.2.2 (by simp[hyl]) λh' R=>g h' s'.toks λb o hb e=>R b o (λz=>hb (by simp[z])) e
        self:=λi s' l n c g=>Lh c.1 g}) ⟨⟨_,qp _ rfl,rfl,rfl⟩,⟨o,qe _ S,T,X,J⟩,hT0.push _⟩ (λi s' c=>c.1.typeIs)
 exact hdr _ rfl
end
inductive D where
 | non|bl (b:Bool)|int (i:Int)|str (x:Str)|tup (l:List D)|lst (l:List D)
 | scr (ns:AF)
 | dct (t:Bool) (ks vs:List D)
 | obj (c:Str) (ks:AJ) (vs:List D)
 | adr (a:Addr)
abbrev AN:=List D
mutual
def aE:D->PyData
 | .non=>.none
 | .bl b=>.bool b
 | .int i=>.int i
 | .str x=>.str x
 | .tup l=>.tuple (da l)
 | .lst l=>.list (da l)
 | .scr ns=>.list (ns.map PyData.int)
 | .dct _ _ _=>.none
 | .obj _ _ _=>.none
 | .adr _=>.none
def da:AN->List PyData
 | []=>[]
 | d::l=>aE d::da l
end
noncomputable def bQ(d e:D):Bool:=PyData.eqv (aE d) (aE e)
noncomputable def g_(l m:AN):Bool:=PyData.eqvAll (da l) (da m)
def hE:V->Option Int
 | .int i=>some i
 | .bl b=>some (if b then 1 else 0)
 | _=>none
noncomputable def dS:AM->Option AF
 | []=>some []
 | x::r=>(hE x).bind λi=>(dS r).map (i::·)
noncomputable def nJ(ks:AF):Int:=reduceHash (Builtin.Tuple.tupleHashOf (ks.map hashInt))
def As(a:Addr)(b:List (List Int×Addr))(vxs:AM)(d:Nat)(h:Heap):Prop:=
 (a==sysModules)=false/\∃e o c,Vals vxs e/\h.get? a=some o/\o.ExactDict/\o.data=.dict c d/\c.toList=(b.zip e).map λp=>⟨nJ p.1.1,.ref p.1.2,p.2⟩
noncomputable def d6(a:Addr)(b:List (List Int×Addr))(vxs:AM)(c:Nat):HO:=.ext (As a b vxs c)
def Dc(t:Bool)(G H:Hp)(a:Addr)(d vxs:AM):Prop:=
 (t=false/\∃c:List _,H a=some (.dK c)/\(c.map (·.1)).Nodup/\d=c.map (λp=>kV p.1)/\vxs=c.map (·.2))\/
 (t=true/\∃(b:List _) (e:Nat),H a=some (d6 a b vxs e)/\b.length=vxs.length/\(b.map (·.1)).Nodup/\d=b.map (λp=>.ref p.2)/\∀p∈b,∃f,G p.2=some (.tup f)/\dS f=some p.1)
mutual
def Rp(K:W7)(G:Hp):D->V->Prop
 | .non,v=>v=V.non
 | .bl b,v=>v=V.bl b
 | .int i,v=>v=V.int i
 | .str x,v=>v=V.str x/\PyData.strOk x=true
 | .tup l,v=>∃a xs,v=V.ref a/\G a=some (HO.tup xs)/\RpL K G l xs
 | .lst l,v=>∃a xs,v=V.ref a/\Rd G a (HO.lst xs)/\RpL K G l xs
 | .scr ns,v=>∃a,v=V.ref a/\SqL K G a (ns.map V.int)
 | .dct t ks vs,v=>∃a f vxs,v=V.ref a/\Dc t G G a f vxs/\RpL K G ks f/\RpL K G vs vxs
 | .obj c ks vs,v=>∃a C g xs,v=V.ref a/\W.nsIn K mainGlobals c=some (some (.ref C))/\G a=some (HO.ins C g (ks.zip xs))/\xs.length=ks.length/\RpL K G vs xs
 | .adr a,v=>v=V.ref a
def RpL(K:W7)(G:Hp):AN->AM->Prop
 | [],xs=>xs=[]
 | d::l,xs=>∃x r,xs=x::r/\Rp K G d x/\RpL K G l r
end
def dJ(h:Same G b)(r:Rd G a u):Rd b a u:=by
 rcases r with r|⟨o,r⟩
 .exact .inl (h _ _ r)
 .exact .inr ⟨o,h _ _ r⟩
def Dc.mono(g:Same G u)(h:∀o,H a=some o->H' a=some o)(d:Dc t G H a c vxs):Dc t u H' a c vxs:=by
 rcases d with⟨e,j,i,b⟩|⟨e,f,r,i,b,n,l,s⟩
 .exact .inl ⟨e,j,h _ i,b⟩
 .refine .inr ⟨e,f,r,h _ i,b,n,l,λp k=>?_⟩
  obtain⟨v,m,q⟩:=s p k;exact⟨v,g _ _ m,q⟩
theorem Dc.someT(d:Dc t G H a e vxs):∃o,H a=some o/\∀xs,o≠.tup xs:=by
 rcases d with⟨_,c,b,_⟩|⟨_,f,g,b,_⟩
 .simp_all
 .exact⟨_,b,λxs z=>by cases z⟩
theorem Dc.some(d:Dc t G H a e vxs):∃o,H a=some o/\∀xs,o≠.lst xs:=by
 rcases d with⟨_,c,b,_⟩|⟨_,f,g,b,_⟩
 .simp_all
 .exact⟨_,b,λxs z=>by cases z⟩
mutual
theorem Rp.mono{G G':Hp}(h:Same G G'):∀{d:D}{v:V},Rp K G d v->Rp K G' d v
 | .non,_,r=>r
 | .bl _,_,r=>r
 | .int _,_,r=>r
 | .str _,_,r=>r
 | .tup l,_,r=>by
   obtain⟨a,xs,e,g,q⟩:=r;exact⟨a,xs,e,h _ _ g,RpL.mono h q⟩
 | .lst l,_,r=>by
   obtain⟨a,xs,e,g,q⟩:=r;exact⟨a,xs,e,dJ h g,RpL.mono h q⟩
 | .scr ns,_,r=>by
   obtain⟨a,e,g⟩:=r;exact⟨a,e,h.seq g⟩
 | .dct t ks vs,_,r=>by
   obtain⟨a,b,vxs,e,g,j,f⟩:=r;exact⟨a,b,vxs,e,g.mono h λo=>h _ o,RpL.mono h j,RpL.mono h f⟩
 | .obj c ks vs,_,r=>by
   obtain⟨a,C,i,xs,e,n,g,l,q⟩:=r;exact⟨a,C,i,xs,e,n,h _ _ g,l,RpL.mono h q⟩
 | .adr _,_,r=>r
theorem RpL.mono{G G':Hp}(h:Same G G'):∀{l:AN}{xs:AM},RpL K G l xs->RpL K G' l xs
 | [],_,r=>r
 | d::l,_,r=>by
   obtain⟨x,xs,e,g,q⟩:=r;exact⟨x,xs,e,Rp.mono h g,RpL.mono h q⟩
end
section
variable {G:Hp}
theorem RpL.length:∀{l:AN}{xs:AM},RpL K G l xs->xs.length=l.length
 | [],_,r=>by subst r;rfl
 | d::l,_,r=>by
   obtain⟨x,xs,rfl,_,q⟩:=r;simp[RpL.length q]
theorem RpL.get:∀{l:AN}{xs:AM}{i:Nat}{d:D},RpL K G l xs->l[i]?=some d->∃x,xs[i]?=some x/\Rp K G d x
 | [],_,_,_,_,e=>by simp at e
 | d::l,_,0,_,r,e=>by
   rw[RpL]at r;grind
 | d::l,_,i+1,_,r,e=>by
   obtain⟨x,xs,rfl,g,q⟩:=r;obtain⟨y,a,b⟩:=RpL.get q (by simpa using e)
   ext
def RpL.nil:RpL K G [] []:=by rw[RpL]
def RpL.cons(h:Rp K G d x)(q:RpL K G l xs):RpL K G (d::l) (x::xs):=⟨x,xs,rfl,h,q⟩
theorem RpL.append:∀{l m:AN}{xs ys:AM},RpL K G l xs->RpL K G m ys->RpL K G (l++m) (xs++ys)
 | [],_,_,_,r,q=>by rw[RpL]at r;ext
 | d::l,m,_,ys,r,q=>by
   obtain⟨x,xs,rfl,g,r⟩:=r;exact .cons g (.append r q)
def RpL.one(h:Rp K G d x):RpL K G [d] [x]:=.cons h .nil
theorem RpL.take:∀{l:AN}{xs:AM} (n:Nat),RpL K G l xs->RpL K G (l.take n) (xs.take n)
 | _,_,0,_=>.nil
 | [],_,_+1,r=>by subst r;exact .nil
 | d::l,_,n+1,r=>by
   obtain⟨x,xs,rfl,g,r⟩:=r;exact .cons g (.take n r)
theorem RpL.drop:∀{l:AN}{xs:AM} (n:Nat),RpL K G l xs->RpL K G (l.drop n) (xs.drop n)
 | _,_,0,r=>r
 | [],_,_+1,r=>by subst r;exact .nil
 | d::l,_,n+1,r=>by
   obtain⟨x,xs,rfl,g,r⟩:=r;exact .drop n r
theorem RpL.reverse:∀{l:AN}{xs:AM},RpL K G l xs->RpL K G l.reverse xs.reverse
 | [],_,r=>by subst r;exact .nil
 | d::l,_,r=>by
   obtain⟨x,xs,rfl,g,r⟩:=r;rw[List.reverse_cons,List.reverse_cons];exact r.reverse.append (.one g)
theorem RpL.ints:∀(ns:AF),RpL K G (ns.map D.int) (ns.map V.int)
 | []=>.nil
 | n::ns=>.cons (by rw[Rp]) (.ints ns)
end
structure Gr(H G H' G':Hp):Prop where
 h:Same H H'
 g:Same G G'
 s:Same G' H'
 n:∀a,G a=none->G' a≠none->H a=none
def Gr.refl(s:Same G H):Gr H G H G:=⟨.refl _,.refl _,s,λ_ h a=>absurd h a⟩
def Gr.trans(a:Gr H G f c)(b:Gr f c d G2):Gr H G d G2:=
 ⟨a.h.trans b.h,a.g.trans b.g,b.s,λx h i=>by
  by_cases e:c x=none
  .exact a.h.free (b.n x e i)
  .exact a.n x h e⟩
theorem Gr.new(s:Same G H)(a:H p=none)(o:HO):Gr H G (upd H p o) (upd G p o):=by
 refine⟨λb u e=>?_,λb u e=>?_,λb u e=>?_,λb h c=>?_⟩
 .rwa [Yh (Yk e a)]
 .rwa [Yh (Yk e (s.free a))]
 .by_cases q:b=p
  .subst q;rwa [Yg]at e ⊢
  .rw[Yh q]at e ⊢;exact s _ _ e
 .by_cases q:b=p
  .grind
  .rw[Yh q]at c;grind
def Gr.hid(s:Same G H)(a:H p=none)(o:HO):Gr H G (upd H p o) G:=by
 refine⟨λb u e=>?_,.refl _,λb u e=>?_,λb h c=>absurd h c⟩
 .rwa [Yh (Yk e a)]
 .rw[Yh (Yk e (s.free a))];exact s _ _ e
theorem Gr.show(g:Gr H G H' d)(c:H p=none)(a:d p=none)(e:H' p=some o):Gr H G H' (upd d p o):=by
 refine⟨g.h,λb u q=>?_,λb u q=>?_,λb h f=>?_⟩
 .have:=g.g b u q
  rwa [Yh (Yk this a)]
 .by_cases z:b=p
  .subst z;rw[Yg]at q;symm
  .rw[Yh z]at q;exact g.s b u q
 .by_cases z:b=p
  .grind
  .rw[Yh z]at f;exact g.n b h f
def Ct(K:W7)(G H:Hp):D->V->Prop
 | .non,v=>v=.non
 | .bl b,v=>v=.bl b
 | .int i,v=>v=.int i
 | .str x,v=>v=.str x/\PyData.strOk x=true
 | .tup l,v=>∃a f,v=.ref a/\(H a=some (.tup f)/\G a=some (.tup f))/\RpL K G l f
 | .lst l,v=>∃a f,v=.ref a/\Rd H a (.lst f)/\RpL K G l f
 | .scr k,v=>∃a,v=.ref a/\SqL K H a (k.map .int)
 | .dct t h j,v=>∃a d g,v=.ref a/\Dc t G H a d g/\RpL K G h d/\RpL K G j g
 | .obj c h j,v=>∃a C e f,v=.ref a/\W.nsIn K mainGlobals c=some (some (.ref C))/\G a=some (.ins C e (h.zip f))/\f.length=h.length/\RpL K G j f
 | .adr a,v=>v=.ref a
def Ct.of(s:Same G H)(r:Rp K G d v):Ct K G H d v:=by
 cases d<;>rw[Rp]at r<;>rw[Ct]
 .exact r
 .exact r
 .exact r
 .exact r
 .obtain⟨a,i,e,g,q⟩:=r
  exact⟨a,i,e,⟨s _ _ g,g⟩,q⟩
 .obtain⟨a,i,e,g,q⟩:=r
  exact⟨a,i,e,dJ s g,q⟩
 .obtain⟨a,e,g⟩:=r
  exact⟨a,e,s.seq g⟩
 .obtain⟨a,b,h,e,g,f,c⟩:=r
  exact⟨a,b,h,e,g.mono (.refl _) λo=>s _ o,f,c⟩
 .exact r
 .exact r
def Ct.rp(s:Same G H)(r:Ct K G H d v):Rp K H d v:=by
 cases d<;>rw[Ct]at r<;>rw[Rp]
 .exact r
 .exact r
 .exact r
 .exact r
 .obtain⟨a,i,e,g,q⟩:=r
  exact⟨a,i,e,g.1,q.mono s⟩
 .obtain⟨a,i,e,g,q⟩:=r
  exact⟨a,i,e,g,q.mono s⟩
 .exact r
 .obtain⟨a,b,j,e,g,h,c⟩:=r
  exact⟨a,b,j,e,g.mono s λ_ z=>z,h.mono s,c.mono s⟩
 .obtain⟨a,C,f,i,e,n,g,l,q⟩:=r
  exact⟨a,C,f,i,e,n,s _ _ g,l,q.mono s⟩
 .exact r
def Ct.grow(g:Gr H G H' m)(r:Ct K G H d v):Ct K m H' d v:=by
 cases d<;>rw[Ct]at r<;>rw[Ct]
 .exact r
 .exact r
 .exact r
 .exact r
 .obtain⟨a,j,e,h,q⟩:=r
  exact⟨a,j,e,⟨g.h _ _ h.1,g.g _ _ h.2⟩,q.mono g.g⟩
 .obtain⟨a,j,e,h,q⟩:=r
  exact⟨a,j,e,dJ g.h h,q.mono g.g⟩
 .obtain⟨a,e,h⟩:=r
  exact⟨a,e,g.h.seq h⟩
 .obtain⟨a,b,k,e,h,i,c⟩:=r
  exact⟨a,b,k,e,h.mono g.g λo=>g.h _ o,i.mono g.g,c.mono g.g⟩
 .obtain⟨a,C,f,j,e,n,h,l,q⟩:=r
  exact⟨a,C,f,j,e,n,g.g _ _ h,l,q.mono g.g⟩
 .exact r
def jV(K:W7)(G H:Hp):AN->AM->Prop
 | [],xs=>xs=[]
 | d::l,xs=>∃x r,xs=x::r/\Ct K G H d x/\jV K G H l r
inductive B where
 | sh (d:D)|ow (l:AN)|od (t:Bool) (ks vs:AN)
abbrev AQ:=Option B
abbrev Ro:=List AQ
abbrev AV:=Ro->Option AN
abbrev AU:=Ro->Option D
abbrev AT:=Ro->Option Bool
abbrev AS:=D->Ro->Option Ro
structure SR(K:W7)(H0 G0:Hp)(σ:L2.St)(H G:Hp)(ρ:Ro):Prop where
 gr:Gr H0 G0 H G
 len:σ.length=ρ.length
 sh:∀(i:Nat) d,ρ[i]?=some (some (B.sh d))->∃v,σ[i]?=some (some v)/\Rp K G d v
 ow:∀(i:Nat) l,ρ[i]?=some (some (B.ow l))->∃a xs,σ[i]?=some (some (V.ref a))/\G a=none/\H0 a=none/\H a=some (.lst xs)/\RpL K G l xs
 ap:∀(i j:Nat) l l' a b,ρ[i]?=some (some (B.ow l))->ρ[j]?=some (some (B.ow l'))->i≠j->σ[i]?=some (some (V.ref a))->σ[j]?=some (some (V.ref b))->a≠b
 od:∀(i:Nat) t ks vs,ρ[i]?=some (some (B.od t ks vs))->∃a kxs vxs,σ[i]?=some (some (V.ref a))/\G a=none/\H0 a=none/\Dc t G H a kxs vxs/\RpL K G ks kxs/\RpL K G vs vxs
 apd:∀(i j:Nat) t ks vs t' ks' vs' a b,ρ[i]?=some (some (B.od t ks vs))->ρ[j]?=some (some (B.od t' ks' vs'))->i≠j->σ[i]?=some (some (V.ref a))->σ[j]?=some (some (V.ref b))->a≠b
section
variable {H0 G0 H G H' G':Hp}{σ:L2.St}{ρ:Ro}
def SR.mkSh(g:Gr H0 G0 H G)(e:σ.length=ρ.length)(n:∀(i:Nat) d,ρ[i]?=some (some (B.sh d))->∃v,σ[i]?=some (some v)/\Rp K G d v)(f:∀(i:Nat) l,ρ[i]?≠some (some (B.ow l)))(c:∀(i:Nat) t ks vs,ρ[i]?≠some (some (B.od t ks vs))):SR K H0 G0 σ H G ρ:=
 ⟨g,e,n,λi l h=>absurd h (f i l),λi j l o a b h=>absurd h (f i l),λi t ks vs h=>absurd h (c i t ks vs),λi j t ks vs p k m a b h=>absurd h (c i t ks vs)⟩
theorem tV(g:Gr H G H' G')(h:H a=some o)(n:G a=none):G' a=none:=by
 cases q:G' a with
 | none=>rfl
 | some o=>
   have:=g.n a n (by grind);grind
def SR.grow(s:SR K H0 G0 σ H G ρ)(g:Gr H G H' G'):SR K H0 G0 σ H' G' ρ:=by
 refine⟨s.gr.trans g,s.len,λi d e=>?_,λi l e=>?_,s.ap,λi t r q e=>?_,s.apd⟩
 .obtain⟨v,f,b⟩:=s.sh i d e
  exact⟨v,f,b.mono g.g⟩
 .obtain⟨a,u,f,b,k,c,j⟩:=s.ow i l e
  exact⟨a,u,f,tV g c b,k,g.h _ _ c,j.mono g.g⟩
 .obtain⟨a,h,p,f,b,k,c,j,m⟩:=s.od i t r q e
  obtain⟨o,n,_⟩:=c.some;exact⟨a,h,p,f,tV g n b,k,c.mono g.g λo=>g.h _ o,j.mono g.g,m.mono g.g⟩
def SR.seen(s:SR K H0 G0 σ H G ρ):Same G H:=s.gr.s
def Ye{a:Type}{l:List a}{x y:a}(h:(l.set i x)[j]?=some y):(j=i/\y=x/\i<l.length)\/(j≠i/\l[j]?=some y):=by
 by_cases e:j=i
 .subst e
  have b:=by
   have:=(qo h).1;simpa using this
  rw[List.getElem?_set_self b]at h;exact .inl ⟨rfl,w5 h.symm,b⟩
 .rw[Qp (.symm e)]at h
  exact .inr ⟨e,h⟩
theorem SR.set_sh(s:SR K H0 G0 σ H G ρ)(i:Nat)(r:Rp K G d v):SR K H0 G0 (σ.set i (some v)) H G (ρ.set i (↑d)):=by
 refine⟨s.gr,by simp[s.len],λj e h=>?_,λj l h=>?_,λj k l F a b g m z n o=>?_,λj t x y h=>?_,λj k t x y J B u a b g m z n o=>?_⟩
 .rcases Ye h with⟨rfl,c,E⟩|⟨f,h⟩
  .cases c
   exact⟨v,by rw[List.getElem?_set_self (by rwa [s.len])],r⟩
  .obtain⟨w,D,p⟩:=s.sh j e h
   exact⟨w,by rwa [Qp (.symm f)],p⟩
 .rcases Ye h with⟨rfl,c,E⟩|⟨f,h⟩
  .cases c
  .obtain⟨a,I,D,p⟩:=s.ow j l h
   exact⟨a,I,by rwa [Qp (.symm f)],p⟩
 .rcases Ye g with⟨rfl,c,_⟩|⟨f,g⟩
  .cases c
  .rcases Ye m with⟨rfl,c,_⟩|⟨q,m⟩
   .cases c
   .rw[Qp (.symm f)]at n
    rw[Qp (.symm q)]at o;exact s.ap j k l F a b g m z n o
 .rcases Ye h with⟨rfl,c,E⟩|⟨f,h⟩
  .cases c
  .obtain⟨a,A,C,D,p⟩:=s.od j t x y h
   exact⟨a,A,C,by rwa [Qp (.symm f)],p⟩
 .rcases Ye g with⟨rfl,c,_⟩|⟨f,g⟩
  .cases c
  .rcases Ye m with⟨rfl,c,_⟩|⟨q,m⟩
   .cases c
   .rw[Qp (.symm f)]at n
    rw[Qp (.symm q)]at o;exact s.apd j k t x y J B u a b g m z n o
theorem SR.set_ow(s:SR K H0 G0 σ H G ρ)(i:Nat)(g:Gr H G H' G')(L:H p=none)(Q:G' p=none)(e:H' p=some (.lst xs))(r:RpL K G' l xs):SR K H0 G0 (σ.set i (some (.ref p))) H' G' (ρ.set i (some (.ow l))):=by
 have B:=s.grow g
 have N:∀(j:Nat) l a,_->σ[j]?=some (some (.ref a))->a≠p:=λj l a o c z=>by
  obtain⟨b,T,q,_,_,M,_⟩:=s.ow j l o;rw[c]at q;cases q;rw[z,L]at M;cases M
 refine⟨B.gr,by simp[s.len],λj e h=>?_,λj l h=>?_,λj k l O a b o c A m n=>?_,λj t J C h=>?_,λj k t J C R E F a b o c A m n=>?_⟩
 .rcases Ye h with⟨rfl,d,y⟩|⟨f,h⟩
  .cases d
  .obtain⟨w,q,v⟩:=B.sh j e h
   exact⟨w,by rwa [Qp (.symm f)],v⟩
 .rcases Ye h with⟨rfl,d,y⟩|⟨f,h⟩
  .cases d
   exact⟨p,xs,by rw[List.getElem?_set_self (by rwa [s.len])],Q,s.gr.h.free L,e,r⟩
  .obtain⟨a,xs,q,v⟩:=B.ow j l h
   exact⟨a,xs,by rwa [Qp (.symm f)],v⟩
 .rcases Ye o with⟨rfl,d,y⟩|⟨f,x⟩
  .rcases Ye c with⟨rfl,S,_⟩|⟨u,c⟩
   .exact absurd rfl A
   .rw[List.getElem?_set_self (by rwa [s.len])]at m
    cases m;rw[Qp (.symm u)]at n;exact .symm (N k O b c n)
  .rcases Ye c with⟨rfl,S,y⟩|⟨u,c⟩
   .rw[List.getElem?_set_self (by rwa [s.len])]at n
    cases n;rw[Qp (.symm f)]at m;exact N j l a x m
   .rw[Qp (.symm f)]at m
    rw[Qp (.symm u)]at n;exact s.ap j k l O a b x c A m n
 .rcases Ye h with⟨rfl,d,y⟩|⟨f,h⟩
  .cases d
  .obtain⟨a,D,I,q,v⟩:=B.od j t J C h
   exact⟨a,D,I,by rwa [Qp (.symm f)],v⟩
 .rcases Ye o with⟨rfl,d,_⟩|⟨f,o⟩
  .cases d
  .rcases Ye c with⟨rfl,d,_⟩|⟨u,c⟩
   .cases d
   .rw[Qp (.symm f)]at m
    rw[Qp (.symm u)]at n;exact s.apd j k t J C R E F a b o c A m n
theorem SR.set_od(s:SR K H0 G0 σ H G ρ)(i:Nat)(g:Gr H G H' G')(hp:H p=none)(gp:G' p=none)(e:Dc t G' H' p kxs vxs)(r1:RpL K G' ks kxs)(r2:RpL K G' vs vxs):SR K H0 G0 (σ.set i (some (.ref p))) H' G' (ρ.set i (some (.od t ks vs))):=by
 have s':=s.grow g
 have np:∀(j:Nat) t ks vs a,ρ[j]?=some (some (B.od t ks vs))->σ[j]?=some (some (V.ref a))->a≠p:=λj t ks vs a h1 h2 z=>by
  obtain⟨b,kxs,vxs,q1,_,_,q4,_⟩:=s.od j t ks vs h1;rw[h2]at q1;cases q1;obtain⟨o,q5,_⟩:=q4.some;rw[z,hp]at q5;cases q5
 refine⟨s'.gr,by simp[s.len],λj e h=>?_,λj l h=>?_,λj k l l' a b h1 h2 h3 h4 h5=>?_,λj t ks vs h=>?_,λj k t ks vs t' ks' vs' a b h1 h2 h3 h4 h5=>?_⟩
 .rcases Ye h with⟨rfl,e1,hl⟩|⟨hj,h⟩
  .cases e1
  .obtain⟨w,q1,q2⟩:=s'.sh j e h
   exact⟨w,by rw[Qp (Ne.symm hj)];exact q1,q2⟩
 .rcases Ye h with⟨rfl,e1,hl⟩|⟨hj,h⟩
  .cases e1
  .obtain⟨a,xs,q1,q2⟩:=s'.ow j l h
   exact⟨a,xs,by rw[Qp (Ne.symm hj)];exact q1,q2⟩
 .rcases Ye h1 with⟨rfl,e1,_⟩|⟨hj,h1⟩
  .cases e1
  .rcases Ye h2 with⟨rfl,e1,_⟩|⟨hk,h2⟩
   .cases e1
   .rw[Qp (Ne.symm hj)]at h4
    rw[Qp (Ne.symm hk)]at h5;exact s.ap j k l l' a b h1 h2 h3 h4 h5
 .rcases Ye h with⟨rfl,e1,hl⟩|⟨hj,h⟩
  .cases e1
   exact⟨p,kxs,vxs,by rw[List.getElem?_set_self (by rw[s.len];exact hl)],gp,s.gr.h.free hp,e,r1,r2⟩
  .obtain⟨a,kxs,vxs,q1,q2⟩:=s'.od j t ks vs h
   exact⟨a,kxs,vxs,by rw[Qp (Ne.symm hj)];exact q1,q2⟩
 .rcases Ye h1 with⟨rfl,e1,hl⟩|⟨hj,h1n⟩
  .rcases Ye h2 with⟨rfl,e2,_⟩|⟨hk,h2⟩
   .exact absurd rfl h3
   .rw[List.getElem?_set_self (by rw[s.len];exact hl)]at h4
    cases h4;rw[Qp (Ne.symm hk)]at h5;exact Ne.symm (np k t' ks' vs' b h2 h5)
  .rcases Ye h2 with⟨rfl,e2,hl⟩|⟨hk,h2⟩
   .rw[List.getElem?_set_self (by rw[s.len];exact hl)]at h5
    cases h5;rw[Qp (Ne.symm hj)]at h4;exact np j t ks vs a h1n h4
   .rw[Qp (Ne.symm hj)]at h4
    rw[Qp (Ne.symm hk)]at h5;exact s.apd j k t ks vs t' ks' vs' a b h1n h2 h3 h4 h5
theorem SR.mut(s:SR K H0 G0 σ H G ρ)(O:ρ[i]?=some (some (B.ow l)))(E:σ[i]?=some (some (V.ref a)))(r:RpL K G P ys):SR K H0 G0 σ (upd H a (.lst ys)) G (ρ.set i (some (.ow P))):=by
 obtain⟨T,xs,N,M,L,Y,Z⟩:=s.ow i l O;rw[E]at N;cases N;refine⟨⟨λb o e=>?_,s.gr.g,λb o e=>?_,s.gr.n⟩,by simp[s.len],λj e h=>?_,λj m h=>?_,λj k m F b c d f v y J=>?_,λj t ks vs h=>?_,λj k t ks vs t' C D b c d f v y J=>?_⟩
 .rw[Yh (Yk e L)];exact s.gr.h b o e
 .rw[Yh (Yk e M)];exact s.gr.s b o e
 .rcases Ye h with⟨rfl,e1,_⟩|⟨n,h⟩
  .cases e1
  .exact s.sh j e h
 .rcases Ye h with⟨rfl,e1,_⟩|⟨n,h⟩
  .cases e1
   exact⟨a,ys,E,M,L,Yg,r⟩
  .obtain⟨b,R,p,I,x,u,w⟩:=s.ow j m h
   exact⟨b,R,p,I,x,by rw[Yh (s.ap j i m l b a h O n p E)];exact u,w⟩
 .have g:∀(j:Nat) m,(ρ.set i (some (.ow P)))[j]?=some (some (.ow m))->∃F,ρ[j]?=some (some (.ow F)):=λj m h=>by
   grind
  obtain⟨S,e1⟩:=g j m d;obtain⟨Q,e2⟩:=g k F f;exact s.ap j k S Q b c e1 e2 v y J
 .rcases Ye h with⟨rfl,e1,_⟩|⟨n,h⟩
  .cases e1
  .obtain⟨b,A,vxs,p,I,x,u,w⟩:=s.od j t ks vs h
   refine⟨b,A,vxs,p,I,x,u.mono (.refl _) λo q=>?_,w⟩;obtain⟨W,q',X⟩:=u.some;rw[Yh (λz=>by grind)];exact q
 .rcases Ye d with⟨rfl,e1,_⟩|⟨n,d⟩
  .cases e1
  .rcases Ye f with⟨rfl,e1,_⟩|⟨U,f⟩
   .cases e1
   .exact s.apd j k t ks vs t' C D b c d f v y J
theorem SR.mutd(s:SR K H0 G0 σ H G ρ)(O:ρ[i]?=some (some (B.od t ks vs)))(T:σ[i]?=some (some (V.ref a)))(d:Dc t' G (upd H a o) a kxs vxs)(r1:RpL K G n kxs)(r2:RpL K G l vxs):SR K H0 G0 σ (upd H a o) G (ρ.set i (some (.od t' n l))):=by
 obtain⟨a',N,L,M,q2,q3,q4,q5,q6⟩:=s.od i t ks vs O;rw[T]at M;cases M;obtain⟨o0,q7,nl⟩:=q4.some;refine⟨⟨λb o e=>?_,s.gr.g,λb o e=>?_,s.gr.n⟩,by simp[s.len],λj e h=>?_,λj m h=>?_,λj k m m' b c p r E D A=>?_,λj R S Q h=>?_,λj k R S Q tb kb vb b c p r E D A=>?_⟩
 .rw[Yh (Yk e q3)];exact s.gr.h b o e
 .rw[Yh (Yk e q2)];exact s.gr.s b o e
 .rcases Ye h with⟨rfl,f,_⟩|⟨x,h⟩
  .cases f
  .exact s.sh j e h
 .rcases Ye h with⟨rfl,f,_⟩|⟨x,h⟩
  .cases f
  .obtain⟨b,zs,v,C,I,F,J⟩:=s.ow j m h
   exact⟨b,zs,v,C,I,by rw[Yh (λz=>by symm)];exact F,J⟩
 .rcases Ye p with⟨rfl,f,_⟩|⟨x,p⟩
  .cases f
  .rcases Ye r with⟨rfl,f,_⟩|⟨hk,r⟩
   .cases f
   .exact s.ap j k m m' b c p r E D A
 .rcases Ye h with⟨rfl,f,_⟩|⟨x,h⟩
  .grind
  .obtain⟨b,U,vx,v,C,I,F,J⟩:=s.od j R S Q h
   exact⟨b,U,vx,v,C,I,F.mono (.refl _) λo q=>by rw[Yh (s.apd j i _ _ _ _ _ _ b a h O x v T)];exact q,J⟩
 .have g:∀(j:Nat) u w y,(ρ.set i (some (.od t' n l)))[j]?=some (some (.od u w y))->∃t3 k3 Z,ρ[j]?=some (some (.od t3 k3 Z)):=λj u w y h=>by
   symm
  obtain⟨t1,k1,Y,f⟩:=g j _ _ _ p;obtain⟨u,w,y,e2⟩:=g k _ _ _ r;exact s.apd j k t1 k1 Y u w y b c f e2 E D A
theorem SR.freezeT(s:SR K H0 G0 σ H G ρ)(I:ρ[i]?=some (some (B.ow l))):∃G',SR K H0 G0 σ H G' (ρ.set i (↑(.lst l)))/\∀b ys,G' b=some (.tup ys)->G b=some (.tup ys):=by
 obtain⟨a,xs,F,O,R,U,V⟩:=s.ow i l I
 have g:Same G (upd G a (.lst xs)):=λb o e=>by rwa [Yh (Yk e O)]
 refine⟨upd G a _,⟨⟨s.gr.h,s.gr.g.trans g,λb o e=>?_,λb h h'=>?_⟩,by simp[s.len],λj e h=>?_,λj m h=>?_,λj k m L b c d f y D E=>?_,λj t Z vs h=>?_,λj k t Z vs t' A x b c d f y D E=>?_⟩,λb ys e=>by
  by_cases z:b=a
  .subst z;rw[Yg]at e;cases e
  .rwa [Yh z]at e⟩
 .by_cases z:b=a
  .subst z;rw[Yg]at e;symm
  .rw[Yh z]at e;exact s.gr.s b o e
 .by_cases z:b=a
  .grind
  .rw[Yh z]at h';exact s.gr.n b h h'
 .rcases Ye h with⟨rfl,Y,_⟩|⟨p,h⟩
  .cases Y
   exact⟨_,F,⟨a,xs,rfl,.inl Yg,V.mono g⟩⟩
  .obtain⟨v,n,q⟩:=s.sh j e h
   exact⟨v,n,q.mono g⟩
 .rcases Ye h with⟨rfl,Y,_⟩|⟨p,h⟩
  .cases Y
  .obtain⟨b,J,n,q,C,r,w⟩:=s.ow j m h
   exact⟨b,J,n,by rwa [Yh (s.ap j i m l b a h I p n F)],C,r,w.mono g⟩
 .rcases Ye d with⟨rfl,Y,_⟩|⟨p,d⟩
  .cases Y
  .rcases Ye f with⟨rfl,Y,_⟩|⟨N,f⟩
   .cases Y
   .exact s.ap j k m L b c d f y D E
 .rcases Ye h with⟨rfl,Y,_⟩|⟨p,h⟩
  .cases Y
  .obtain⟨b,u,vxs,n,q,C,r,w,M⟩:=s.od j t Z vs h
   obtain⟨S,Q,T⟩:=r.some;exact⟨b,u,vxs,n,by rwa [Yh (λz=>by symm)],C,r.mono g λ_ z=>z,w.mono g,M.mono g⟩
 .rcases Ye d with⟨rfl,Y,_⟩|⟨p,d⟩
  .cases Y
  .rcases Ye f with⟨rfl,Y,_⟩|⟨N,f⟩
   .cases Y
   .exact s.apd j k t Z vs t' A x b c d f y D E
def SR.freeze(s:SR K H0 G0 σ H G ρ)(hi:ρ[i]?=some (some (B.ow l))):∃G',SR K H0 G0 σ H G' (ρ.set i (↑(.lst l))):=by
 obtain⟨G',h,_⟩:=s.freezeT hi;exact⟨G',h⟩
theorem SR.freezedT(s:SR K H0 G0 σ H G ρ)(F:ρ[i]?=some (some (B.od t ks vs))):∃G',SR K H0 G0 σ H G' (ρ.set i (↑(.dct t ks vs)))/\∀b ys,G' b=some (.tup ys)->G b=some (.tup ys):=by
 obtain⟨a,A,vxs,J,M,X,C,O,S⟩:=s.od i t ks vs F;obtain⟨o,T,Y⟩:=C.some
 have d:Same G (upd G a o):=λb o e=>by rwa [Yh (Yk e M)]
 obtain⟨Z,V,W⟩:=C.someT
 refine⟨upd G a o,⟨⟨s.gr.h,s.gr.g.trans d,λb I e=>?_,λb h h'=>?_⟩,by simp[s.len],λj e h=>?_,λj m h=>?_,λj k m P b c f g q u E=>?_,λj t ks vs h=>?_,λj k t ks vs t' D w b c f g q u E=>?_⟩,λb ys e=>by
  by_cases z:b=a
  .subst z;rw[Yg]at e;grind
  .rwa [Yh z]at e⟩
 .by_cases z:b=a
  .subst z;rw[Yg]at e;grind
  .rw[Yh z]at e;exact s.gr.s b I e
 .by_cases z:b=a
  .grind
  .rw[Yh z]at h';exact s.gr.n b h h'
 .rcases Ye h with⟨rfl,e1,_⟩|⟨n,h⟩
  .cases e1
   refine⟨_,J,⟨a,A,vxs,rfl,C.mono d λI z=>?_,O.mono d,S.mono d⟩⟩;rw[T]at z
   rwa [Yg]
  .obtain⟨v,l,p⟩:=s.sh j e h
   exact⟨v,l,p.mono d⟩
 .rcases Ye h with⟨rfl,e1,_⟩|⟨n,h⟩
  .cases e1
  .obtain⟨b,U,l,p,x,y,r⟩:=s.ow j m h
   exact⟨b,U,l,by rwa [Yh (λz=>by grind)],x,y,r.mono d⟩
 .rcases Ye f with⟨rfl,e1,_⟩|⟨n,f⟩
  .cases e1
  .rcases Ye g with⟨rfl,e1,_⟩|⟨N,g⟩
   .cases e1
   .exact s.ap j k m P b c f g q u E
 .rcases Ye h with⟨rfl,e1,_⟩|⟨n,h⟩
  .cases e1
  .obtain⟨b,L,Q,l,p,x,y,r,R⟩:=s.od j t ks vs h
   exact⟨b,L,Q,l,by rwa [Yh (s.apd j i _ _ _ _ _ _ b a h F n l J)],x,y.mono d λ_ z=>z,r.mono d,R.mono d⟩
 .rcases Ye f with⟨rfl,e1,_⟩|⟨n,f⟩
  .cases e1
  .rcases Ye g with⟨rfl,e1,_⟩|⟨N,g⟩
   .cases e1
   .exact s.apd j k t ks vs t' D w b c f g q u E
theorem SR.freezed(s:SR K H0 G0 σ H G ρ)(a:ρ[i]?=some (some (B.od t ks vs))):∃G',SR K H0 G0 σ H G' (ρ.set i (↑(.dct t ks vs))):=by
 obtain⟨G',h,_⟩:=s.freezedT a;grind
def Le(ρ ρ':Ro):Prop:=ρ.length=ρ'.length/\∀(i:Nat) b,ρ[i]?=some (some b)->ρ'[i]?=some (some b)
def SR.le(s:SR K H0 G0 σ H G ρ')(h:Le ρ ρ'):SR K H0 G0 σ H G ρ:=
 ⟨s.gr,s.len.trans h.1.symm,λi d e=>s.sh i d (h.2 i _ e),λi l e=>s.ow i l (h.2 i _ e),λi j l g a b m n=>s.ap i j l g a b (h.2 i _ m) (h.2 j _ n),
  λi t o k e=>s.od i t o k (h.2 i _ e),λi j t o k p f c a b m n=>s.apd i j t o k p f c a b (h.2 i _ m) (h.2 j _ n)⟩
theorem SR.rebase(s:SR K H0 G0 σ H G ρ):∃p,SR K p G σ H G ρ/\∀σ' H' G' ρ',SR K p G σ' H' G' ρ'->SR K H0 G0 σ' H' G' ρ':=by
 classical
 let c:=λa=>∃(i:Nat),((∃l:AN,ρ[i]?=some (some (.ow l)))\/(∃t v u,ρ[i]?=some (some (.od t v u))))/\σ[i]?=some (some (.ref a))
 have B:∀a,c a->H0 a=none:=λa n=>by
  obtain⟨i,x,C⟩:=n;rcases x with⟨l,x⟩|⟨t,v,u,x⟩
  .obtain⟨b,A,d,_,j,_⟩:=s.ow i l x
   grind
  .obtain⟨b,f,w,d,_,j,_⟩:=s.od i t v u x
   grind
 have k:∀a,(if c a then none else H a)=none->_:=λa h=>by
  by_cases o:c a
  .exact B a o
  .rw[if_neg o]at h;exact s.gr.h.free h
 refine⟨λa=>if c a then none else H a,⟨⟨λb o e=>?_,.refl _,s.gr.s,λ_ h y=>absurd h y⟩,s.len,s.sh,λi l e=>?_,s.ap,λi t v u e=>?_,s.apd⟩,λσ' H' G' ρ' t=>⟨⟨λb o e=>?_,s.gr.g.trans t.gr.g,t.gr.s,λb h y=>?_⟩,t.len,t.sh,λi l e=>?_,t.ap,λi r v u e=>?_,t.apd⟩⟩
 .simp_all
 .obtain⟨a,A,d,g,j,m,q⟩:=s.ow i l e
  exact⟨a,A,d,g,if_pos ⟨i,.inl ⟨l,e⟩,d⟩,m,q⟩
 .obtain⟨a,f,w,d,g,j,m⟩:=s.od i t v u e
  exact⟨a,f,w,d,g,if_pos ⟨i,.inr ⟨t,v,u,e⟩,d⟩,m⟩
 .refine t.gr.h b o ?_
  have z:¬c b:=λz=>by ext
  rw[if_neg z];exact s.gr.h b o e
 .by_cases z:G b=none
  .exact k b (t.gr.n b z y)
  .exact s.gr.n b h z
 .obtain⟨a,A,d,g,j,m,q⟩:=t.ow i l e
  ext
 .obtain⟨a,f,w,d,g,j,m⟩:=t.od i r v u e
  grind
end
def tOf(K:W7)(f:AU):TE:=λh H Q=>∃c d b a G,f c=some d/\SR K b a h H G c/\∀v e g,Gr H G e g->Rp K g d v->Q v e
def tCof(K:W7)(f:AU):TE:=λh H Q=>∃e d b a G,f e=some d/\SR K b a h H G e/\∀v c g,Gr H G c g->Ct K g c d v->Q v c
def tCAof(K:W7)(f:AV):TA:=λh H Q=>∃e l b a G,f e=some l/\SR K b a h H G e/\∀g c d,Gr H G c d->jV K d c l g->Q g c
def hJ(K:W7)(f:AV):TE:=λh H Q=>∃e l b a G,f e=some l/\SR K b a h H G e/\∀p g d c,Gr H G d c->H p=none->c p=none->d p=some (.lst g)->RpL K c l g->Q (.ref p) d
def tTof(K:W7)(f:AT):TT:=λg H Q=>∃d b c a G,f d=some b/\SR K c a g H G d/\∀e h,Gr H G e h->Q b e
def tAof(K:W7)(f:AV):TA:=λh H Q=>∃e l b a G,f e=some l/\SR K b a h H G e/\∀g d c,Gr H G d c->RpL K c l g->Q g d
def Wk(K:W7)(J:It)(g:Hp)(f:AN):Prop:=f.length<=sizeLine/\∀(i:Nat) a b,Same g b->Same b a->
 (∀d,f[i]?=some d->J.go i a/\∀y e,J.yld i a y e->∃c,Gr a b e c/\Rp K c d y)/\(f.length<=i->J.stop i a)
def nK(K:W7)(f:AV):TI:=λh H R=>∃c e b a G,f c=some e/\SR K b a h H G c/\∀J d g,Gr H G d g->Wk K J g e->R J d
inductive eY where
 | nx (ρ:Ro)|rt (d:D)|bk (ρ:Ro)|ct (ρ:Ro)
abbrev AR:=Ro->Option eY
def Au(K:W7)(b a:Hp)(F:dH):eY->Prop
 | .nx f=>∀c e g,SR K b a c e g f->F.nx c e
 | .rt d=>∀v e g,Gr b a e g->Rp K g d v->F.rt v e
 | .bk f=>∀c e g,SR K b a c e g f->F.bk c e
 | .ct f=>∀c e g,SR K b a c e g f->F.ct c e
def tW(K:W7)(f:AR):TS:=λF e H=>∃d c b a G,f d=some c/\SR K b a e H G d/\Au K b a F c
def Ll(K:W7)(gt:AS):TG:=λv g H Q=>∃d f e b a G,gt d f=some e/\SR K b a g H G f/\Rp K G d v/\∀c,SR K b a c H G e->Q c H
abbrev ME(X:Cx)(e:Expr)(f:AU):Prop:=PE X e (tOf X.K f)
abbrev MC(X:Cx)(e:Expr)(f:AU):Prop:=PE X e (tCof X.K f)
abbrev tX(X:Cx)(a:AK)(f:AV):Prop:=PA X a (tCAof X.K f)
abbrev MF(X:Cx)(e:Expr)(f:AV):Prop:=PE X e (hJ X.K f)
abbrev MT(X:Cx)(e:Expr)(f:AT):Prop:=PT X e (tTof X.K f)
abbrev MA(X:Cx)(a:AK)(f:AV):Prop:=PA X a (tAof X.K f)
abbrev MI(X:Cx)(b a:Expr)(f:AV):Prop:=PI X b a (nK X.K f)
abbrev MS(X:Cx)(st:Stmt)(f:AR):Prop:=PS X st (tW X.K f)
abbrev MB(X:Cx)(a:List Stmt)(f:AR):Prop:=PSs X a (tW X.K f)
abbrev MG(X:Cx)(a:Expr)(gt:AS):Prop:=PG X a (Ll X.K gt)
section
def PE.imp(h:PE X e t)(i:∀σ H Q,t' σ H Q->t σ H Q):PE X e t':=λb s σ H Q I a=>h _ s σ H Q I (i σ H Q a)
def PT.imp(h:PT X e t)(i:∀σ H Q,t' σ H Q->t σ H Q):PT X e t':=λb s σ H Q I a=>h _ s σ H Q I (i σ H Q a)
def PA.imp(h:PA X c t)(i:∀σ H Q,t' σ H Q->t σ H Q):PA X c t':=λa d s σ H Q I b=>h a _ s σ H Q I (i σ H Q b)
def PS.imp{st:Stmt}(h:PS X st t)(i:∀F σ H,t' F σ H->t F σ H):PS X st t':=λb s σ H F I a=>h _ s σ H F I (i F σ H a)
def PSs.imp{st:List Stmt}(h:PSs X st t)(i:∀F σ H,t' F σ H->t F σ H):PSs X st t':=λb s σ H F I a=>h _ s σ H F I (i F σ H a)
def PI.imp(h:PI X a e t)(i:∀σ H R,t' σ H R->t σ H R):PI X a e t':=λc s σ H R I b=>h _ s σ H R I (i σ H R b)
def PG.imp(h:PG X e t)(i:∀v σ H Q,t' v σ H Q->t v σ H Q):PG X e t':=λb s σ H v u Q I r a=>h _ s σ H v u Q I r (i v σ H Q a)
variable {H0 G0 H G:Hp}{σ:L2.St}{ρ:Ro}
def tOf.at(e:f ρ=some d)(s:SR K H0 G0 σ H G ρ)(h:∀v H' a,Gr H G H' a->Rp K a d v->SR K H0 G0 σ H' a ρ->Q v H'):tOf K f σ H Q:=
 ⟨ρ,d,H0,G0,G,e,s,λv H' a g r=>h v H' a g r (s.grow g)⟩
def tCof.at(e:f ρ=some d)(s:SR K H0 G0 σ H G ρ)(h:∀v H' a,Gr H G H' a->Ct K a H' d v->SR K H0 G0 σ H' a ρ->Q v H'):tCof K f σ H Q:=
 ⟨ρ,d,H0,G0,G,e,s,λv H' a g r=>h v H' a g r (s.grow g)⟩
def tCAof.at(e:f ρ=some l)(s:SR K H0 G0 σ H G ρ)(h:∀vs H' a,Gr H G H' a->jV K a H' l vs->SR K H0 G0 σ H' a ρ->Q vs H'):tCAof K f σ H Q:=
 ⟨ρ,l,H0,G0,G,e,s,λv H' a g r=>h v H' a g r (s.grow g)⟩
def ME.mc(h:ME X e f):MC X e f:=PE.imp h λk H Q ⟨c,d,b,a,G,e,s,h⟩=>⟨c,d,b,a,G,e,s,λv i j g r=>h v i j g (.of g.s r)⟩
def tTof.at(e:f ρ=some b)(s:SR K H0 G0 σ H G ρ)(h:∀H' a,Gr H G H' a->SR K H0 G0 σ H' a ρ->Q b H'):tTof K f σ H Q:=
 ⟨ρ,b,H0,G0,G,e,s,λH' a g=>h H' a g (s.grow g)⟩
def tAof.at(e:f ρ=some l)(s:SR K H0 G0 σ H G ρ)(h:∀vs H' a,Gr H G H' a->RpL K a l vs->SR K H0 G0 σ H' a ρ->Q vs H'):tAof K f σ H Q:=
 ⟨ρ,l,H0,G0,G,e,s,λv H' a g r=>h v H' a g r (s.grow g)⟩
end
noncomputable def b2{a:Type}(b fb:AU)(g:D->D->Option a):Ro->Option a:=λc=>(b c).bind λx=>(fb c).bind λy=>g x y
noncomputable def b1{a:Type}(b:AU)(g:D->Option a):Ro->Option a:=λc=>(b c).bind g
theorem nL(h:b2 a fb g ρ=some r):∃x y,a ρ=some x/\fb ρ=some y/\g x y=some r:=by
 obtain⟨x,c,h⟩:=qa h;obtain⟨y,b,h⟩:=qa h
 ext
def dU(h:b1 a g ρ=some r):∃x,a ρ=some x/\g x=some r:=by
 obtain⟨x,b,h⟩:=qa h;exact⟨x,b,h⟩
def d7(K:W7)(r:R2)(g:D->D->Option D):Prop:=∀(x y:V) (b a d:D) (H G:Hp) (Q:VK),g b a=some d->Same G H->Ct K G H b x->Ct K G H a y->(∀v e c,Gr H G e c->Rp K c d v->Q v e)->r x y H Q
def eu(K:W7)(r:R2)(g:D->D->Option Bool):Prop:=∀(x y:V) (c a:D) (b:Bool) (H G:Hp) (Q:VK),g c a=some b->Same G H->Ct K G H c x->Ct K G H a y->Q (.bl b) H->r x y H Q
def dM(K:W7)(r:AM->Hp->VK->Prop)(g:AN->Option D):Prop:=∀(a:AM) (c:AN) (d:D) (H G:Hp) (Q:VK),g c=some d->Same G H->jV K G H c a->(∀v b e,Gr H G b e->Rp K e d v->Q v b)->r a H Q
def ew(K:W7)(r:AM->Hp->VK->Prop)(g:AN->Option AN):Prop:=∀(c:AM) (d l:AN) (H G:Hp) (Q:VK),g d=some l->Same G H->jV K G H d c->
 (∀p e b a,Gr H G b a->H p=none->a p=none->b p=some (.lst e)->RpL K a l e->Q (.ref p) b)->r c H Q
section
variable {a b c e:Expr}{fb fc f:AU}{ga:AV}
noncomputable def ab(i:Nat):AU:=λa=>match a[i]? with
 | some (some (.sh d))=>some d
 | _=>none
noncomputable def de(i:Nat):AV:=λa=>match a[i]? with
 | some (some (.ow l))=>some l
 | _=>none
theorem Lm(h:ab i ρ=some d):ρ[i]?=some (some (B.sh d)):=by
 unfold ab at h;symm
theorem Av(h:de i ρ=some l):ρ[i]?=some (some (B.ow l)):=by
 unfold de at h;grind
noncomputable def aa(i:Nat):AU:=λc=>match c[i]? with
 | some (some (.sh d))=>some d
 | some (some (.ow l))=>some (.lst l)
 | some (some (.od t b a))=>some (.dct t b a)
 | _=>none
noncomputable def kD(d:D):AU:=λ_=>some d
abbrev aaa(i:Int):=kD (.int i)
def nM(h:PE X e t)(j:∀σ H Q,Q v H->t σ H Q)(i:∀G,Rp X.K G d v):ME X e (kD d):=
 PE.imp h λσ H Q g=>by
  obtain⟨a,b,l,k,G,e,s,h⟩:=g;cases e;exact j σ H Q (h v H G (.refl s.seen) (i G))
def nN{j}:ME X (.Constant (.int i) j pos) (aaa i):=nM yd (λ_ _ _ q=>q) λ_=>by rw[Rp]
def Aw{j}:ME X (.Constant (.bool k) j pos) (kD (.bl k)):=nM ye (λ_ _ _ q=>q) λ_=>by rw[Rp]
def Ax{j}:ME X (.Constant .none j pos) (kD .non):=nM yf (λ_ _ _ q=>q) λ_=>by rw[Rp]
def nO(m:d7 K r g)(h:tOf K (b2 fa fb g) σ H Q):jJ r (tCof K fa) (tCof K fb) σ H Q:=by
 obtain⟨c,d,I,J,G,e,s,h⟩:=h;obtain⟨n,C,y,k,z⟩:=nL e;exact tCof.at y s λv E F p t l=>tCof.at k l λu j B i q x=>m v u n C d j B Q z x.seen (t.grow i) q λw a b o A=>h w a b ((p.trans i).trans o) A
def Ay(m:eu K r g)(h:tTof K (b2 fa fb g) σ H Q):m8 (jJ r (tCof K fa) (tCof K fb)) σ H Q:=by
 obtain⟨a,d,B,E,G,e,s,h⟩:=h;obtain⟨n,y,t,w,l⟩:=nL e;exact tCof.at t s λv C A o q z=>tCof.at w z λu j k i p x=>m v u n y d j k _ l x.seen (q.grow i) p ⟨d,rfl,h j k (o.trans i)⟩
noncomputable def mB(f:AT):AU:=λa=>(f a).map .bl
def tZ{f:AT}(h:mB f ρ=some d):∃b,f ρ=some b/\d=.bl b:=by
 obtain⟨b,a,c⟩:=qc h;exact⟨b,a,c.symm⟩
def Az(m:eu K r g)(h:tOf K (mB (b2 fa fb g)) σ H Q):jJ r (tCof K fa) (tCof K fb) σ H Q:=by
 obtain⟨a,d,C,F,G,e,s,h⟩:=h;obtain⟨b,o,rfl⟩:=tZ e;obtain⟨n,z,w,x,l⟩:=nL o;exact tCof.at w s λv E B p t A=>tCof.at x A λu j k i q y=>m v u n z b j k _ l y.seen (t.grow i) q (h _ j k (p.trans i) (by rw[Rp]))
def lO(j:br X (binaryOp op) r)(i:d7 X.K r g)(d:MC X a fa)(c:MC X b fb):ME X (.BinOp a op b pos) (b2 fa fb g):=PE.imp (tB j d c) λ_ _ _ h=>nO i h
def jW(k:br X (compareOp op) r)(i:eu X.K r g)(d:MC X a fa)(e:MC X b fb)(j:behindInMarks op b=false):ME X (.Compare a [op] [b] pos) (mB (b2 fa fb g)):=PE.imp (Ko k d e j) λ_ _ _ h=>Az i h
def eQ(k:br X (compareOp op) r)(i:eu X.K r g)(d:MC X a fa)(e:MC X b fb)(j:behindInMarks op b=false):MT X (.Compare a [op] [b] pos) (b2 fa fb g):=PT.imp (zd k d e j) λ_ _ _ h=>Ay i h
def jX(j:IxR X r)(i:d7 X.K r g)(d:MC X a fa)(c:MC X b fb)(hs:jO b):ME X (.Subscript a b pos) (b2 fa fb g):=PE.imp (zW j d c hs) λ_ _ _ h=>nO i h
noncomputable def i2(C:Int->Int->Bool)(g:Int->Int->Int):D->D->Option D
 | .int i,.int j=>if C i j=true then some (.int (g i j))else none
 | _,_=>none
noncomputable def lP(g:Int->Int->Bool):D->D->Option Bool
 | .int i,.int j=>some (g i j)
 | _,_=>none
def t4(k:∀i j,n i j=true->C i j):d7 K (rI C λi j=>.int (g i j)) (i2 n g):=by
 intro x y p r d H G Q h s m o q;unfold i2 at h
 split at h
 .split at h
  .rename_i i j l
   cases h;subst m o;exact⟨i,j,rfl,rfl,k i j l,q _ H G (.refl s) (by rw[Rp])⟩
  .cases h
 .cases h
def Ln:d7 K (fU λi j=>.int (g i j)) (i2 (λ_ _=>true) g):=by
 intro x y m n d H G Q h s l k q;unfold i2 at h
 split at h
 .split at h
  .rename_i i j o
   cases h;subst l k;exact⟨i,j,rfl,rfl,q _ H G (.refl s) (by rw[Rp])⟩
  .cases h
 .cases h
def nP:eu K (fU λi j=>.bl (g i j)) (lP g):=by
 intro x y m n d H G Q h s l k q;unfold lP at h
 split at h
 .rename_i i j
  cases h;subst l k;exact⟨i,j,rfl,rfl,q⟩
 .cases h
def cM:D->D->Option D:=i2 (λ_ _=>true) λi j=>i+j
def eZ:D->D->Option D:=i2 (λ_ _=>true) λi j=>i-j
def fZ:D->D->Option D:=i2 (λi j=>decide (-(2^64)<i)&&decide (i<2^64)||(decide (-(2^64)<j)&&decide (j<2^64))) λi j=>i*j
def dg:D->D->Option D:=i2 (λ_ j=>decide (0<j)&&decide (j<1073741824)) λi j=>i/j
def a8:D->D->Option D:=i2 (λ_ j=>decide (0<j)) λi j=>i%j
def gE:=lP λi j=>decide (i<j)
def Lo:=lP λi j=>decide (i<=j)
def AI:=lP λi j=>decide (j<i)
def AO:=lP λi j=>decide (j<=i)
mutual
def bo:D->Nat
 | .tup l=>bR l+1
 | .lst l=>bR l+1
 | .scr _=>1
 | .dct _ _ _=>1000
 | .obj _ _ _=>1000
 | .adr _=>1000
 | _=>0
def bR:AN->Nat
 | []=>0
 | d::l=>max (bo d) (bR l)
end
mutual
theorem nQ:∀d:D,(aE d).depth<=bo d
 | .non=>by simp[aE,PyData.depth]
 | .bl b=>by simp[aE,PyData.depth]
 | .int b=>by simp[aE,PyData.depth]
 | .str b=>by simp[aE,PyData.depth]
 | .tup l=>by have:=AY l;simp[aE,PyData.depth,bo];lia
 | .lst l=>by have:=AY l;simp[aE,PyData.depth,bo];lia
 | .scr ns=>by rw[aE,PyData.depth,bo,W.ke_depthAll];grind
 | .dct _ _ _=>by simp[aE,PyData.depth]
 | .obj _ _ _=>by simp[aE,PyData.depth]
 | .adr _=>by simp[aE,PyData.depth]
theorem AY:∀l,PyData.depthAll (da l)<=bR l
 | []=>by simp[da,PyData.depthAll]
 | d::l=>by have g:=nQ d;have h:=AY l;simp[da,PyData.depthAll,bR];lia
end
section
variable {σ:L2.St}{H:Hp}{s:Shared}
mutual
theorem hP(I:Inv X pins σ H s):∀{d:D}{v:V}{u:Value},bo d<=100->Rp X.K H d v->RelV v u->∃j,Reads s.heap u (aE d) j/\(aE d).canLay0=true
 | .non,v,u,_,r,q=>by
   subst r;cases q;exact⟨_,by exact .none,by simp[aE,PyData.canLay0]⟩
 | .bl b,v,u,_,r,q=>by
   subst r;cases q;exact⟨_,by exact .bool b,by simp[aE,PyData.canLay0]⟩
 | .int i,v,u,_,r,q=>by
   subst r;obtain⟨t,rfl⟩:=q;exact⟨_,by exact .int i t,by simp[aE,PyData.canLay0]⟩
 | .str x,v,u,_,r,q=>by
   obtain⟨rfl,G⟩:=r;obtain⟨t,rfl⟩:=q;exact⟨_,by exact .str x t,by simp[aE,PyData.canLay0,G]⟩
 | .tup l,v,u,h,r,q=>by
   obtain⟨a,xs,rfl,g,y⟩:=r;cases q
   obtain⟨_,its,p,C⟩:=(I.hok a _ g)
   obtain⟨o,w,k,n,m⟩:=C;obtain⟨j,q,z⟩:=AZ I (by simp [bo]at h;ac_nf) y p;exact⟨_,.tuple w k m (by simpa using q),by simpa [aE,PyData.canLay0]using z⟩
 | .lst l,v,u,h,r,q=>by
   obtain⟨a,xs,rfl,g,y⟩:=r;cases q;obtain⟨its,p,pl,_⟩:=I.list (.inl g);obtain⟨o,w,k,n,m⟩:=pl.isList;obtain⟨j,q,z⟩:=AZ I (by simp [bo]at h;ac_nf) y p;exact⟨_,.list w k m (by simpa using q),by simpa [aE,PyData.canLay0]using z⟩
 | .dct _ _ _,v,u,h,r,q=>by simp[bo]at h
 | .obj _ _ _,v,u,h,r,q=>by simp[bo]at h
 | .adr _,v,u,h,r,q=>by simp[bo]at h
 | .scr ns,v,u,_,r,q=>by
   obtain⟨a,rfl,g⟩:=r;cases q;obtain⟨its,p,pl,_⟩:=I.list g;exact⟨_,W.reads_of_ints pl.isList (tJ p),by rw[aE];simp[PyData.canLay0,W.ke_canLayAll0]⟩
theorem AZ(I:Inv X pins σ H s):∀{l:AN}{xs:AM}{us:AC},bR l<=100->RpL X.K H l xs->Vals xs us->∃j,ReadsAll s.heap us (da l) j/\PyData.canLayAll0 (da l)=true
 | [],xs,us,_,r,q=>by
   subst r;cases q;exact⟨_,by exact .nil,by simp[da,PyData.canLayAll0]⟩
 | d::l,xs,us,h,r,q=>by
   obtain⟨x,xs,rfl,J,E⟩:=r;rw[bR]at h
   cases q with
   | cons B A=>
     obtain⟨j,w,k⟩:=hP I ∅ J B;obtain⟨L,m,F⟩:=AZ I ∅ E A;exact⟨_,by exact .cons w m,by simp[da,PyData.canLayAll0,k,F]⟩
end
end
theorem lQ(l:AN)(d:D):((da l).any λy=>PyData.eqv y (aE d))=l.any λy=>bQ y d:=by
 induction l with
 | nil=>simp[da]
 | cons e l g=>
   rw[da,List.any_cons,g];rfl
def aI(g:Bool):D->D->Option Bool:=λd e=>if bo d<=60/\bo e<=60 then some (if g then !bQ d e else bQ d e)else none
def jY(K:W7)(g:Bool):R2:=λx y H Q=>∃d e,Rp K H d x/\Rp K H e y/\(bo d<=60/\bo e<=60)/\Q (.bl (if g then !bQ d e else bQ d e)) H
theorem nR(r:X.A.units+64<cLine):br X (compareOp .Eq) (jY X.K false):=by
 intro b s p H x y v u Q I m c h;obtain⟨d,e,n,j,t,q⟩:=h;obtain⟨g,i,o⟩:=hP I ∅ n m;obtain⟨l,k,f⟩:=hP I ∅ j c;exact SeqAt.eqOverData _ X.w X.A _ s v u _ _ g l _ i k o f (by have:=nQ e;ac_nf) ⟨.bl _,H,I,rfl,q⟩
theorem nT(z:X.A.units+64<cLine):br X (compareOp .NotEq) (jY X.K true):=by
 intro b s c H x y v u Q I o i h;obtain⟨d,e,m,j,w,q⟩:=h;obtain⟨r,p,k⟩:=hP I ∅ m o;obtain⟨n,t,l⟩:=hP I ∅ j i;exact SeqAt.neOverData _ X.w X.A _ s v u _ _ r n _ p t k l (by have:=nQ d;symm) ⟨.bl _,H,I,rfl,q⟩
theorem t5:eu K (jY K d) (aI d):=by
 intro x y i j b H G Q h s k g q;unfold aI at h
 split at h
 .cases h
  exact⟨i,j,k.rp s,g.rp s,by assumption,q⟩
 .cases h
noncomputable def Yc:D->Option AN
 | .tup l=>some l
 | .lst l=>some l
 | .scr a=>some (a.map .int)
 | _=>none
def hV(d:D)(l:AN):Bool:=l.any λy=>bQ y d
def dV(g:Bool):D->D->Option Bool:=λd c=>(Yc c).bind λl=>if bR l<=60/\bo d<=60 then some (if g then !hV d l else hV d l)else none
def jZ(K:W7)(g:Bool):R2:=λx y H Q=>∃d c l,Rp K H d x/\Rp K H c y/\Yc c=some l/\(bR l<=60/\bo d<=60)/\Q (.bl (if g then !hV d l else hV d l)) H
def hX{c:D}(h:Yc c=some l):c=.tup l\/c=.lst l\/∃ns,c=.scr ns/\l=ns.map D.int:=by
 cases c with
 | tup m=>cases h;exact .inl rfl
 | lst m=>cases h;exact .inr (.inl rfl)
 | scr ns=>cases h;exact .inr (.inr ⟨ns,rfl,rfl⟩)
 | non=>cases h
 | bl _=>cases h
 | int _=>cases h
 | str _=>cases h
 | dct _ _ _=>cases h
 | obj _ _ _=>cases h
 | adr _=>cases h
theorem A0:∀ns:AF,da (ns.map D.int)=ns.map PyData.int
 | []=>by simp[da]
 | n::ns=>by simp[da,aE,A0 ns]
theorem nU(B:X.A.units+64<cLine):br X (compareOp .In) (jZ X.K false):=by
 intro b s f H x y v u Q I t o h;obtain⟨d,c,l,p,w,n,C,q⟩:=h;obtain⟨E,m,k⟩:=hP I ∅ p t
 have r:bo c<=61:=by
  rcases hX n with rfl|rfl|⟨e,rfl,rfl⟩
  .rw[bo];ext
  .rw[bo];ext
  .rw[bo];ac_nf
 obtain⟨A,j,i⟩:=hP I ∅ w o;have z:=nQ d;rcases hX n with rfl|rfl|⟨e,rfl,rfl⟩
 .rw[aE]at j i
  exact SeqAt.in_tuple_reads j m (by simpa [PyData.canLay0]using i) k ∅ ⟨.bl _,H,I,rfl,by rwa [lQ]⟩
 .rw[aE]at j i
  exact SeqAt.in_list_reads j m (by simpa [PyData.canLay0]using i) k ∅ ⟨.bl _,H,I,rfl,by rwa [lQ]⟩
 .rw[aE,<-A0]at j i
  exact SeqAt.in_list_reads j m (by simpa [PyData.canLay0]using i) k ∅ ⟨.bl _,H,I,rfl,by rwa [lQ]⟩
theorem R6(B:X.A.units+64<cLine):br X (compareOp .NotIn) (jZ X.K true):=by
 intro b s f H x y v u Q I t o h;obtain⟨d,c,l,p,w,n,C,q⟩:=h;obtain⟨E,m,k⟩:=hP I ∅ p t
 have r:bo c<=61:=by
  rcases hX n with rfl|rfl|⟨e,rfl,rfl⟩
  .rw[bo];ac_nf
  .rw[bo];ac_nf
  .rw[bo];ac_nf
 obtain⟨A,j,i⟩:=hP I ∅ w o;have z:=nQ d;rcases hX n with rfl|rfl|⟨e,rfl,rfl⟩
 .rw[aE]at j i
  exact SeqAt.notIn_tuple_reads j m (by simpa [PyData.canLay0]using i) k ∅ ⟨.bl _,H,I,rfl,by rwa [lQ]⟩
 .rw[aE]at j i
  exact SeqAt.notIn_list_reads j m (by simpa [PyData.canLay0]using i) k ∅ ⟨.bl _,H,I,rfl,by rwa [lQ]⟩
 .rw[aE,<-A0]at j i
  exact SeqAt.notIn_list_reads j m (by simpa [PyData.canLay0]using i) k ∅ ⟨.bl _,H,I,rfl,by rwa [lQ]⟩
theorem A3:eu K (jZ K d) (dV d):=by
 intro x y i k b H G Q h s m g q;obtain⟨l,j,h⟩:=qa h
 split at h
 .cases h
  exact⟨i,k,l,m.rp s,g.rp s,j,by assumption,q⟩
 .cases h
end
section
variable {a b c e:Expr}{fb f:AU}{fc fd:AT}{ga:AV}
noncomputable def aQ:D->Option Bool
 | .non=>some false
 | .bl b=>some b
 | .int i=>some (i != 0)
 | .tup l=>some (!l.isEmpty)
 | .lst l=>some (!l.isEmpty)
 | .scr a=>some (!a.isEmpty)
 | .str _=>none
 | .dct _ _ _=>none
 | .obj _ _ _=>none
 | .adr _=>none
theorem A4(h:aQ d=some k)(r:Ct X.K G H d v):jM X.K v H k:=by
 cases d with
 | non=>subst r;cases h;rfl
 | bl b=>subst r;cases h;rfl
 | int i=>subst r;cases h;rfl
 | str x=>cases h
 | dct _ _ _=>cases h
 | obj _ _ _=>cases h
 | adr _=>cases h
 | tup l=>
   obtain⟨a,c,rfl,g,j⟩:=r;cases h;refine .inr (.inl ⟨c,.inl (.inl g.1),?_⟩);have:=j.length;grind
 | lst l=>
   obtain⟨a,c,rfl,g,j⟩:=r;cases h;refine .inl ⟨c,.inl g,?_⟩;have:=j.length;grind
 | scr e=>
   obtain⟨a,rfl,g⟩:=r;cases h;refine .inl ⟨_,g,?_⟩;cases e<;>simp
def b_(fc fd:AT):AT:=λa=>(fc a).bind λk=>if k=true then fd a else some false
noncomputable def f6(fc fd:AT):AT:=λa=>(fc a).bind λk=>if k=true then some true else fd a
noncomputable def d8(fc:AT):AT:=λa=>(fc a).map (!·)
abbrev MW(X:Cx)(e:Expr)(f:AT):Prop:=PW X e (tTof X.K f)
def PW.imp(h:PW X e t)(i:∀σ H Q,t' σ H Q->t σ H Q):PW X e t':=λd a s σ H Q I g=>h d _ s σ H Q I (i σ H Q g)
theorem A5(h:tTof K (b_ fc fd) σ H Q):mT (tTof K fc) (tTof K fd) σ H Q:=by
 obtain⟨a,k,p,r,G,e,s,h⟩:=h;unfold b_ at e;obtain⟨g,j,e⟩:=qa e;refine tTof.at j s λq o d l=>?_
 cases g with
 | true=>
   rw[if_pos rfl]at e ⊢;exact tTof.at e l λi m n _=>h i m (d.trans n)
 | false=>
   grind
theorem A6(h:tTof K (f6 fc fd) σ H Q):Kc (tTof K fc) (tTof K fd) σ H Q:=by
 obtain⟨a,k,p,r,G,e,s,h⟩:=h;unfold f6 at e;obtain⟨g,j,e⟩:=qa e;refine tTof.at j s λq o d l=>?_
 cases g with
 | false=>
   rw[if_neg qi]at e ⊢;exact tTof.at e l λi m n _=>h i m (d.trans n)
 | true=>
   symm
def j0:D->Option Bool
 | .bl b=>some b
 | _=>none
def Lp(h:j0 d=some k):d=.bl k:=by cases d<;>simp[j0]at h;subst h;rfl
def ey(fa fb:AU):AU:=λa=>(b1 fa j0 a).bind λk=>if k=true then fb a else some (.bl false)
def hY(fa:AU):AU:=λa=>(b1 fa j0 a).map λk=>.bl (!k)
noncomputable def i0(fc:AT)(fa fb:AU):AU:=λa=>(fc a).bind λk=>if k=true then fa a else fb a
noncomputable def j3:D->Bool
 | .non=>true
 | _=>false
def Lq(r:Ct K G H d v):decide (v=V.non)=j3 d:=by
 cases d with
 | non=>subst r;rfl
 | bl _=>subst r;rfl
 | int _=>subst r;rfl
 | str _=>obtain⟨rfl,_⟩:=r;rfl
 | tup _=>obtain⟨_,_,rfl,_⟩:=r;rfl
 | lst _=>obtain⟨_,_,rfl,_⟩:=r;rfl
 | scr _=>obtain⟨_,rfl,_⟩:=r;rfl
 | dct _ _ _=>obtain⟨_,_,_,rfl,_⟩:=r;rfl
 | obj _ _ _=>obtain⟨_,_,_,_,rfl,_⟩:=r;rfl
 | adr _=>subst r;rfl
def bU(g:Bool):D->D->Option Bool:=λd e=>if j3 e then some (if g then !j3 d else j3 d)else none
def A7:eu K (λx y H Q=>y=.non/\Q (.bl (decide (x=.non))) H) (bU false):=by
 intro x y k i b H G Q h s g j q;unfold bU at h
 split at h
 .rename_i d
  cases h;cases i<;>simp[j3]at d;exact⟨j,by rwa [Lq g]⟩
 .cases h
def Lr:eu K (λx y H Q=>y=.non/\Q (.bl (!decide (x=.non))) H) (bU true):=by
 intro x y k i b H G Q h s g j q;unfold bU at h
 split at h
 .rename_i d
  cases h;cases i<;>simp[j3]at d;exact⟨j,by rwa [Lq g]⟩
 .cases h
def ao:D->D->Option D
 | c,.int i=>(Yc c).bind λl=>bD l i
 | _,_=>none
theorem A8(r:RpL K G l xs)(h:bD l i=some d):∃x,bD xs i=some x/\Rp K G d x:=by
 unfold bD at h ⊢;rw[r.length];obtain⟨j,k,g⟩:=qa h;obtain⟨x,m,n⟩:=r.get g
 ext
def A9:d7 X.K (KY X.K) ao:=by
 intro x y u w d H G Q h s n r q;unfold ao at h
 split at h
 .rename_i c i
  obtain⟨l,t,m⟩:=qa h;subst r;rcases hX t with rfl|rfl|⟨b,rfl,rfl⟩
  .obtain⟨p,a,rfl,g,o⟩:=n
   obtain⟨v,k,j⟩:=A8 o m;exact .inr (.inl ⟨p,a,i,v,rfl,rfl,.inl (.inl g.1),k,q v H G (.refl s) j⟩)
  .obtain⟨p,a,rfl,g,o⟩:=n
   obtain⟨v,k,j⟩:=A8 o m;exact .inl ⟨p,a,i,v,rfl,rfl,.inl g,k,q v H G (.refl s) j⟩
  .obtain⟨p,rfl,g⟩:=n
   obtain⟨v,k,j⟩:=A8 (.ints b) m;exact .inl ⟨p,_,i,v,rfl,rfl,g,k,q v H G (.refl s) j⟩
 .cases h
def Ls(c:MC X a fa)(d:MC X b fb)(hs:jO b:=by intro _ _;rfl):ME X (.Subscript a b pos) (b2 fa fb ao):=jX zY A9 c d hs
def hZ:D->Option Int
 | .int i=>some i
 | _=>none
def cV(f:Option AU):Ro->Option (Option Int):=λa=>match f with
 | none=>some none
 | some f=>(b1 f hZ a).map some
def bN(l:AN)(lo g:Option Int):AN:=(l.drop (HT.sIx l.length 0 lo)).take (HT.sIx l.length l.length g-HT.sIx l.length 0 lo)
noncomputable def e_:D->Option AN
 | .lst l=>some l
 | .scr a=>some (a.map .int)
 | _=>none
def Lu(h:e_ d=some l)(r:Ct K G H d v):∃p xs,v=.ref p/\SqL K H p xs/\RpL K G l xs:=by
 cases d with
 | lst m=>
   cases h;obtain⟨p,xs,e,g,q⟩:=r;exact⟨p,xs,e,.inl g,q⟩
 | scr a=>
   cases h;obtain⟨p,e,g⟩:=r;exact⟨p,_,e,g,.ints a⟩
 | non=>cases h
 | bl _=>cases h
 | int _=>cases h
 | str _=>cases h
 | tup _=>cases h
 | dct _ _ _=>cases h
 | obj _ _ _=>cases h
 | adr _=>cases h
def t6(fa:AU)(lo d:Option AU):AV:=λa=>(b1 fa e_ a).bind λl=>(cV lo a).bind λi=>(cV d a).bind λj=>some (bN l i j)
abbrev tO(K:W7)(f:Option AU):TO:=match f with
 | none=>KQ
 | some f=>nu (tCof K f)
def h8{f:Option AU}(e:cV f ρ=some i)(s:SR K q r σ H G ρ)(h:∀H' a,Gr H G H' a->SR K q r σ H' a ρ->Q i H'):tO K f σ H Q:=by
 cases f with
 | none=>
   cases e;exact h H G (.refl s.seen) s
 | some f=>
   obtain⟨k,p,rfl⟩:=qc e;obtain⟨d,n,g⟩:=dU p
   refine tCof.at n s λv l t o j m=>⟨k,?_,h l t o m⟩
   cases d<;>simp[hZ]at g;subst g;exact j
def A_:PO X none (tO X.K none):=zO
noncomputable def lF(f:AV):AU:=λa=>(f a).map .lst
def MF.me(h:MF X e g):ME X e (lF g):=PE.imp h λw H Q i=>by
 obtain⟨a,d,m,u,G,e,s,h⟩:=i;obtain⟨l,t,rfl⟩:=qc e
 exact⟨a,l,m,u,G,t,s,λp f c v g k j n r=>h _ c _ (g.show k j n) (by
  refine⟨p,f,rfl,.inl Yg,r.mono λb o q=>?_⟩
  rwa [Yh (Yk q j)])⟩
def ae:AV:=λ_=>some []
noncomputable def Yb(f:AU)(g:AV):AV:=λa=>(f a).bind λd=>(g a).map (d::·)
def Ba:MA X [] ae:=PA.imp fW λb H Q d=>by
 obtain⟨a,l,i,g,G,e,s,h⟩:=d;cases e;exact h [] H G (.refl s.seen) .nil
def Bb(p:ME X e f)(k:MA X es ga)(hs:aab X e es:=by rfl):MA X (e::es) (Yb f ga):=PA.imp (fX p k hs) λc H Q g=>by
 obtain⟨a,l,w,A,G,e,s,h⟩:=g;obtain⟨d,t,e⟩:=qa e;obtain⟨y,m,rfl⟩:=qc e;exact tOf.at t s λv z x r q o=>tAof.at m o λb j u i n _=>h _ j u (r.trans i) (.cons (q.mono i.g) n)
def i3:tX X [] ae:=PA.imp fW λb H Q d=>by
 obtain⟨a,l,i,g,G,e,s,h⟩:=d;cases e;exact h [] H G (.refl s.seen) rfl
def i4(p:MC X e f)(k:tX X es ga)(hs:aab X e es:=by rfl):tX X (e::es) (Yb f ga):=PA.imp (fX p k hs) λc H Q g=>by
 obtain⟨b,l,w,A,G,e,s,h⟩:=g;obtain⟨d,t,e⟩:=qa e;obtain⟨y,m,rfl⟩:=qc e;exact tCof.at t s λv z x r q o=>tCAof.at m o λa j u i n _=>h _ j u (r.trans i) ⟨v,a,rfl,q.grow i,n⟩
noncomputable def ax:Nat:=1000000
def f7(h:n<=ax):n<=sizeLine:=Qg h (by decide)
def ar(ga:AV):AU:=λa=>(ga a).bind λl=>if l.length<=ax then some (.tup l)else none
def bE(ga:AV):AV:=λa=>(ga a).bind λl=>if l.length<=ax then some l else none
theorem nV(h:MA X es ga):MF X (.List es pos) (bE ga):=PE.imp (ni h) λn H Q b=>by
 obtain⟨r,d,m,o,G,e,s,h⟩:=b;obtain⟨l,k,e⟩:=qa e
 split at e
 .cases e
  exact tAof.at k s λi q j c f g=>⟨by rw[f.length];exact f7 (by assumption),λp a=>h p i _ j (c.trans (.hid g.seen a _)) (c.h.free a) (g.seen.free a) Yg f⟩
 .cases e
noncomputable def cC(ga:AV)(g:AN->Option D):AU:=λa=>(ga a).bind g
noncomputable def cF(ga:AV)(g:AN->Option AN):AV:=λa=>(ga a).bind g
def nW(m:dM K r g)(h:tOf K (cC ga g) σ H Q):tF r (tCAof K ga) σ H Q:=by
 obtain⟨f,d,w,x,G,e,s,h⟩:=h;obtain⟨l,t,n⟩:=qa e;exact tCAof.at t s λa k i u p j=>m a l d k i Q n j.seen p λv b c q o=>h v b c (u.trans q) o
def Lv(m:ew K r g)(h:hJ K (cF ga g) σ H Q):tF r (tCAof K ga) σ H Q:=by
 obtain⟨B,d,z,A,G,e,s,h⟩:=h;obtain⟨l,v,n⟩:=qa e;exact tCAof.at v s λa k j i t w=>m a l d k j Q n w.seen t λp b f c u x q y o=>h p b f c (i.trans u) (i.h.free x) q y o
section
variable {x:Str}{p:Pos}{id T:String}{r:AM->Hp->VK->Prop}{g:AN->Option D}{gf:AN->Option AN}
end
def cx(K:W7)(n:Nat)(g:AN->Option D):Sp:=λa H Q _=>a.length=n/\∃c d G,Same G H/\RpL K G c a/\g c=some d/\∀v b e,Gr H G b e->Rp K e d v->Q v b
theorem Bc{p:Pos}(F:FnOk X.prog X.w X.K X.mg X.base cJ k g m ps (cx X.K n A))(E:Room k X.A)(z:Gl X x)(a:X.mg x=some (.ref g))(u:W.keepIn X.K (.ref g)=true)(D:Binds X.K m ps [])(L:MA X (e::es) ga)(o:cu x:=by decide)(w:starEach (e::es) X.env=(false,eval e X.env)::starEach es X.env:=by rfl)(j:(backTo pos (starEach es X.env)).any (·.1)=false:=by rfl)(R:∀ρ l,ga ρ=some l->l.length=n):ME X (.Call (.Name x p) (e::es) [] pos) (cC ga A):=
 PE.imp (zx F E z a u D .nil tN L o w j) λM H Q i=>by
  obtain⟨ρ,d,N,O,G,e,s,h⟩:=i;obtain⟨l,t,C⟩:=qa e;refine tAof.at t s λK P B J q r=>?_;rw[w9];exact⟨by rw[q.length];grind,l,d,B,r.seen,q,C,λv b c I y=>h v b c (J.trans I) y⟩
def Bd(h:ae ρ=some l):l.length=0:=by cases h;rfl
theorem t7(i:∀ρ l,g ρ=some l->l.length=n):∀ρ l,Yb f g ρ=some l->l.length=n+1:=λρ l h=>by
 obtain⟨d,k,e⟩:=qa h;obtain⟨m,j,rfl⟩:=qc e;grind
def aU:AN->Option D
 | [c]=>(Yc c).map λl=>.int l.length
 | _=>none
def nX{c:D}(h:Yc c=some l)(r:Ct K G H c v):∃p xs,v=.ref p/\(SqL K H p xs\/SqT K H p xs)/\RpL K G l xs:=by
 rcases hX h with rfl|rfl|⟨a,rfl,rfl⟩
 .obtain⟨p,xs,rfl,g,d⟩:=r
  exact⟨p,xs,rfl,.inr (.inl (.inl g.1)),d⟩
 .obtain⟨p,xs,rfl,g,d⟩:=r
  exact⟨p,xs,rfl,.inl (.inl g),d⟩
 .obtain⟨p,rfl,g⟩:=r
  exact⟨p,_,rfl,.inl g,.ints a⟩
theorem lR(h:RpL K G [d] vs):∃v,vs=[v]/\Rp K G d v:=by
 obtain⟨x,r,rfl,i,g⟩:=h;rw[RpL]at g;grind
theorem eR(h:jV K G H [d] vs):∃v,vs=[v]/\Ct K G H d v:=by
 obtain⟨x,r,rfl,i,g⟩:=h;cases (g);grind
def t8:dM X.K (λxs H Q=>∃p ys,xs=[.ref p]/\(SqL X.K H p ys\/SqT X.K H p ys)/\Q (.int ys.length) H) aU:=by
 intro b a d H G Q h s r q
 match a,h,r with
 | [c],h,r=>
   obtain⟨l,k,rfl⟩:=qc h;obtain⟨v,rfl,g⟩:=eR r;obtain⟨p,xs,rfl,j,i⟩:=nX k g;exact⟨p,xs,rfl,j,q _ H G (.refl s) (by rw[Rp,i.length])⟩
def nY:AN->Option AN
 | [c]=>Yc c
 | _=>none
def Be:ew X.K (λxs H Q=>∃p ys,xs=[.ref p]/\(SqL X.K H p ys\/SqT X.K H p ys)/\∀l,H l=none->Q (.ref l) (upd H l (.lst ys))) nY:=by
 intro b a l H G Q h s r q
 match a,h,r with
 | [c],h,r=>
   obtain⟨v,rfl,j⟩:=eR r;obtain⟨p,xs,rfl,i,g⟩:=nX h j;exact⟨p,xs,rfl,i,λm d=>q m xs _ G (.hid s d _) d (s.free d) Yg g⟩
def a9:AN->Option D
 | [c]=>(Yc c).map .tup
 | _=>none
theorem nZ:dM X.K (λxs H Q=>∃p ys,xs=[.ref p]/\((SqL X.K H p ys/\∀l,H l=none->Q (.ref l) (upd H l (.tup ys)))\/(SqT X.K H p ys/\Q (.ref p) H))) a9:=by
 intro e b d H G Q h s r q
 match b,h,r with
 | [c],h,r=>
   obtain⟨l,n,rfl⟩:=qc h;obtain⟨v,rfl,j⟩:=eR r;rcases hX n with rfl|rfl|⟨a,rfl,rfl⟩
   .obtain⟨p,xs,rfl,g,k⟩:=j
    exact⟨p,xs,rfl,.inr ⟨.inl (.inl g.1),q _ H G (.refl s) (by rw[Rp];ext)⟩⟩
   .obtain⟨p,xs,rfl,g,k⟩:=j
    exact⟨p,xs,rfl,.inl ⟨.inl g,λm i=>q _ _ _ (.new s i _) (⟨m,xs,rfl,Yg,k.mono (Gr.new s i _).g⟩)⟩⟩
   .obtain⟨p,rfl,g⟩:=j
    exact⟨p,_,rfl,.inl ⟨g,λm i=>q _ _ _ (.new s i _) (⟨m,_,rfl,Yg,.ints a⟩)⟩⟩
end
section
variable {e:Expr}{f:AU}{fs gs:AR}
def aw:AR:=λa=>some (.nx a)
noncomputable def ag(f g:AR):AR:=λb=>(f b).bind fun
 | .nx a=>g a
 | o=>some o
def Bf:MB X [] aw:=PSs.imp Ke λF d H a=>by
 obtain⟨g,f,c,b,G,e,s,h⟩:=a;cases e;exact h d H G s
noncomputable def frz1(i:Nat)(ρ:Ro):Ro:=match ρ[i]? with
 | some (some (.ow l))=>ρ.set i (↑(.lst l))
 | some (some (.od t b a))=>ρ.set i (↑(.dct t b a))
 | _=>ρ
def SR.frz1(s:SR K H0 G0 σ H G ρ)(i:Nat):∃G',SR K H0 G0 σ H G' (M.frz1 i ρ):=by
 unfold M.frz1
 split
 .rename_i l hl
  exact s.freeze hl
 .rename_i t ks vs hl
  exact s.freezed hl
 .exact⟨G,s⟩
def frz(a:AE)(ρ:Ro):Ro:=a.foldl (λr i=>frz1 i r) ρ
theorem SR.frz:∀(a:AE) {G:Hp}{ρ:Ro},SR K c b σ H G ρ->∃d,SR K c b σ H d (M.frz a ρ)
 | [],G,_,s=>⟨G,s⟩
 | i::a,_,ρ,s=>by
   obtain⟨d,e⟩:=s.frz1 i;exact SR.frz a e
theorem SR.frz1T(s:SR K d c σ H G ρ)(i:Nat):∃e,SR K d c σ H e (M.frz1 i ρ)/\∀b ys,e b=some (.tup ys)->G b=some (.tup ys):=by
 unfold M.frz1
 split
 .rename_i l a
  exact s.freezeT a
 .rename_i t g f a
  exact s.freezedT a
 grind
theorem SR.frzT:∀(a:AE) {G:Hp}{ρ:Ro},SR K j c σ H G ρ->∃f,SR K j c σ H f (M.frz a ρ)/\∀b ys,f b=some (.tup ys)->G b=some (.tup ys)
 | [],G,_,s=>⟨G,s,λ_ _ h=>h⟩
 | i::a,_,ρ,s=>by
   obtain⟨f,m,g⟩:=s.frz1T i;obtain⟨k,l,d⟩:=SR.frzT a m;exact⟨k,l,λb ys e=>g b ys (d b ys e)⟩
def wF(a:AE)(f:AR):AR:=λb=>f (frz a b)
noncomputable def aq(i:Nat)(f:AU):AR:=λa=>(f a).map λd=>.nx (a.set i (↑d))
noncomputable def bb(i:Nat)(f:AV):AR:=λa=>(f a).map λl=>.nx (a.set i (some (.ow l)))
def Bg(h:tW K (aq i f) F σ H):fT (tOf K f) (lH i) F σ H:=by
 obtain⟨o,n,m,l,G,e,s,h⟩:=h;obtain⟨d,c,rfl⟩:=qc e;exact tOf.at c s λv b j k a g=>h _ b j (g.set_sh i a)
def Bh(h:tW K (bb i gl) F σ H):fT (hJ K gl) (lH i) F σ H:=by
 obtain⟨o,m,d,k,G,e,s,h⟩:=h;obtain⟨l,c,rfl⟩:=qc e;exact⟨o,l,d,k,G,c,s,λp q n f g a j b r=>h _ n f (s.set_ow i g a j b r)⟩
theorem n0(i:Nat)(a:X.N.Nodup)(g:ME X e f)(c:X.N[i]?=some x:=by rfl)(b:c9 X.env.scope x:=by trivial)(hs:swapsWith e (some (.Name x pos')) pos.line X.env=pure false:=by rfl)(d:aae X x:=by trivial):MS X (.Assign [.Name x pos'] e pos) (aq i f):=PS.imp (jI a c b g hs d) λ_ _ _ h=>Bg h
noncomputable def ah(f:AU):AR:=λa=>(f a).map .rt
noncomputable def aV(c:AT)(f g:AR):AR:=λa=>(c a).bind λk=>if k=true then f a else g a
def j4(i:Nat)(f:AU):AR:=λc=>(ab i c).bind λx=>(f c).bind λy=>(i2 (λ_ _=>true) (λa b=>a+b) x y).map λz=>.nx (c.set i (↑z))
def cW(i:Nat)(f:AU)(g:AN->D->Option AN):AR:=λb=>(de i b).bind λl=>(f b).bind λd=>(g l d).map λa=>.nx (b.set i (some (.ow a)))
theorem n3(s:SR K k b σ H G ρ)(h:de i ρ=some l):∃a xs,σ[i]?=some (some (V.ref a))/\H a=some (.lst xs)/\RpL K G l xs/\G a=none:=by
 obtain⟨a,xs,j,g,c,d,m⟩:=s.ow i l (Av h)
 ext
def cb(l:AN)(d:D):Option AN:=if l.length<ax then some (l++[d])else none
def n4(l:ds.length<=sizeLine)(h:∀(i:Nat) a b,Same G' b->Same b a->(∀d,ds[i]?=some d->J.go i a/\∀y g,J.yld i a y g->g=a/\Rp K b d y)/\(ds.length<=i->J.stop i a)):Wk K J G' ds:=
 ⟨l,λi a b j c=>⟨λd k=>⟨((h i a b j c).1 d k).1,λy g q=>by
  obtain⟨rfl,r⟩:=((h i a b j c).1 d k).2 y g q
  exact⟨b,.refl c,r⟩⟩,(h i a b j c).2⟩⟩
def Bi(K:W7)(c:TE):TI:=λe H R=>c e H λx b=>∃a d,x=.ref a/\((SqL K b a d/\(d.length<=sizeLine->R (Kk K a) b))\/(SqT K b a d/\(d.length<=sizeLine->R (Kl K a) b)))
theorem Bj(t:PE X l u):PI X tg l (Bi X.K u):=by
 intro w s z H R I h;refine az (t _ s z H _ I h) λv d k=>?_;obtain⟨x,m,c,n,j⟩:=k;obtain⟨a,A,e,j⟩:=j;subst e;cases n;rcases j with⟨i,q⟩|⟨i,q⟩
 .obtain⟨f,r,p,g⟩:=c.list i
  refine wpAny_pyIter_list p.isList (⟨d.heap.objs.size,[d.heap.objs.size],_,_,m,rfl,c.kept λb o e=>qe _ e,QW a _,⟨_,qp _ rfl,rfl,rfl⟩,λb y=>?_,q g⟩)
  have e:b=d.heap.objs.size:=by symm
  subst e;exact c.fpOk (qv _) (c.hok.fresh (qv _))
 .obtain⟨f,r,p,g⟩:=c.tuple i
  refine wpAny_pyIter_tuple (p) (⟨d.heap.objs.size,[d.heap.objs.size],_,_,m,rfl,c.kept λb o e=>qe _ e,QX a _,⟨_,qp _ rfl,rfl,rfl⟩,λb y=>?_,q g⟩)
  have e:b=d.heap.objs.size:=by symm
  subst e;exact c.fpOk (qv _) (c.hok.fresh (qv _))
noncomputable def cX(a n:Int):AN:=(List.range (n-a).toNat).map λi=>.int (a+(i:Nat))
def Lx(a n:Int):(cX a n).length=(n-a).toNat:=by simp[cX]
theorem n5(k:(n-a).toNat<=sizeLine):Wk K (m4 a (n-a).toNat) G' (cX a n):=
 n4 (by rwa [Lx]) λi h g _ _=>⟨λd c=>by
  unfold cX at c;rw[Qm]at c;obtain⟨j,b,rfl⟩:=qc c
  have e:i<(n-a).toNat:=by
   have:=(qo b).1;simpa using this
  rw[List.getElem?_range e]at b;cases b
  exact⟨e,λy l q=>⟨q.1,q.2⟩⟩,λf=>by rwa [Lx]at f⟩
def dh:AN->Option AN
 | [.int n]=>if decide (-ax<=n)&&decide (n<=ax)then some (cX 0 n)else none
 | _=>none
def fg:AN->Option AN
 | [.int a,.int n]=>if decide (-ax<=a)&&decide (a<=ax)&&decide (-ax<=n)&&decide (n<=ax)then some (cX a n)else none
 | _=>none
theorem R7(h:dh l=some b):∃n:Int,l=[.int n]/\-1000000<=n/\n<=1000000/\b=cX 0 n:=by
 unfold dh at h
 split at h
 .split at h
  .have a:ax=1000000:=by decide
   ext
  .cases h
 .cases h
theorem R8(h:fg l=some ds):∃a n:Int,l=[.int a,.int n]/\-1000000<=a/\a<=1000000/\-1000000<=n/\n<=1000000/\ds=cX a n:=by
 unfold fg at h
 split at h
 .rename_i a n
  split at h
  .rename_i c
   cases h;simp [wm]at c
   have b:(ax:Int)=1000000:=by decide
   exact⟨a,n,rfl,by ext,by ext,by ext,by ext,rfl⟩
  .cases h
 .cases h
noncomputable def ai(i:Nat):AS:=λd a=>some (a.set i (↑d))
noncomputable def ez(i j:Nat):AS:=λd c=>match d with
 | .tup [a,b]=>some ((c.set i (↑a)).set j (↑b))
 | _=>none
noncomputable def forM(gt:AS)(fb:AR):AN->AR
 | [],ρ=>some (.nx ρ)
 | d::ds,ρ=>(gt d ρ).bind λb=>(fb b).bind fun
   | .nx a=>forM gt fb ds a
   | .ct a=>forM gt fb ds a
   | .bk a=>some (.nx a)
   | .rt d=>some (.rt d)
def a_(gl:AV)(gt:AS)(fb:AR):AR:=λa=>(gl a).bind λb=>forM gt fb b a
theorem Ly:∀(f:AN) (ρ:Ro) (e:eY),forM gt fb f ρ=some e->(∃ρ',e=.nx ρ')\/∃d,e=.rt d
 | [],ρ,e,h=>by cases h;grind
 | d::f,ρ,e,h=>by
   obtain⟨b,g,h⟩:=qa h;obtain⟨o,c,h⟩:=qa h
   cases o with
   | nx a=>exact Ly f a e h
   | ct a=>exact Ly f a e h
   | bk a=>grind
   | rt d=>grind
noncomputable def c5(fc:AT)(fb:AR):Nat->AR
 | 0,_=>none
 | n+1,ρ=>(fc ρ).bind λk=>if k=true then (fb ρ).bind fun
  | .nx ρ2=>c5 fc fb n ρ2
  | .ct ρ2=>c5 fc fb n ρ2
  | .bk ρ2=>some (.nx ρ2)
  | .rt d=>some (.rt d)
  else some (.nx ρ)
noncomputable def ak(a:List AL)(ρ:Ro):Ro:=a.map λo=>o.bind λj=>match ρ[j]? with
 | some (some (.sh d))=>some (.sh d)
 | _=>none
theorem SR.cap(s:SR K p n σ H G ρ)(e:List AL):SR K H G (c_ e σ) H G (ak e ρ):=by
 refine .mkSh (.refl s.seen) (by simp[c_,ak]) (λi d h=>?_) (λi l h=>by
  unfold ak at h;rw[Qm]at h;obtain⟨o,c,b⟩:=qc h;obtain⟨j,rfl,a⟩:=qa b
  split at a<;>cases a) (λi t r f h=>by
  unfold ak at h;rw[Qm]at h;obtain⟨o,c,b⟩:=qc h;obtain⟨j,rfl,a⟩:=qa b
  split at a<;>cases a)
 unfold ak at h;rw[Qm]at h;obtain⟨o,c,b⟩:=qc h;obtain⟨j,rfl,a⟩:=qa b
 split at a
 .rename_i q k
  cases a;obtain⟨v,m,g⟩:=s.sh j _ k;refine⟨v,?_,g⟩;unfold c_;rw[Qm,c];show some ((σ[j]?).join)=_;rw[m];rfl
 .cases a
noncomputable def cT(gt:AS)(fc:AT)(fe:AU)(ρ:Ro):AN->Option AN
 | []=>some []
 | d::ds=>(gt d ρ).bind λa=>(fc a).bind λk=>if k=true then (fe a).bind λv=>(cT gt fc fe ρ ds).map (v::·)else cT gt fc fe ρ ds
def bu(gl:AV)(a:List AL)(gt:AS)(fc:AT)(fe:AU):AV:=λb=>(gl b).bind λc=>cT gt fc fe (ak a b) c
def tY:AT:=λ_=>some true
def Bm(h:tTof K tY σ H Q):nG σ H Q:=by
 obtain⟨c,k,b,a,G,e,s,h⟩:=h;cases e;exact h H G (.refl s.seen)
def Bn:d5 X [] (tTof X.K tY):=λa s b H Q I h=>Ac _ s b H Q I (Bm h)
def Lz(h:src[i]?=some none):∀ρ d a,ai i d (ak src ρ)=some a->Le (ak src ρ) a:=λρ d a e=>by
 cases e;refine⟨by simp,λj b c=>?_⟩;by_cases f:j=i
 .subst f
  unfold ak at c;rw[Qm,h]at c;cases c
 .rwa [Qp (.symm f)]
def Bo{f:List AL}{i k:Nat}(h:f[i]?=some none)(m:f[k]?=some none):∀ρ d a,ez i k d (ak f ρ)=some a->Le (ak f ρ) a:=λρ d a e=>by
 unfold ez at e
 split at e
 .cases e
  refine⟨by simp,λj b l=>?_⟩
  have c:∀n,f[n]?=some none->j≠n:=λn g z=>by
   subst z;unfold ak at l;rw[Qm,g]at l;cases l
  rwa [Qp (.symm (c k m)),Qp (.symm (c i h))]
 .cases e
theorem LA(hle:∀ρ d u,gt d (ak src ρ)=some u->Le (ak src ρ) u)(h:hJ K (bu gl src gt fc fe) σ H Q):Ad (nK K gl) src (Ll K gt) (tTof K fc) (tOf K fe) σ H Q:=by
 obtain⟨ρ,l,H0,G0,G,e,s,h⟩:=h;obtain⟨ds,h1,N⟩:=qa e;refine⟨ρ,ds,H0,G0,G,h1,s,λJ H1 R g1 wk p V=>?_⟩;have s1:=s.grow g1;have sc:=s1.cap src;have gp:R p=none:=s1.seen.free V
 refine⟨λi m σ' H'=>m=ds.length-i/\i<=ds.length/\∃G' a D c,SR K H1 R σ' H' G' (ak src ρ)/\H' p=some (.lst D)/\G' p=none/\RpL K G' a D/\D.length<=i/\cT gt fc fe (ak src ρ) (ds.drop i)=some c/\a++c=l,
  ⟨_,rfl,Qh _,R,[],[],l,sc.grow (Gr.hid s1.seen V _),Yg,gp,.nil,Qh _,N,rfl⟩,?_⟩
 rintro i m σ' H' ⟨rfl,hi,G',a,D,c,s',hx,gx,rx,hl,n,T⟩;have W:=wk.2 i H' G' s'.gr.g s'.seen;by_cases A:i<ds.length
 .have hdi:=qr A
  obtain⟨go,yl⟩:=W.1 _ hdi;rw[List.drop_eq_getElem_cons A,cT]at n;obtain⟨u,e1,n⟩:=qa n;obtain⟨k,e2,n⟩:=qa n;refine .inr ⟨go,λx H2 y=>?_⟩;obtain⟨G2,U,r2⟩:=yl x H2 y
  have r:∀{Ha Z Hb S:Hp},Gr Ha Z Hb S->Ha p=some (.lst D)->Z p=none->Hb p=some (.lst D)/\S p=none:=λ{Ha Z Hb S} g e1 e2=>by
   refine⟨g.h _ _ e1,?_⟩
   cases q:S p with
   | none=>rfl
   | some o=>
     have:=g.n p e2 (by rw[q];exact λz=>nomatch z);rw[e1]at this;cases this
  obtain⟨hx2,gx2⟩:=r U hx gx;refine⟨_,ak src ρ,u,H1,R,G2,e1,s'.grow U,r2,λσ3 s3=>?_⟩;refine tTof.at e2 s3 λH4 G4 g4 s4=>?_;obtain⟨I,O⟩:=r g4 hx2 gx2;have le:=hle ρ _ u e1
  cases k with
  | false=>
    exact⟨ds.length-(i+1),by symm,rfl,A,G4,a,D,c,s4.le le,I,O,(rx.mono U.g).mono g4.g,by ac_nf,n,T⟩
  | true=>
    rw[if_pos rfl]at n ⊢;obtain⟨v,e3,n⟩:=qa n;obtain⟨C,e4,rfl⟩:=qc n;refine tOf.at e3 s4 λw H5 G5 g5 r5 s5=>?_;obtain⟨Y,L⟩:=r g5 I O;have hz:=wk.1;refine⟨D,Y,by ac_nf,ds.length-(i+1),by symm,rfl,A,G5,a++[v],D++[w],C,?_,Yg,L,(((rx.mono U.g).mono g4.g).mono g5.g).append (.one r5),by simp;ac_nf,e4,by simpa using T⟩;have E:=s5.le le
    have P:∀(i:Nat) l,(ak src ρ)[i]?≠some (some (B.ow l)):=λi l h=>by
     unfold ak at h;rw[Qm]at h;obtain⟨o,h1,N⟩:=qc h;obtain⟨j,rfl,F⟩:=qa N
     split at F<;>cases F
    have M:∀(i:Nat) t ks vs,(ak src ρ)[i]?≠some (some (B.od t ks vs)):=λi t ks vs h=>by
     unfold ak at h;rw[Qm]at h;obtain⟨o,h1,N⟩:=qc h;obtain⟨j,rfl,F⟩:=qa N
     split at F<;>cases F
    refine SR.mkSh ⟨λb o q=>?_,E.gr.g,λb o q=>?_,E.gr.n⟩ E.len E.sh P M
    .rw[Yh (Yk q V)];exact E.gr.h b o q
    .rw[Yh (Yk q L)];exact E.gr.s b o q
 .have ei:i=ds.length:=by ac_nf
  subst ei;rw[List.drop_length,cT]at n;cases n;rw[w9]at T;subst T;exact .inl ⟨W.2 (qv _),h p D H' G' (g1.trans s'.gr) (g1.h.free V) gx hx rx⟩
section
variable {N:AJ}{src:List AL}{gt:AS}{fc:AT}{fe:AU}
def Bp(S:gD X.N X.env.scope N src scope)(l:X.calm=true)(i:MI X tg iter gl)(j:∀a C b s H,MG (cv X scope N a C b s H) tg gt)(m:∀a C b s H,d5 (cv X scope N a C b s H) ifs (tTof X.K fc))(k:∀a C b s H,ME (cv X scope N a C b s H) elt fe)(g:∀ρ d c,gt d (ak src ρ)=some c->Le (ak src ρ) c)(hs:∀x,foldedSetIterable iter X.env x=pure x:=by intro _;rfl):MF X (.ListComp elt [⟨tg,iter,ifs,0⟩] scope pos) (bu gl src gt fc fe):=
 PE.imp (Af S l i j m k hs) λ_ _ _ h=>LA g h
theorem Bq(i:Nat){o a:Pos}(f:X.N.Nodup)(S:gD X.N X.env.scope N src scope)(E:X.calm=true)(m:MI X tg iter gl)(J:∀j C b s H,MG (cv X scope N j C b s H) tg gt)(w:∀j C b s H,d5 (cv X scope N j C b s H) ifs (tTof X.K fc))(B:∀j C b s H,ME (cv X scope N j C b s H) elt fe)(k:∀ρ d c,gt d (ak src ρ)=some c->Le (ak src ρ) c)(n:swapsWith (.ListComp elt [⟨tg,iter,ifs,0⟩] scope pos) (some (.Name y o)) a.line X.env=pure true:=by rfl)(u:X.N[i]?=some y:=by rfl)(v:c9 X.env.scope y:=by trivial)(A:aae X y:=by trivial)(hs:∀x,foldedSetIterable iter X.env x=pure x:=by intro _;rfl):MS X (.Assign [.Name y o] (.ListComp elt [⟨tg,iter,ifs,0⟩] scope pos) a) (bb i (bu gl src gt fc fe)):=
 PS.imp (Ag S E m J w B f u v n A hs) λF R H h=>by
  obtain⟨ρ,D,z,q,G,e,s,h⟩:=h;obtain⟨l,t,rfl⟩:=qc e;exact LA k ⟨ρ,l,z,q,G,t,s,λp Q M K g O I L r=>h _ M K (s.set_ow i g O I L r)⟩
end
noncomputable def Yd(n:Nat)(a:AN):Ro:=a.map (λd=>some (.sh d))++.replicate (n-a.length) none
noncomputable def aj(k n:Nat)(fb:AR)(a:AN):Option D:=if a.length=k then (fb (Yd n a)).bind fun
 | .rt d=>some d
 | .nx _=>some .non
 | _=>none
 else none
theorem SR.start(s:Same G H)(r:RpL K G ds vs):SR K H G (start N vs) H G (Yd N.length ds):=by
 refine .mkSh (.refl s) (by simp[L2.start,Yd,r.length]) (λi d h=>?_) (λi l h=>by
  unfold Yd at h
  symm) (λi t f vs h=>by
  unfold Yd at h
  symm)
 unfold Yd at h;rw[List.getElem?_append]at h
 split at h
 .rw[Qm]at h
  obtain⟨k,a,g⟩:=qc h;obtain⟨v,c,j⟩:=r.get a;unfold L2.start;symm
 symm
section
variable {P:P7}{w:World}
theorem R9{f:Addr}(F:Fun K x c st f u)(S:dI N I (aDa st))(p:N.length=n)(j:I.length=m)(T:∀(b:Value) (A:Around) (a:List Env) (s:Shared) (H:Hp) (E:XK),Room k (A.deeper (envOfC c (aDa st) (~~~s) f b))->MB (cm cJ P w K mg base N c (aDa st) f b A a s H E).nox (aFa st) fb):
 FnOk P w K mg base cJ (k+1) f u I (cx K m (aj m n fb)):=by
 refine F.ok S (λM H Q E h=>by rw[h.1,j]) λb A a s H M Q E t h=>?_;obtain⟨B,L,d,G,l,r,e,q⟩:=h;refine⟨_,T b A a s H E t,?_⟩;unfold aj at e
 split at e
 .obtain⟨o,z,i⟩:=qa e
  refine⟨Yd n L,o,H,G,G,z,by rw[<-p];exact .start l r,?_⟩
  cases o with
  | rt U=>cases i;exact λv C D g y=>q v C D g y
  | nx J=>cases i;exact λO C D R=>q _ C D R.gr (by rw[Rp])
  | bk J=>cases i
  | ct J=>cases i
 .cases e
end
end
def aN(P:P7)(w:World)(K:W7)(d:AD)(b:Heap)(k n:Nat)(x:Str)(f:AJ)(e:AN->Option D):Prop:=
 ∃a c,FnOk P w K d b cJ k a c f (cx K n e)/\Binds K c f []/\W.keepIn K (.ref a)=true/\d x=some (.ref a)
def Br{st:Stmt}(F:Fun K x q st a d)(b:Binds K d i [])(g:e x=some (.ref a))(h:FnOk P w K e c cJ k a d i (cx K n f)):aN P w K e c k n x i f:=⟨a,d,h,b,F.kp,g⟩
section
variable {a b e:Expr}{fb:AU}{ga:AV}
noncomputable def di:D->Option D
 | .int i=>some (.int (-i))
 | _=>none
def cY:D->D->Option AN
 | .lst a,.lst b=>if a.length+b.length<=ax then some (a++b)else none
 | _,_=>none
def Bs:R2:=λx y H Q=>∃l b a c,x=.ref l/\y=.ref b/\Rd H l (.lst a)/\Rd H b (.lst c)/\a.length+c.length<=sizeLine/\∀p,H p=none->Q (.ref p) (upd H p (.lst (a++c)))
theorem Bt:br X (binaryOp .Add) Bs:=by
 intro C s F H x y v u Q I k f h;obtain⟨l,b,E,t,rfl,rfl,j,i,o,q⟩:=h;cases k;cases f;obtain⟨z,a,n,r,e⟩:=j.ok I.hok;obtain⟨w,c,A,d,D⟩:=i.ok I.hok;have p:=r.length;have m:=d.length;refine PySem.P.add_list e D ?_ (by ext)
 have g:a.toArray++c.toArray=(a++c).toArray:=by simp
 rw[g];exact⟨.ref _,_,I.lnew (r.append d) (by grind),rfl,q _ I.fresh⟩
noncomputable def h9:D->String
 | .non=>"NoneType"
 | .bl _=>"bool"
 | .int _=>"int"
 | .str _=>"str"
 | .tup _=>"tuple"
 | .lst _=>"list"
 | .scr _=>"list"
 | .dct _ _ _=>"dict"
 | .obj _ _ _=>"dict"
 | .adr _=>"dict"
noncomputable def h_:D->Bool
 | .scr _=>false
 | .dct t _ _=>!t
 | .obj _ _ _=>false
 | .adr _=>false
 | _=>true
def f_(T:String)(d:D):Option Bool:=if h_ d=true then some (h9 d==T||(T=="int"&&h9 d=="bool"))else none
def Bu(c:h_ d=true)(r:Ct K G H d v):cw K H v (.type (h9 d)):=by
 cases d<;>rw[Ct]at r
 .subst r;exact .non
 .subst r;exact .bl _
 .subst r;exact .int _
 .obtain⟨rfl,_⟩:=r;exact .str _
 .obtain⟨a,b,rfl,g,_⟩:=r;exact .tup g.1
 .obtain⟨a,b,rfl,g,_⟩:=r
  rcases g with g|⟨o,g⟩
  .exact .lst g
  .exact .frz g
 .cases c
 .rename_i t _ _
  cases t with
  | true=>cases c
  | false=>
    obtain⟨a,_,_,rfl,g,_⟩:=r;rcases g with⟨_,_,g,_⟩|⟨g,_⟩
    .exact .dK g
    .cases g
 .cases c
 .cases c
def t9(T:String):Prop:=∀(K:W7) (d:D),W.kitOne K (.type (h9 d)) (.type T)=some (h9 d==T||(T=="int"&&h9 d=="bool"))
def Bv:t9 "str":=λK d=>by cases d<;>rfl
def R_:t9 "tuple":=λK d=>by cases d<;>rfl
def Bw(i:t9 T):dA X (.builtin "isinstance") (λxs H Q=>∃x d G,xs=[x,.ty T]/\h_ d=true/\Ct X.K G H d x/\Q (.bl (h9 d==T||(T=="int"&&h9 d=="bool"))) H):=by
 intro a s l H xs e Q I r h;obtain⟨x,d,G,rfl,j,f,q⟩:=h;obtain⟨u,k,rfl,c,g⟩:=m_ r;cases (g)
 exact Rf I c (Bu j f) (i X.K d) λb=>⟨.bl _,H,I.tok b,rfl,q⟩
end
noncomputable def eA(a:Int):AF->AF
 | []=>[a]
 | b::l=>if a<=b then a::b::l else b::eA a l
noncomputable def c6:AF->AF
 | []=>[]
 | a::l=>eA a (c6 l)
theorem Bx(a:Int):∀l:AF,(eA a l).Perm (a::l)
 | []=>.refl _
 | b::l=>by
   rw[eA]
   split
   .exact .refl _
   .exact((Bx a l).cons b).trans (.swap a b l)
theorem Yx:∀l:AF,(c6 l).Perm l
 | []=>.refl _
 | a::l=>(Bx a _).trans ((Yx l).cons a)
theorem LB(a:Int):∀l:AF,l.Pairwise (·<=·)->(eA a l).Pairwise (·<=·)
 | [],_=>by simp[eA]
 | b::l,h=>by
   rw[eA]
   split
   .rename_i d
    refine List.pairwise_cons.mpr ⟨λx c=>?_,h⟩;rcases qu c with rfl|c
    .exact d
    .exact Int.le_trans d ((List.pairwise_cons.mp h).1 x c)
   .refine List.pairwise_cons.mpr ⟨λx c=>?_,LB a l (List.pairwise_cons.mp h).2⟩
    rcases qu ((Bx a l).mem_iff.mp c)with rfl|c
    .lia
    ext
theorem gF:∀l:AF,(c6 l).Pairwise (·<=·)
 | []=>.nil
 | a::l=>LB a _ (gF l)
section
variable {w:World}{A:Around}{E:AA}{s:Shared}
theorem Sa(m:s.heap.IsList l vs.toArray)(n:vs.length<2)(h:Q (.ref (~~~s+1)) {s with heap:=sortedAll s.heap vs vs.toArray}):wpAny (mZ prog w) A (call (.builtin "sorted") [.ref l]) Q E s:=by
 refine Calls.call_function_entry kind_sorted plain_sorted entry_sorted (args_sorted1 _) ?_;refine wa (wc ?_);refine wa (collect_list m ?_ (by rw[jh];ac_nf));refine wa (wpAny_newList ?_ (by rw[jh];ac_nf))
 have e:((s.heap.push (seqObj "list" #[] 0)).update (~~~s) (Obj.mapSeq (·++vs.toArray))).objs.size= ~~~s+1:=by
  ext
 have g:(((s.heap.push (seqObj "list" #[] 0)).update (~~~s) (Obj.mapSeq (·++vs.toArray))).push (seqObj "list" vs.toArray 0)).get? (~~~s+1)=some (seqObj "list" vs.toArray 0):=by
  rw[<-e];exact qp _ rfl
 rw[e];refine wa (we (wg slot_list_sort ⟨_,g,rfl⟩ entry_list_sort ?body (args_list_sort _)))
 case body=>
  rw[list_sort_plain];generalize j:({s with heap:=((s.heap.push (seqObj "list" #[] 0)).update (~~~s) (Obj.mapSeq (·++vs.toArray))).push (seqObj "list" vs.toArray 0)})=S at *
  have a:S.heap.get? (~~~s+1)=some (seqObj "list" vs.toArray 0):=by symm
  have o:=ql a;refine wa (listItems_at a rfl ?_);refine wa (listUpdate_at a rfl ?_ (by rw[qk,jh];ac_nf) (Qh _))
  obtain⟨p,c⟩:∃p,(S.heap.update (~~~s+1) (Obj.mapSeq λ_=>#[])).get? (~~~s+1)=some (seqObj "list" #[] p):=⟨_,get?_update_seq a (λ_=>#[])⟩
  refine wa (seqEpoch_at c rfl ?_);refine wa (wpAny_newTuple ?_ (by rw[jh];ac_nf));refine wa (wpAny_newList ?_ (Qh _));refine we ?_
  have b:(((S.heap.update (~~~s+1) (Obj.mapSeq λ_=>#[])).push (seqObj "tuple" vs.toArray 0)).push (seqObj "list" #[] 0)).get? (~~~s+1)=some (seqObj "list" #[] p):=by
   rw[Heap.get?_push_ne _ _ _ (by rw[size_push',Heap.size_update];(subst_vars;simp)),Heap.get?_push_ne _ _ _ (by rw[Heap.size_update];(subst_vars;simp))];exact c
  have d:vs.toArray.size<2:=by omega
  rw[if_pos d,if_pos d];refine wa (wc ?_);refine wa (wc ?_);dsimp only;refine wa (seqEpoch_at b rfl ?_);refine wa (listUpdate_at b rfl ?_ (hsz2:=by symm));simp only[bne_self_eq_false,Qo,if_false]
  have f:(arrOf (SortSt.mk' general' (vs.toArray.zip vs.toArray) #[] 7 none)).map (·.2)=vs.toArray:=by
   symm
  refine wc ⟨_,rfl,wc ⟨_,rfl,?_⟩⟩;have k:=h;rw[<-j,f];exact k
noncomputable def d9(j:Int)(q:Bool)(i:Int)(p:Bool):Bool:=if j=i then (!q&&p)else decide (j<i)
theorem By(z:IsTup s.heap b #[.int i t,.bool p])(k:IsTup s.heap c #[.int j u,.bool q])(h:R (d9 j q i p) s):
 wpAny (mZ prog w) A (keyLt' (tuples' true) (.ref c) (.ref b)) R E s:=by
 obtain⟨r,f,_,o,m⟩:=z;obtain⟨v,g,_,n,l⟩:=k;refine W.kat_lt g l f m ?_;show W.KatLex _ w A _ false R _ 0 s;unfold d9 at h;refine W.kat_cons (SeqAt.EqAt.int_int j u i t _ w _ _ (W.kat_go (λe=>W.kat_yes (W.kat_cons (SeqAt.EqAt.bool_bool q p _ w _ _ (W.kat_go (λy=>W.kat_yes (W.kat_nil ?_)) λy=>W.kat_no (W.kat_one _ _ (lt_bool ?_)))))) λe=>W.kat_no ?_))
 .simp_all
 .have d:=by simpa using e
  rw[if_pos d]at h
  cases p<;>cases q<;>first|exact h|simp at y
 .have d:=by simpa using e
  rw[if_neg d]at h;exact oneLt_int h
def Sb(h:cmp 1 0 (λk s'=>if k=true then G #[1,0] s' else G #[0,1] s') S):(W.kas_sort 2).kasWp cmp G S:=by
 show cmp 1 0 (λk s'=>W.KasT.kasWp cmp _ G s') S
 have e:∀(k:Bool) (s':Shared),(if k=true then G #[1,0] s' else G #[0,1] s')=W.KasT.kasWp cmp (W.KasT.bind (W.KasT.bind (if k=true then W.KasT.ret 1 else W.kas_asc (List.toArray (List.range 2)) 0 2)
  λn=>if (n==2)=true then W.KasT.ret (n,List.toArray (List.range 2))else if n > 1 then .ask ((List.toArray (List.range 2)).getD 0 0) ((List.toArray (List.range 2)).getD (n-1) 0) λc=>if c=true then .ret (n,List.toArray (List.range 2))else W.kas_descPart n 2 (W.kas_rev (List.toArray (List.range 2)) 0 n)
   else W.kas_descPart n 2 (List.toArray (List.range 2))) λr=>if r.1<2 then W.kas_bin (2-max r.1 1) r.2 (max r.1 1)else .ret r.2) G s':=λk s'=>by cases k<;>rfl
 have e2:(fun(k:Bool) (s':Shared)=>if k=true then G #[1,0] s' else G #[0,1] s')=_:=funext λk=>funext λs'=>e k s';rw[e2]at h;exact h
theorem Sd(Z:s.heap.IsList l #[.ref b,.ref c])(hb:IsTup s.heap b #[.int i t,.bool p])(H:IsTup s.heap c #[.int j u,.bool q])(h:Q (.ref (~~~s+1)) {s with heap:=sortedAll s.heap [.ref b,.ref c] (if d9 j q i p=true then #[.ref c,.ref b]else #[.ref b,.ref c])}):wpAny (mZ prog w) A (call (.builtin "sorted") [.ref l]) Q E s:=by
 generalize m:[Value.ref b,Value.ref c]=vs at *;have J:s.heap.IsList l vs.toArray:=Z
 have D:vs.length=2:=by(subst_vars;simp)
 refine Calls.call_function_entry kind_sorted plain_sorted entry_sorted (args_sorted1 _) ?_;unfold Builtin.«sorted»;refine wa (m:=checkCount "sorted" 1 1 _) (wc ?_);refine wa (collect_list J ?_ (by rw[jh];lia));refine wa (wpAny_newList ?_ (by rw[jh];lia))
 have y:((s.heap.push (seqObj "list" #[] 0)).update (~~~s) (Obj.mapSeq (·++vs.toArray))).objs.size= ~~~s+1:=by
  ext
 have L:(((s.heap.push (seqObj "list" #[] 0)).update (~~~s) (Obj.mapSeq (·++vs.toArray))).push (seqObj "list" vs.toArray 0)).get? (~~~s+1)=some (seqObj "list" vs.toArray 0):=by
  rw[<-y];exact qp _ rfl
 have M:∀b o,s.heap.get? b=some o->(((s.heap.push (seqObj "list" #[] 0)).update (~~~s) (Obj.mapSeq (·++vs.toArray))).push (seqObj "list" vs.toArray 0)).get? b=some o:=λb o q=>by
  have a:b< ~~~s:=ql q;rw[Heap.get?_push_ne _ _ _ (by ext<;>lia),Heap.get?_update_ne _ _ _ _ (qm a),Heap.get?_push_ne _ _ _ (qm a)];exact q
 rw[y];refine wa (we (wg slot_list_sort ⟨_,L,rfl⟩ entry_list_sort ?body (args_list_sort _)))
 case body=>
  rw[list_sort_plain];generalize hS:({s with heap:=((s.heap.push (seqObj "list" #[] 0)).update (~~~s) (Obj.mapSeq (·++vs.toArray))).push (seqObj "list" vs.toArray 0)})=S at *
  have d:S.heap.get? (~~~s+1)=some (seqObj "list" vs.toArray 0):=by grind
  have ha:(~~~s)+1<S.heap.objs.size:=ql d;refine wa (listItems_at d rfl ?_);refine wa (listUpdate_at d rfl ?_ (by rw[qk,jh];lia) (Qh _))
  obtain⟨e1,C⟩:∃e1,(S.heap.update (~~~s+1) (Obj.mapSeq λ_=>#[])).get? (~~~s+1)=some (seqObj "list" #[] e1):=⟨_,get?_update_seq d (λ_=>#[])⟩
  refine wa (seqEpoch_at C rfl ?_);refine wa (wpAny_newTuple ?_ (by show vs.length<=_;rw[jh];lia));refine wa (wpAny_newList ?_ (Qh _));refine we ?_
  have V:(((S.heap.update (~~~s+1) (Obj.mapSeq λ_=>#[])).push (seqObj "tuple" vs.toArray 0)).push (seqObj "list" #[] 0)).get? (~~~s+1)=some (seqObj "list" #[] e1):=by
   rw[Heap.get?_push_ne _ _ _ (by rw[size_push',Heap.size_update];grind),Heap.get?_push_ne _ _ _ (by rw[Heap.size_update];grind)];exact C
  have I:∀b o,s.heap.get? b=some o->(((S.heap.update (~~~s+1) (Obj.mapSeq λ_=>#[])).push (seqObj "tuple" vs.toArray 0)).push (seqObj "list" #[] 0)).get? b=some o:=λb o q=>by
   have a:b< ~~~s:=ql q;refine qe _ (qe _ ?_);rw[Heap.get?_update_ne _ _ _ _ (qm (qx a))];grind
  generalize hS6:({S with heap:=((S.heap.update (~~~s+1) (Obj.mapSeq λ_=>#[])).push (seqObj "tuple" vs.toArray 0)).push (seqObj "list" #[] 0)})=g
  have B:g.heap.get? (~~~s+1)=some (seqObj "list" #[] e1):=by grind
  have N:IsTup g.heap b #[.int i t,.bool p]:=by
   obtain⟨o,O,z⟩:=hb;exact⟨o,by grind,z⟩
  have R:IsTup g.heap c #[.int j u,.bool q]:=by
   obtain⟨o,O,z⟩:=H;exact⟨o,by grind,z⟩
  dsimp only
  have F:¬vs.toArray.size<2:=by ext
  rw[if_neg F,if_neg F]
  have Y:W.KatTups g.heap vs [.int i t,.int j u]:=by
   obtain⟨ob,b1,b2,n1,b3⟩:=N;obtain⟨oc,X,c2,n2,c3⟩:=R;rw[<-m];exact .cons b1 b2 b3 rfl (.cons X c2 c3 rfl .nil)
  refine wa (W.kat_kind (T:=.type "int") Y (qx (Qa 0)) (λv r=>?_) (by decide) ?_)
  .rcases qu r with rfl|r
   .exact .of_pure rfl
   .rcases qu r with rfl|r
    .exact .of_pure rfl
    .cases r
  have n:wpAny (mZ prog w) A.in1.in1 (keyLt' (tuples' true) (vs.getD 1 Value.none) (vs.getD 0 Value.none)) (λk s'=>k=d9 j q i p/\s'=g) (λ_ _=>False) g:=by
   rw[<-m];exact By N R ⟨rfl,rfl⟩
  refine wa (w4 (W.kat_run (ks:=vs) (vs:=vs) (κ:=tuples' true) (G:=λP s'=>s'=g/\P=if d9 j q i p=true then #[1,0]else #[0,1])
   (Q:=λf s'=>s'=g/\failedOf f=none/\(arrOf f).map (·.2)=if d9 j q i p=true then #[.ref c,.ref b]else #[.ref b,.ref c]) rfl (by lia) (by ext) (λP f s' O z a3 a4=>?_) ?_) ?_ λ_ _ e=>e)
  .obtain⟨rfl,rfl⟩:=a4
   refine⟨rfl,a3,?_⟩;rw[W.kat_snds rfl z,<-m];grind
  .rw[D]
   refine Sb ?_;refine w4 n (λk s' hk=>?_) λ_ _ x=>x
   ext
  rintro⟨⟨⟩,f⟩ s' ⟨rfl,U,G⟩;dsimp only;refine wa (seqEpoch_at B rfl ?_);refine wa (listUpdate_at B rfl ?_ (Qh _) (by rw[G,jh];split<;>ext));rw[U];simp only[bne_self_eq_false,Qo,if_false];refine wc ⟨_,rfl,wc ⟨_,rfl,?_⟩⟩;have T:=h;unfold sortedAll sortedHeap at T
  ext<;>lia
end
noncomputable def intsD:AN->Option AF
 | []=>some []
 | .int i::l=>(intsD l).map (i::·)
 | _=>none
noncomputable def Bz:D->Option (Int×Bool)
 | .tup [.int j,.bl q]=>some (j,q)
 | _=>none
def n6(e d:D):Option Bool:=(Bz e).bind λx=>(Bz d).map λy=>d9 x.1 x.2 y.1 y.2
def lS{a:Type}{x:a}{P:Prop}(h:none=some x):P:=by cases h
def LC(h:Bz d=some x):d=.tup [.int x.1,.bl x.2]:=by
 cases d with
 | tup l=>cases l with
   | nil=>exact lS h
   | cons a l=>cases a with
     | int j=>cases l with
       | nil=>exact lS h
       | cons b l=>cases b with
         | bl q=>cases l with
           | nil=>exact w5 h ▸ rfl
           | cons _ _=>exact lS h
         | _=>exact lS h
     | _=>exact lS h
 | _=>exact lS h
def lT(l:AN):Option AN:=match intsD l with
 | some a=>if a.length<64 then some ((c6 a).map .int)else none
 | none=>match l with
   | [d]=>some [d]
   | [d,e]=>(n6 e d).map λk=>if k=true then [e,d]else [d,e]
   | _=>none
def fG:AN->Option AN
 | [.lst l]=>lT l
 | _=>none
theorem j5:∀{l:AN}{ns:AF},intsD l=some ns->l=ns.map D.int
 | [],ns,h=>by cases h;rfl
 | .int i::l,ns,h=>by
   obtain⟨m,a,rfl⟩:=qc h;rw[j5 a];rfl
 | .non::l,ns,h=>by simp[intsD]at h
 | .bl _::l,ns,h=>by simp[intsD]at h
 | .str _::l,ns,h=>by simp[intsD]at h
 | .tup _::l,ns,h=>by simp[intsD]at h
 | .lst _::l,ns,h=>by simp[intsD]at h
 | .scr _::l,ns,h=>by simp[intsD]at h
 | .dct _ _ _::l,ns,h=>by simp[intsD]at h
 | .obj _ _ _::l,ns,h=>by simp[intsD]at h
 | .adr _::l,ns,h=>by simp[intsD]at h
theorem j6:∀{ns:AF}{xs:AM},RpL K G (ns.map D.int) xs->xs=ns.map V.int
 | [],xs,h=>h
 | n::ns,xs,h=>by
   obtain⟨x,r,rfl,a,b⟩:=h;rw[a,j6 b];rfl
def BA(H:Hp)(x:V)(i:Int)(p:Bool):Prop:=∃a,x=.ref a/\H a=some (.tup [.int i,.bl p])
def n7:AM->Hp->VK->Prop:=λd H Q=>∃a b,d=[.ref a]/\Rd H a (.lst b)/\
 ((∃c:AF,b=c.map .int/\c.length<64/\∀p,H p=none->Q (.ref p) (upd H p (.lst ((c6 c).map .int))))\/
  (b.length<2/\∀p,H p=none->Q (.ref p) (upd H p (.lst b)))\/
  (∃x y i p j q,b=[x,y]/\BA H x i p/\BA H y j q/\∀r,H r=none->Q (.ref r) (upd H r (.lst (if d9 j q i p=true then [y,x]else [x,y])))))
theorem n8:dA X (.builtin "sorted") n7:=by
 intro pins s σ H xs us Q I r h;obtain⟨a,ys,rfl,M,h⟩:=h;obtain⟨u,rfl,L⟩:=ef r;cases L;obtain⟨its,l,pl,hz⟩:=I.list (.inl M)
 have f:∀(V:_) _,_->_->_->EP X pins σ Q _ {s with heap:=sortedAll s.heap its V}:=λV d B n F=>by
  obtain⟨e,he⟩:=sortedAll_at s.heap its V;exact⟨.ref (~~~s+1),_,I.laid (λb o q=>sortedAll_old q) (Nat.le_succ _) (show ObjOk X.prog X.w _ _ _ (.lst d) from⟨n,V.toList,e,B,by ext⟩),rfl,F⟩
 have w:=I.hok.fresh (Nat.le_succ _);have Y:=l.length;rcases h with⟨ns,rfl,U,q⟩|⟨v,q⟩|⟨x,y,i,p,j,k,rfl,C,P,q⟩
 .have G:=tJ l
  refine sorted_ints pl.isList G (by ext) λV T E v J=>?_;have e:=W.ksm_same (v.trans (Yx ns).symm) J (gF ns);subst e;have hn:=(Yx ns).length_eq;exact f V _ (nC E) (by ext) (q _ w)
 .refine Sa pl.isList (by ext) ?_
  grind
 .obtain⟨b,rfl,hb⟩:=C
  obtain⟨c,rfl,O⟩:=P;obtain⟨u1,u2,rfl,A,D⟩:=m_ l;cases A;cases D;obtain⟨_,ib,z,R⟩:=I.hok b _ hb;obtain⟨_,Z,S,N⟩:=I.hok c _ O;obtain⟨w1,w2,rfl,⟨t,rfl⟩,g⟩:=m_ z;cases g;obtain⟨w3,K,rfl,⟨t',rfl⟩,m⟩:=m_ S;cases m;refine Sd (by simpa using pl.isList) (by simpa using R) (by simpa using N) ?_;refine f _ _ ?_ (by split<;>ext) (q _ w);cases d9 j k i p
  .grind
  .exact .cons rfl (.cons rfl .nil)
def LD(s:Same G H)(e:d=.tup [.int i,.bl p])(r:Rp K G d v):BA H v i p:=by
 subst e;obtain⟨a,k,rfl,g,c⟩:=r;obtain⟨x,j,rfl,b,h⟩:=c;obtain⟨y,rfl,f⟩:=lR h;subst b f;exact⟨a,rfl,s _ _ g⟩
def Se(h:n6 e d=some k):∃j q i p,e=.tup [.int j,.bl q]/\d=.tup [.int i,.bl p]/\k=d9 j q i p:=by
 obtain⟨x,a,f⟩:=qa h;obtain⟨y,c,b⟩:=qc f;exact⟨x.1,x.2,y.1,y.2,LC a,LC c,b.symm⟩
theorem n9:ew K n7 fG:=by
 intro C B l H G Q h s r q;unfold fG at h
 split at h
 .obtain⟨v,rfl,t⟩:=eR r
  obtain⟨a,A,rfl,g,c⟩:=t;refine⟨a,A,rfl,g,?_⟩;unfold lT at h
  split at h
  .rename_i z e
   split at h
   .rename_i m
    cases h;cases j5 e;exact .inl ⟨z,j6 c,m,λp b=>q p _ _ G (.hid s b _) b (s.free b) Yg (.ints _)⟩
   .cases h
  .split at h
   .cases h
    exact .inr (.inl ⟨by rw[c.length];ext,λp b=>q p _ _ G (.hid s b _) b (s.free b) Yg c⟩)
   .obtain⟨k,u,rfl⟩:=qc h
    obtain⟨j,y,i,x,rfl,rfl,rfl⟩:=Se u;obtain⟨o,w,rfl,d,c⟩:=c;obtain⟨n,rfl,f⟩:=lR c;refine .inr (.inr ⟨o,n,i,x,j,y,rfl,LD s rfl d,LD s rfl f,λp b=>q p _ _ G (.hid s b _) b (s.free b) Yg ?_⟩);cases d9 j y i x
    .exact .cons d (.one f)
    .exact .cons f (.one d)
   .cases h
 .cases h
section
variable {e:Expr}{f fb:AU}
noncomputable def bO:AN->Option AG
 | []=>some []
 | .bl b::l=>(bO l).map (b::·)
 | _=>none
theorem LF:∀{l:AN}{a:AG},bO l=some a->l=a.map D.bl
 | [],a,h=>by cases h;rfl
 | .bl i::l,a,h=>by
   obtain⟨m,b,rfl⟩:=qc h;rw[LF b];rfl
 | .non::l,c,h=>by simp[bO]at h
 | .int _::l,c,h=>by simp[bO]at h
 | .str _::l,c,h=>by simp[bO]at h
 | .tup _::l,c,h=>by simp[bO]at h
 | .lst _::l,c,h=>by simp[bO]at h
 | .scr _::l,c,h=>by simp[bO]at h
 | .dct _ _ _::l,c,h=>by simp[bO]at h
 | .obj _ _ _::l,c,h=>by simp[bO]at h
 | .adr _::l,c,h=>by simp[bO]at h
theorem LG:∀{a:AG}{xs:AM},RpL K G (a.map D.bl) xs->xs=a.map V.bl
 | [],xs,h=>h
 | n::d,xs,h=>by
   obtain⟨x,r,rfl,b,c⟩:=h;rw[b,LG c];rfl
theorem BB:∀{a:AG}{us:AC},Vals (a.map V.bl) us->us=a.map Value.bool
 | [],us,h=>by cases h;rfl
 | b::a,us,h=>by
   cases h with
   | cons r t=>
     cases (r);rw[BB t];rfl
theorem Sf(a:AG):((List.range a.length).any λi=>a.getD i false)=a.any id:=by
 induction a with
 | nil=>rfl
 | cons b a c=>
   rw[qt,List.range_succ_eq_map,List.any_cons,List.any_map]
   have:(List.range a.length).any ((λi=>(b::a).getD i false) ∘ .succ)=(List.range a.length).any λi=>a.getD i false:=by
    congr 1
   rw[this,c];rfl
theorem Sg(a:AG):((List.range a.length).all λi=>a.getD i false)=a.all id:=by
 induction a with
 | nil=>rfl
 | cons b a c=>
   rw[qt,List.range_succ_eq_map,List.all_cons,List.all_map]
   have:(List.range a.length).all ((λi=>(b::a).getD i false) ∘ .succ)=(List.range a.length).all λi=>a.getD i false:=by
    congr 1
   rw[this,c];rfl
def gb(g:AG->V):AM->Hp->VK->Prop:=λc H Q=>∃(a:Addr) (b:List _),c=[.ref a]/\Rd H a (.lst (b.map .bl))/\Q (g b) H
theorem LH(A:Around)(prog:P7)(w:World)(c:AG):TruthOf prog w A (λi v=>((c.map Value.bool).toArray)[i]?=some v) (λi=>c.getD i false):=λi v s Q E d g=>by
 have a:(c.map .bool)[i]?=some v:=by grind
 rw[Qm]at a;obtain⟨b,h,rfl⟩:=qc a;refine wpAny_truthy_bool ?_
 ext
def LI{pins:AB}{σ:L2.St}{H:Hp}{its:AC}(f:A.handled=none)(c:s.heap.IsList a its.toArray)(h:∀b,b={s with heap:=s.heap.push {cls:=.type "list_iterator",data:=.fields #[.ref a,.int 0 0]} }->Walks X.prog X.w A (~~~s) [~~~s,a] [~~~s] its.toArray.size (λi v=>its.toArray[i]?=some v) (λi h=>h.IsListIter (~~~s) a i/\h.IsList a its.toArray)->
  (b.heap.IsListIter (~~~s) a 0/\b.heap.IsList a its.toArray)->Q (.ref (~~~s)) b):wpAny (mZ X.prog X.w) A (pyIter (.ref a)) Q E s:=by
 have e:a≠(~~~s):=by
  obtain⟨o,d,_⟩:=c;exact qm (ql d)
 refine wpAny_pyIter_list c (h _ rfl (.list f _ a e _) ⟨⟨_,qp _ rfl,rfl,rfl⟩,?_⟩);obtain⟨o,d,r⟩:=c;exact⟨o,qe _ d,r⟩
theorem LJ{σ:L2.St}(I:Inv X pins σ H s)(k:∀b u,b∉[~~~s]->(s.heap.push o).get? b=some u->a.get? b=some u):Inv X pins σ H {s with heap:=a,toks:=tk}:=
 I.kept λb u q=>k b u (by
  intro z
  exact absurd (ql q) (by ext)) (qe _ q)
def Sh(l:X.calm=true):dA X (.builtin "any") (gb λb=>.bl (b.any id)):=by
 intro pins s σ H v t Q I r h;obtain⟨a,b,rfl,g,q⟩:=h;obtain⟨u,rfl,d⟩:=ef r;cases d;obtain⟨o,j,n,m⟩:=I.list (.inl g);cases BB j;refine call_any_walk (LI (pins:=pins) (σ:=σ) (H:=H) (I.ok.hd l) n.isList λc e W st=>?_);subst e;refine⟨_,_,_,_,_,_,λi=>b.getD i _,rfl,W,st,LH _ _ _ b,λp f k=>⟨.bl _,H,show Inv X _ σ H {s with heap:=p,toks:=f} from LJ I k,?_,q⟩⟩;show _=_;rw[qk,qf,Sf]
def Si(l:X.calm=true):dA X (.builtin "all") (gb λb=>.bl (b.all id)):=by
 intro pins s σ H v t Q I r h;obtain⟨a,b,rfl,g,q⟩:=h;obtain⟨u,rfl,d⟩:=ef r;cases d;obtain⟨o,j,n,m⟩:=I.list (.inl g);cases BB j;refine call_all_walk (LI (pins:=pins) (σ:=σ) (H:=H) (I.ok.hd l) n.isList λc e W st=>?_);subst e;refine⟨_,_,_,_,_,_,λi=>b.getD i _,rfl,W,st,LH _ _ _ b,λp f k=>⟨.bl _,H,show Inv X _ σ H {s with heap:=p,toks:=f} from LJ I k,?_,q⟩⟩;show _=_;rw[qk,qf,Sg]
def eB:AN->Option D
 | [.lst l]=>(bO l).map λa=>.bl (a.any id)
 | _=>none
def gc:AN->Option D
 | [.lst l]=>(bO l).map λa=>.bl (a.all id)
 | _=>none
def LK{gd:AG->D}(c:∀e d,m e=some d->∃l b,e=[.lst l]/\bO l=some b/\d=gd b)(n:∀G b,Rp K G (gd b) (g b)):dM K (gb g) m:=by
 intro o e d H G Q h s r q;obtain⟨l,b,rfl,j,rfl⟩:=c e d h;obtain⟨v,rfl,k⟩:=eR r;obtain⟨a,p,rfl,f,i⟩:=k;cases LF j;cases LG i;exact⟨a,b,rfl,f,q _ H G (.refl s) (n G b)⟩
def BC:dM K (gb λa=>.bl (a.any id)) eB:=LK (λc d h=>by
 unfold eB at h
 split at h
 .obtain⟨a,b,rfl⟩:=qc h
  exact⟨_,a,rfl,b,rfl⟩
 .cases h) λG a=>by rw[Rp]
theorem BD:dM K (gb λa=>.bl (a.all id)) gc:=LK (gd:=λa=>.bl (a.all id)) (λc d h=>by
 unfold gc at h
 split at h
 .obtain⟨a,b,rfl⟩:=qc h
  grind
 .cases h) λG a=>by rw[Rp]
end
section
variable {w:World}{A:Around}{E:AA}{s:Shared}
def Sj(b:s.heap.IsTupleIter d t i)(l:s.heap.IsTuple t a)(j:a[i]?=some x)(k:∀p,p.IsTupleIter d t (i+1)->Heap.SameBut d s.heap p->Q x {s with heap:=p}):
 wpAny (mZ prog w) A (Builtin.SmallTypes.nextOf (.ref d)) Q E s:=by
 obtain⟨o,e,h,c⟩:=id b;obtain⟨n,f,_,m,g⟩:=l
 refine wa (wpAny_callSpecial?_slot b.typeIs F.slot_tuple_iterator_next
  (wg F.slot_tuple_iterator_next b.typeIs F.entry_tuple_iterator_next ?_ (F.args_tuple_iterator_next_1 _)))
 show wpAny _ _ (field _ 0>>=_) _ _ s;refine wa (wpAny_field e c (x:=.ref t) rfl (wa (wpAny_field e c (x:=.int i 0) rfl (wa (wpAny_seqItems f g ?_)))));simp [j]
 exact wa (wpAny_setField e c nofun (wc ⟨x,rfl,wc (k _ (⟨_,wy _ e (Obj.isFreed_of_fields (jf c _)),(Obj.cls_mapFields ..).trans h,by
  rw[jf c];simp[rawInt]⟩) (.update ..))⟩))
theorem Sk(j:A.handled=none)(a:s.heap.IsTupleIter d l i)(m:s.heap.IsTuple l b)(k:b[i]?=none)(n:∀t e,Heap.ExtBut d s.heap t->(∃o,t.get? e=some o/\o.cls=.type "StopIteration")->E (.ref e) {s with heap:=t}):
 wpAny (mZ prog w) A (Builtin.SmallTypes.nextOf (.ref d)) Q E s:=by
 obtain⟨o,g,r,h⟩:=id a;obtain⟨p,f,_,q,c⟩:=m
 refine wa (wpAny_callSpecial?_slot a.typeIs F.slot_tuple_iterator_next
  (wg F.slot_tuple_iterator_next a.typeIs F.entry_tuple_iterator_next ?_ (F.args_tuple_iterator_next_1 _)))
 show wpAny _ _ (field _ 0>>=_) _ _ s;refine wa (wpAny_field g h (x:=.ref l) rfl (wa (wpAny_field g h (x:=.int i 0) rfl (wa (wpAny_seqItems f c ?_)))));simp [k];refine wa (wpAny_rule (wa (wpAny_setField g h nofun (wa (wa (m:=firstArgMember _ _) (wpAny_of_eq (a:=.none) (by first|rfl|(rfl)) (wh (wa (wpAny_handled ?_)) (by size_fits))))))))
 first|rw[j]|rw[j]
 refine wa (wc (wpAny_throw ?_));exact n _ _ (((ww ..).extBut.push _).push _) ⟨_,qp _ rfl,rfl⟩
theorem Sl{i:Nat}{Q:AA}(he:IsEnum s.heap e z i W)(Y:s.heap.IsTupleIter z l i)(hl:s.heap.IsTuple l M)(hx:M[i]?=some x)(B:e≠z)(hQ:∀K,IsEnumOut K e z ((i:Int)+1) x (~~~s)->K.IsTupleIter z l (i+1)->
  K.get? (~~~s)=some {cls:=.type "tuple",data:=.seq #[.int i s.toks,x]}->K.objs.size= ~~~s+1->
  (∀b o,b≠e->b≠z->s.heap.get? b=some o->K.get? b=some o)->Q (.ref (~~~s)) {s with heap:=K,toks:=s.toks+1}):
 wpAny (mZ prog w) A (Builtin.«enumerate.__next__» ⟨[.ref e],[]⟩) (λZ s'=>∃v,Z=.done (.ret v)/\Q v s') E s:=by
 obtain⟨V,g,d,tk,os⟩:=s;show wpAny _ _ (field (.ref e) 2>>=_) _ _ _;refine wa (wpAny_field he rfl (x:=.ref z) rfl ?_);refine wa (Sj Y hl hx λh₁ D t=>?_);have p:=(t.2 e B).trans he;refine wa (wpAny_field p rfl (x:=rawInt i) rfl ?_);refine wa (wpAny_field p rfl (x:=.none) rfl ?_);refine wa (wpAny_mkInt ?_);refine wa (wpAny_setField_rec p nofun λU P u=>?_);refine wa (wpAny_setField_rec P nofun λm N c=>?_);replace c:Heap.SameBut e U m:=c;show wpAny _ _ _ _ _ ⟨m,g,d,tk+1,os⟩;refine wa (wpAny_newTuple ?_);have j:IsEnum (m.push {cls:=.type "tuple",data:=.seq #[.int i tk,x]}) e z ((i:Int)+1) W:=qe _ N;generalize f:m.push _=n at j
 have G:m.objs.size=V.objs.size:=by rw[c.1,u.1,t.1]
 have H:e<V.objs.size:=ql he
 have R:n.get? V.objs.size=some {cls:=.type "tuple",data:=.seq #[.int i tk,x]}:=by rw[<-f,<-G];exact qp _ rfl
 have J:n.objs.size=V.objs.size+1:=by rw[<-f,wx,G]
 have S:∀b o,b≠e->b≠z->V.get? b=some o->n.get? b=some o:=λb o y O hb=>by
  rw[<-f];exact qe _ (c.extBut b o y (u.extBut b o y (t.extBut b o O hb)))
 have C:n.IsTupleIter z l (i+1):=by
  rw[<-f];obtain⟨o,ho,r⟩:=D.at λo q=>c.extBut z o (Ne.symm B) (u.extBut z o (Ne.symm B) q);exact⟨o,qe _ ho,r⟩
 show wpAny _ _ _ _ _ ⟨n,g,d,tk+1,os⟩;rw[G];refine wa ?_
 .refine wa (wpAny_field j rfl (x:=.none) rfl (wc ?_))
  refine wa (wpAny_rule ?_);refine wa (wpAny_field j rfl (x:=W) rfl ?_);refine wa (wpAny_setField_rec j nofun λh₅ I h=>?_);refine wa ?_
  .refine wa (wpAny_setField_rec I nofun λX L k=>?_)
   refine wpAny_setField_rec L nofun λF T a=>?_;replace a:Heap.SameBut e X F:=a;refine wa (wpAny_letGo (wc ⟨_,rfl,hQ F T ?_ ?_ ?_ ?_⟩))
   .exact C.at λo q=>a.extBut z o (Ne.symm B) (k.extBut z o (Ne.symm B) (h.extBut z o (Ne.symm B) q))
   .exact a.extBut _ _ (Nat.ne_of_gt H) (k.extBut _ _ (Nat.ne_of_gt H) (h.extBut _ _ (Nat.ne_of_gt H) R))
   .rw[a.1,k.1,h.1,J]
   .exact λb o y O hb=>a.extBut b o y (k.extBut b o y (h.extBut b o y (S b o y O hb)))
def Sn{i:Nat}(n:IsEnum s.heap e g i p)(h:s.heap.IsTupleIter g l i)(t:s.heap.IsTuple l f)(q:f[i]?=some x)(j:e≠g)(r:∀u,IsEnumOut u e g ((i:Int)+1) x (~~~s)->u.IsTupleIter g l (i+1)->
  u.get? (~~~s)=some {cls:=.type "tuple",data:=.seq #[.int i s.toks,x]}->u.objs.size= ~~~s+1->
  (∀b o,b≠e->b≠g->s.heap.get? b=some o->u.get? b=some o)->Q (some (.ref (~~~s))) {s with heap:=u,toks:=s.toks+1}):
 wpAny (mZ prog w) A (pyNext (.ref e)) Q E s:=by
 have m:s.TypeIs (.ref e) _:=⟨_,n,rfl⟩
 exact wa (jg (wpAny_callSpecial?_slot m F.slot_enumerate_next
  (wg F.slot_enumerate_next m F.entry_enumerate_next
   (Sl n h t q j λu a b c d k=>wc (r u a b c d k)) (F.args_enumerate_next_1 _))))
def So{i:Nat}(m:A.handled=none)(g:IsEnum s.heap e c i r)(b:s.heap.IsTupleIter c l i)(q:s.heap.IsTuple l a)(j:a[i]?=none)(n:∀t,Heap.ExtBut c s.heap t->Q none {s with heap:=t}):wpAny (mZ prog w) A (pyNext (.ref e)) Q E s:=by
 have h:s.TypeIs (.ref e) _:=⟨_,g,rfl⟩
 refine wa (jg (wpAny_callSpecial?_slot h F.slot_enumerate_next
  (wg F.slot_enumerate_next h F.entry_enumerate_next ?_ (F.args_enumerate_next_1 _))))
 show wpAny _ _ (field _ 2>>=_) _ _ _;refine wa (wpAny_field g rfl (x:=.ref c) rfl (wa (Sk m b q j λt x d f=>?_)));obtain⟨o,p,k⟩:=f;exact wa (wpAny_isInstance ⟨o,p,k⟩ isSubtype_stop (wc (n _ d)))
def Sq(l:Addr)(a:Array Value)(n:Nat)(f:Option Addr)(k:Array (Option Value)):
 Meets (Builtin.«enumerate.__new__» ⟨[.type "enumerate",.ref l],[]⟩) (λ_ R s=>s.heap.get? l=some {cls:=.type "tuple",dict:=f,data:=.seq a n,slots:=k}/\
  R (.ok (.ret (.ref (s.heap.push {cls:=.type "tuple_iterator",data:=.fields #[.ref l,.int 0 0]}).objs.size)))
   {s with heap:=(s.heap.push {cls:=.type "tuple_iterator",data:=.fields #[.ref l,.int 0 0]}).push {cls:=.type "enumerate",data:=.fields #[.none,.bool false,.ref (~~~s),rawInt 0,.none,.none]} }):=
 .of_wp λo w A R s h=>by
  obtain⟨j,g,d,p,os⟩:=s;obtain⟨b,h⟩:=h;have i:=sub_enumerate
  have e:Heap.IsTuple (Shared.heap ⟨j,g,d,p,os⟩) l a:=⟨_,b,rfl,n,rfl⟩
  wp_walk using m.AutoSeq1.wpAny_loadPart' b
  refine wpAny_stack_any λst=>wc ?_
  split
  .rename_i c _ _ _ _ _
   cases (c==Value.type "enumerate")
   .wp_walk using m.AutoSeq1.wpAny_loadPart' b,wpAny_pyIter_tuple e
    exact⟨_,rfl,h⟩
   .wp_walk using m.AutoSeq1.wpAny_loadPart' b,wpAny_pyIter_tuple e
    exact⟨_,rfl,h⟩
  .wp_walk using m.AutoSeq1.wpAny_loadPart' b,wpAny_pyIter_tuple e
   exact⟨_,rfl,h⟩
theorem Sr(m:s.heap.IsTuple l a)(h:∀r,IsEnum r (~~~s+1) (~~~s) 0 .none->r.IsTupleIter (~~~s) l 0->r.objs.size= ~~~s+2->
  (∀b o,s.heap.get? b=some o->r.get? b=some o)->Q (.ref (~~~s+1)) {s with heap:=r}):
 wpAny (mZ prog w) A (call (.type "enumerate") [.ref l]) Q E s:=by
 obtain⟨⟨c,d,q,g⟩,p,j,n,k⟩:=m;subst j k
 refine callType_new F.called_enumerate (by decide) (F.typeCall_enumerate_1 _) (F.newCall_enumerate_1 _) (λe=>F.args_object_init_2 e _) F.entry_enumerate_new
  (Sq l a n d g) ⟨p,?_⟩
 have i:(s.heap.push {cls:=.type "tuple_iterator",data:=.fields #[.ref l,.int 0 0]}).objs.size=_:=wx ..;rw[i]
 have f:IsEnum ((s.heap.push {cls:=.type "tuple_iterator",data:=.fields #[.ref l,.int 0 0]}).push
  {cls:=.type "enumerate",data:=.fields #[.none,.bool false,.ref (~~~s),rawInt 0,.none,.none]}) (~~~s+1) (~~~s) 0 .none:=by
  have:=qp (s.heap.push {cls:=.type "tuple_iterator",data:=.fields #[.ref l,.int 0 0]})
   (o:={cls:=.type "enumerate",data:=.fields #[.none,.bool false,.ref (~~~s),rawInt 0,.none,.none]}) rfl
  grind
 refine⟨⟨_,f,rfl⟩,h _ f ⟨_,qe _ (qp _ rfl),rfl,rfl⟩ (by ext) λb o x=>qe _ (qe _ x)⟩
end
theorem LM{σ:L2.St}{ch:List Addr}{T:Addr}(I:Inv X pins σ H s)(f:∀b∈ch,cI X pins H b)(k:∀b u,b∉ch->s.heap.get? b=some u->h'.get? b=some u)(g:(~~~s)<=T)(p:ObjOk X.prog X.w (upd H T o) h' T o):Inv X pins σ (upd H T o) {s with heap:=h',toks:=t' }:=by
 have d:=I.hok.fresh g
 have j:∀b u,H b=some u->b∉ch:=λb u e z=>by rw[(f b z).1]at e;cases e
 refine I.step (λb x=>?_) (λb u _ _ a e _=>k b u a e) (λb u _ _ a e _=>⟨u.slots,k b u a e⟩) (λb u _ e n=>?_)
  (λb u a e=>⟨u,k b u a e⟩) (λb E e=>?_) (λb u E e=>?_) (λb G e=>⟨#[],?_⟩) (λm l=>?_) (λb u e=>?_) I.bare
 .obtain⟨_,B,_,C,y,A⟩:=f b x
  grind
 .rwa [Yh (qm (Qi (ql e) g))]
 .rwa [Yh (Yk e d)]
 .rwa [Yh (Yk e d)]
 .rw[Yh (Yk e d),e];simp
 .obtain⟨h,t,i,w,r⟩:=l
  exact⟨h,t,i,k _ h (λz=>(f _ z).2.1 rfl) w,r⟩
 .by_cases x:b=T
  .subst x;rw[Yg]at e;grind
  .rw[Yh x]at e
   refine(I.hok b u e).stay (λc v a q=>k c v ?_ q) (λc q=>by rwa [Yh (Yk q d)]) λc E q=>by rwa [Yh (Yk q d)]
   grind
def n_(K:W7)(a:Addr):It:=
 ⟨λi H=>∃b x,SqL K H a b/\b[i]?=some x,λi H x c=>∃y p,(∀b,SqL K H a b->b[i]?=some y)/\H p=none/\x=.ref p/\c=upd H p (.tup [.int i,y]),λi H=>∃b,SqL K H a b/\b.length<=i⟩
def oa(K:W7)(a:Addr):It:=
 ⟨λi H=>∃b x,SqT K H a b/\b[i]?=some x,λi H x c=>∃y p,(∀b,SqT K H a b->b[i]?=some y)/\H p=none/\x=.ref p/\c=upd H p (.tup [.int i,y]),λi H=>∃b,SqT K H a b/\b.length<=i⟩
section
variable {pt:Pos}
theorem Ss(a j e:Addr)(n:e≠j):d4 P w K (.Tuple elts x1 pt) (n_ K a) [e,j] e (λi h=>(∃g,IsEnum h e j i g)/\h.IsListIter j a i) where
 mem:=by simp
 obj:=λi h st b hb=>by
  obtain⟨⟨g,l⟩,f⟩:=st;rcases qu hb with rfl|hb
  .simp_all
  .obtain⟨o,q,c,d⟩:=f
   grind
 keep:=λi h h' st k=>by
  obtain⟨⟨g,l⟩,f⟩:=st;exact⟨⟨g,k e nofun _ l⟩,f.at λo q=>k j nofun o q⟩
 item:=by
  intro X J A F M i pins s σ H E I y st G;subst J A F;obtain⟨xs,x,v,C⟩:=G;obtain⟨its,B,p,hz⟩:=I.list v;obtain⟨u,hu,T⟩:=B.get C;obtain⟨⟨g,l⟩,f⟩:=st;refine wpAny_pyNext_enum_item l f p.isList (x:=u) (by grind) n λh' ho r N hsz O=>?_;refine⟨_,rfl,wpAny_letOwnedTupleGo_enum ho λh2 D m=>?_⟩;have U:=I.fresh
  have t:∀b∈[e,j],b≠(~~~s):=λb hb z=>by
   rcases qu hb with rfl|hb
   .grind
   .obtain⟨o,q,_⟩:=f
    exact absurd (ql q) (by ext)
  have Q:∀b o,b∉[e,j]->_:=λb o hb q=>by
   have L:b≠e:=λz=>hb (by simp[z]);have S:b≠j:=λz=>hb (by simp[z]);exact(m.2 b L).trans (O b o L S q)
  have W:=(m.2 _ (Ne.symm (t e nofun))).trans N;refine⟨.ref _,upd H _ _,LM (s:=s) (t':=s.toks+1) I y Q (qv _) ?_,rfl,⟨x,~~~s,λys R=>by rw[I.list_inj R v];exact C,U,rfl,rfl⟩,⟨⟨_,by simpa using D⟩,r.at λo q=>(m.2 j (Ne.symm n)).trans q⟩,λb hb=>?_⟩
  .exact⟨by rw[jh];ext,[.int i s.toks,u],.cons ⟨_,rfl⟩ (.cons T .nil),_,W,rfl,0,rfl⟩
  .rw[Yh (t b hb)];exact(y b hb).1
 done:=by
  intro X J A F M i pins s σ H E I y st G;subst J A F;obtain⟨xs,v,C⟩:=G;obtain⟨its,B,p,hz⟩:=I.list v;obtain⟨⟨g,l⟩,f⟩:=st;obtain⟨f0,f1,f2,V,Z,f5⟩:=y j nofun;have hl:=B.length
  exact wpAny_pyNext_enum_end (I.ok.hd M) l f p.isList (by simp;lia) λh' Y=>⟨rfl,I.turned (λb o hb e=>Y b o hb e) f0 f1 V Z f5⟩
 self:=λ_ _ _ _ _ st h=>let ⟨⟨_,l⟩,_⟩:=st;wpAny_pyIter_enum l h
theorem Su(a j e:Addr)(n:e≠j):d4 P w K (.Tuple elts x1 pt) (oa K a) [e,j] e (λi h=>(∃g,IsEnum h e j i g)/\h.IsTupleIter j a i) where
 mem:=by simp
 obj:=λi h st b hb=>by
  obtain⟨⟨g,l⟩,f⟩:=st;rcases qu hb with rfl|hb
  .grind
  .obtain⟨o,q,c,d⟩:=f
   symm
 keep:=λi h h' st k=>by
  obtain⟨⟨g,l⟩,f⟩:=st;exact⟨⟨g,k e nofun _ l⟩,f.at λo q=>k j nofun o q⟩
 item:=by
  intro X J A F M i pins s σ H E I y st G;subst J A F;obtain⟨xs,x,v,C⟩:=G;obtain⟨its,B,p,hz⟩:=I.tuple v;obtain⟨u,hu,T⟩:=B.get C;obtain⟨⟨g,l⟩,f⟩:=st;refine Sn l f (p) (x:=u) ⋯ n λh' ho r N hsz O=>?_;refine⟨_,rfl,wpAny_letOwnedTupleGo_enum ho λh2 D m=>?_⟩;have U:=I.fresh
  have t:∀b∈[e,j],b≠(~~~s):=λb hb z=>by
   rcases qu hb with rfl|hb
   .grind
   .obtain⟨o,q,_⟩:=f
    exact absurd (ql q) ⋯
  have Q:∀b o,b∉[e,j]->_:=λb o hb q=>by
   have L:b≠e:=λz=>hb (by simp[z]);have S:b≠j:=λz=>hb (by simp[z]);exact(m.2 b L).trans (O b o L S q)
  have W:=(m.2 _ (Ne.symm (t e nofun))).trans N;refine⟨.ref (~~~s),upd H _ _,LM (s:=s) (t':=s.toks+1) I y Q (qv _) ?_,rfl,⟨x,~~~s,λys R=>by rw[I.tuple_inj R v];exact C,U,rfl,rfl⟩,⟨⟨_,by simpa using D⟩,r.at λo q=>(m.2 j (Ne.symm n)).trans q⟩,λb hb=>?_⟩
  .exact⟨by rw[jh];symm,[.int i s.toks,u],.cons ⟨_,rfl⟩ (.cons T .nil),_,W,rfl,0,rfl⟩
  .rw[Yh (t b hb)];exact(y b hb).1
 done:=by
  intro X J A F M i pins s σ H E I y st G;subst J A F;obtain⟨xs,v,C⟩:=G;obtain⟨its,B,p,hz⟩:=I.tuple v;obtain⟨⟨g,l⟩,f⟩:=st;obtain⟨f0,f1,f2,V,Z,f5⟩:=y j nofun;have hl:=B.length
  exact So (I.ok.hd M) l f (p) (by simp;ac_nf) λh' Y=>⟨rfl,I.turned (λb o hb e=>Y b o hb e) f0 f1 V Z f5⟩
 self:=λ_ _ _ _ _ st h=>let ⟨⟨_,l⟩,_⟩:=st;wpAny_pyIter_enum l h
def BE(K:W7)(c:TA):TI:=λe H R=>c e H λf b=>∃a d,f=[.ref a]/\((SqL K b a d/\(d.length<=sizeLine->R (n_ K a) b))\/(SqT K b a d/\(d.length<=sizeLine->R (oa K a) b)))
theorem BF(B:Gl X "enumerate")(w:X.mg "enumerate"=none)(y:PA X [l] A)(hs:aad X l:=by rfl):PI X (.Tuple elts x1 pt) (.Call (.Name "enumerate" p) [l] [] pos) (BE X.K A):=by
 intro J s K H R I h;refine Call_ (iV I B w boot_enumerate (PyProof.Rows.callWith_type1 (az (y pos _ s K H _ I h) λM c t=>?_) hs rfl));obtain⟨N,v,f,x,z⟩:=t;obtain⟨a,O,rfl,q⟩:=z;obtain⟨u,rfl,D⟩:=ef x;cases D
 have j:∀(k:Heap),k.objs.size=c.heap.objs.size+2->(∀b o,c.heap.get? b=some o->k.get? b=some o)->∀b∈[c.heap.objs.size+1,c.heap.objs.size],_:=λk n g b L=>by
  have i:c.heap.objs.size<=b:=by
   ext<;>lia
  exact f.fpOk i (f.hok.fresh i)
 rcases q with⟨r,q⟩|⟨r,q⟩
 .obtain⟨F,C,G,n⟩:=f.list r
  exact call_enumerate_list G.isList λk m d e g=>wpAny_pyIter_enum m (⟨_,[c.heap.objs.size+1,c.heap.objs.size],_,_,v,rfl,f.kept g,Ss a _ _ (Nat.succ_ne_self _),⟨⟨_,m⟩,d⟩,j k e g,q n⟩)
 .obtain⟨F,C,G,n⟩:=f.tuple r
  exact Sr (G) λk m d e g=>wpAny_pyIter_enum m (⟨_,[c.heap.objs.size+1,c.heap.objs.size],_,_,v,rfl,f.kept g,Su a _ _ (Nat.succ_ne_self _),⟨⟨_,m⟩,d⟩,j k e g,q n⟩)
noncomputable def fi(l:AN):AN:=(List.range l.length).map λi:Nat=>.tup [.int i,l.getD i .non]
def fH(c:D):Option AN:=(Yc c).map fi
theorem BG{i:Nat}(h:(fi l)[i]?=some d):∃e,l[i]?=some e/\d=.tup [.int i,e]:=by
 unfold fi at h;grind
def lU(l:AN):(fi l).length=l.length:=by simp[fi]
def Gr.newTup(s:Same G H)(a:H p=none)(i:Nat)(r:Rp K G d x):∃b,Gr H G (upd H p (.tup [.int i,x])) b/\Rp K b (.tup [.int i,d]) (.ref p):=⟨_,.new s a _,⟨p,_,rfl,Yg,.cons (by rw[Rp]) (.one (r.mono (Gr.new s a _).g))⟩⟩
end
noncomputable def gG(k:Int):Value->Bool
 | .int i _=>i==k
 | .bool b=>(if b then 1 else 0)==k
 | _=>false
theorem lV(h:gG k v=true):(∃t,v=.int k t)\/∃b:Bool,v=.bool b/\k=if b then 1 else 0:=by
 cases v with
 | int i t=>
   have e:=by simpa [gG]using h
   grind
 | bool b=>
   have e:=by simpa [gG]using h
   ext
 | _=>simp[gG]at h
theorem Sv(h:Q (hashInt (if b then 1 else 0)) {s with toks:=s.toks+1}):
 wpAny (mZ prog w) A (pyHash (.bool b)) Q E s:=by
 have a:s.TypeIs (.bool b) "bool":=rfl;refine wa ?_;refine wc ?_;refine wa (wpAny_specialOf a F.slot_bool_hash.lookup ?_);refine wa (wpAny_specialOf a F.slot_bool_hash.lookup ?_)
 refine wa (wpAny_callSpecialIfBoundUnlessNone?_slot a F.slot_bool_hash
  (wg F.slot_bool_hash a entry_int_hash
   (wpAny_ret_mkInt ?_) (args_int_hash _)))
 show wpAny _ _ (if _ then _ else _) Q E _;rw[if_pos (by split<;>ext)];exact wc h
def dN(prog:P7)(w:World):KeyKind prog w Int where
 is:=gG
 hash:=hashInt
 inj:=λv a b j m=>by
  rcases lV j with⟨t,rfl⟩|⟨c,rfl,rfl⟩
  .have e:a=b:=by simpa [gG]using m
   exact e
  .have e:=by simpa [gG]using m
   exact e
 byValue:=λk v h=>by
  rcases lV h with⟨t,rfl⟩|⟨c,rfl,rfl⟩<;>rfl
 pyHash:=λg h=>by
  rcases lV g with⟨t,rfl⟩|⟨c,rfl,rfl⟩
  .exact wpAny_pyHash_int h
  .exact Sv h
 eqBool:=λ{A E s a b u v Q} i g h=>by
  rcases lV i with⟨t,rfl⟩|⟨c,rfl,rfl⟩
  .rcases lV g with⟨l,rfl⟩|⟨f,rfl,rfl⟩
   .exact wpAny_eqBool_int (by grind)
   .exact SeqAt.EqAt.int_bool a t f _ _ _ _ (by grind)
  .rcases lV g with⟨l,rfl⟩|⟨f,rfl,rfl⟩
   .exact SeqAt.EqAt.bool_int c b l _ _ _ _ (by grind)
   .refine SeqAt.EqAt.bool_bool c f _ _ _ _ ?_
    have e:(c==f)=decide ((if c=true then (1:Int)else 0)=if f=true then 1 else 0):=by split<;>ext
    ext
 «strs»:=λk x t v h=>by simp[gG]at h
def BH(h:hE x=some i)(r:RelV x u):(dN P w).is i u=true:=by
 cases x<;>simp[hE]at h
 .subst h
  cases (r);simp[dN,gG]
 .subst h
  obtain⟨t,rfl⟩:=r;simp[dN,gG]
theorem LN:∀{xs:AM}{ks:AF}{us:AC},dS xs=some ks->Vals xs us->ItemsAre (dN P w) ks us
 | [],ks,us,h,r=>by
   cases h;cases r;exact .nil
 | x::xs,ks,us,h,r=>by
   obtain⟨i,c,h⟩:=qa h;obtain⟨l,b,rfl⟩:=qc h
   cases r with
   | cons a d=>exact .cons (BH c a) (LN b d)
def j7(f:HOk P w H h)(e:H b=some (.tup ys))(n:dS ys=some ks):(tupleKind (dN P w)).is h ks b:=by
 obtain⟨_,a,r,o,g,d,k,c⟩:=f b _ e;exact⟨o,a.toArray,k,g,d,c,by simpa using LN n r⟩
noncomputable abbrev bc(nks:List (List Int×Addr))(us:AC):List (List Int×Addr×Value):=(nks.zip us).map λp=>(p.1.1,p.1.2,p.2)
theorem Sw(h:us.length=nks.length):(bc nks us).map (·.1)=nks.map (·.1):=by
 have:nks=(nks.zip us).map (·.1):=by rw[List.map_fst_zip (by ext)]
 conv=>rhs;rw[this]
 simp
def oe(b:HOk P w H h)(k:Same G H)(e:H a=some (d6 a nks vxs j))(v:nks.length=vxs.length)(hn:(nks.map (·.1)).Nodup)(u:∀p∈nks,∃ys,G p.2=some (.tup ys)/\dS ys=some p.1):(a==sysModules)=false/\∃us,Vals vxs us/\us.length=nks.length/\h.DictOfH (tupleKind (dN P w)) a (bc nks us):=by
 obtain⟨⟨i,us,o,q,r,t,m,n,l⟩,_⟩:=b a _ e
 have c:us.length=nks.length:=by rw[v,r.length]
 refine⟨i,us,r,c,o,q,j,t,m,n,?_,λx g=>?_,by rwa [Sw c]⟩
 .rw[l,Qf]
  rfl
 .obtain⟨p,d,rfl⟩:=qy g
  obtain⟨ys,f,s⟩:=u p.1 (List.of_mem_zip d).1;exact j7 b (k _ _ f) s
noncomputable def Yn{a b:Type}[DecidableEq a]:List a->List b->a->Option b
 | k::ks,v::vs,x=>if k=x then some v else Yn ks vs x
 | _,_,_=>none
theorem BI(k:AF):∀(nks:List (List Int×Addr)) (us:AC),(atKey (bc nks us) k).map (·.2)=Yn (nks.map (·.1)) us k
 | [],us=>by cases us<;>simp[atKey,Yn]
 | p::nks,[]=>by constructor<;>ac_nf
 | p::nks,u::us=>by
   by_cases e:p.1=k
   .simp[atKey,Yn,e]
   .simp only[bc,List.zip_cons_cons,Qd,atKey,List.find?_cons,e,Yn]
    exact(BI k nks us)
theorem LO[DecidableEq a](x:a):∀{ks:List a}{vxs:AM}{us:AC},Vals vxs us->RelO (Yn ks vxs x) (Yn ks us x)
 | [],_,_,_=>.intro
 | k::ks,_,_,.nil=>.intro
 | k::ks,_,_,.cons r t=>by
   by_cases e:k=x
   .simp [Yn,if_pos e];exact r
   .simp [Yn,if_neg e];exact LO x t
theorem lW[DecidableEq a](x:a):∀{ks:List a}{vs:AN}{vxs:AM},RpL K G vs vxs->(∀d,Yn ks vs x=some d->∃v,Yn ks vxs x=some v/\Rp K G d v)/\(Yn ks vs x=none->Yn ks vxs x=none)
 | [],_,_,_=>⟨λd h=>by simp[Yn]at h,λ_=>by simp[Yn]⟩
 | k::ks,[],_,r=>by
   subst r;exact⟨λd h=>by simp[Yn]at h,λ_=>by simp[Yn]⟩
 | k::ks,d::vs,_,r=>by
   obtain⟨y,f,rfl,c,b⟩:=r;by_cases e:k=x
   .simp [Yn]
    ext
   .simp [Yn,if_neg e]
    exact lW x b
noncomputable def aJ{a b:Type}[DecidableEq a]:List a->List b->a->b->List b
 | k::ks,v::vs,x,y=>if k=x then y::vs else v::aJ ks vs x y
 | _,vs,_,_=>vs
theorem og[DecidableEq a](x:a)(y:b):∀(ks:List a) (vs:List b),(aJ ks vs x y).length=vs.length
 | [],vs=>by cases vs<;>simp[aJ]
 | k::ks,[]=>by simp[aJ]
 | k::ks,v::vs=>by
   simp [aJ]
   split
   .simp
   .simp[og x y ks vs]
theorem LP[DecidableEq a](x:a)(b:RelV y u):∀{ks:List a}{vxs:AM}{us:AC},Vals vxs us->Vals (aJ ks vxs x y) (aJ ks us x u)
 | [],_,_,.nil=>.nil
 | [],_,_,.cons r t=>.cons r t
 | k::ks,_,_,.nil=>.nil
 | k::ks,_,_,.cons r t=>by
   simp [aJ]
   split
   .exact .cons b t
   .exact .cons r (LP x b t)
theorem t_[DecidableEq f](x:f)(c:Rp K G d y):∀{ks:List f}{vs:AN}{vxs:AM},RpL K G vs vxs->RpL K G (aJ ks vs x d) (aJ ks vxs x y)
 | [],[],_,r=>by simpa [aJ]using r
 | [],_::_,_,r=>by
   obtain⟨z,g,rfl,b,a⟩:=r;exact .cons b a
 | k::ks,[],_,r=>by
   subst r;exact .nil
 | k::ks,e::vs,_,r=>by
   obtain⟨z,g,rfl,b,a⟩:=r;simp [aJ]
   split
   .exact .cons c a
   .exact .cons b (t_ x c a)
theorem LQ{b:Addr}:∀{nks:List (List Int×Addr)}{us:AC},us.length=nks.length->(nks.map (·.1)).Nodup->k∈nks.map (·.1)->(bc nks us).map (putAt k u)=bc nks (aJ (nks.map (·.1)) us k u)
 | [],us,_,_,h=>by simp at h
 | p::nks,[],d,_,_=>by simp at d
 | p::nks,v::us,d,f,l=>by
   rw[Qd,List.nodup_cons]at f;by_cases e:p.1=k
   .have a:k∉nks.map (·.1):=by grind
    simp only[bc,List.zip_cons_cons,Qd,aJ,e]
    congr 1
    .simp[putAt,e]
    .refine(Qq λx g=>?_).trans (List.map_id _)
     obtain⟨q,i,rfl⟩:=qy g;have:¬_:=λz=>a (List.mem_map.mpr ⟨q.1,(List.of_mem_zip i).1,z⟩);simp[putAt,this]
   .have c:k∈nks.map (·.1):=by
     grind
    have j:=LQ (b:=b) (u:=u) (us:=us) (by ext) f.2 c;simp only[bc,List.zip_cons_cons,Qd,aJ,e]
    congr 1
    .simp[putAt,e]
theorem j8[DecidableEq a]:∀{ks:List a}{vs:List c},vs.length=ks.length->(Yn ks vs x=none↔x∉ks)
 | [],_,_=>by simp[Yn]
 | k::ks,[],h=>by simp at h
 | k::ks,v::vs,h=>by
   by_cases e:k=x
   .simp[Yn,e]
   .have b:¬x=k:=λz=>e z.symm
    simp [Yn,e,b];exact j8 (by simpa using h)
section
open Sem (wp)
def Sx:typeLookup (.type "list_reverseiterator") "__len__"=pure none:=by kernel_rfl
def BJ:typeLookup (.type "list_reverseiterator") "__length_hint__"=pure (some (.builtin "list_reverseiterator.__length_hint__")):=by kernel_rfl
theorem Sy{prog:P7}{w:World}{A:Around}{s:Shared}{R:Result->Shared->Prop}{I:Addr}{o q:List Addr}{G:Array GenState->Array GenState->Prop}{n:Nat}{P:Nat->Value->Prop}{St:Nat->Shared->Prop}(W:WalksS prog w A.in1 I o q G n P St)(j:∀i s,St i s->s.TypeIs (.ref I) "list_reverseiterator")(S:Addr)(c:Value)(g:Nat)(a:St 0 s)(h:S∉o)(t:I∈o)(r:s.heap.get? S=some {cls:=.type "list",data:=.seq #[] g})(u:∀s' b k,Moved (S::q) G s s'->s'.heap.get? S=some {cls:=.type "list",dict:=none,data:=.seq b k,slots:=#[]}->ItemsOf P b n->R (.ok (.ret c)) s')(hn:n<=sizeLine):
 wpAny (mZ prog w) A.in1 (Builtin.List.listExtendWith (.ref S) (.ref I) c)
  (λl s'=>match l with|.done f=>R (.ok f) s'|.again k=>k.quiet=true/\codeAny (mZ prog w) A k R s') (λe s'=>R (.error e) s') s:=by
 have m:S≠I:=λe=>h (e ▸ t)
 have v:Builtin.List.listSameRef (.ref S) (.ref I)=false:=by simp[Builtin.List.listSameRef,m]
 refine wa (wpAny_typeOf (j 0 _ a) ?_);rw[if_neg (by ext)];refine wa (W.self 0 _ _ _ a ?_);refine wa (we ?_);refine wa (wpAny_specialOf (j 0 _ a) Sx ?_);refine wa (wpAny_specialOf (j 0 _ a) BJ ?_)
 (generalize d:("list_reverseiterator.__length_hint__")=p;wp_delta;rw[show splitId p=some ("list_reverseiterator","__length_hint__") from by subst d;decide +kernel];subst d)
 refine wa (wpAny_isInstance (b:=true) (j 0 _ a) (by kernel_rfl) ?_);refine wc ?_;exact wc ⟨jc F.plain_extend_loop _,codeAny_extend_loopS W hn _ h _ n 0 _ _ _ rfl (Qh _) a r (.nil P) u⟩
section
variable {w:World}{A:Around}{E:AA}{s:Shared}{I:Addr}{G:Array GenState->Array GenState->Prop}{n:Nat}{P:Nat->Value->Prop}{St:Nat->Shared->Prop}
theorem Sz(W:WalksS prog w A.in1 I fp wr G n P St)(hT:∀i s,St i s->s.TypeIs (.ref I) "list_reverseiterator")(hst:St 0 s)(hfp:∀b∈fp,b< ~~~s)(hI:I∈fp)(hQ:∀s' acc,Moved wr G s s'->ItemsOf P acc n->Q acc.toList s')(hn:n<=sizeLine):wpAny (mZ prog w) A (collect (.ref I)) Q E s:=by
 have hSf:(~~~s)∉fp:=λhm=>Nat.lt_irrefl _ (hfp _ hm);unfold collect;refine wa (wpAny_runValue (wz F.entry_proto_collect ?_));rw[jd F.plain_proto_collect _];show wpAny _ A.in1 (newList []>>=λl=>again (.builtin "list.__iadd__" ⟨[l,.ref I],[]⟩)) _ _ s;refine wa (wh ?_);refine wc ⟨jc F.plain_list_iadd _,wz F.entry_list_iadd ?_⟩;rw[jd F.plain_list_iadd _];have hst₁:=W.frame 0 s (s.heap.push {cls:=.type "list",data:=.seq ([]:AC).toArray}) s.toks hst (qv _) λb _ o e=>qe _ e;have hS₁:(s.heap.push {cls:=.type "list",data:=.seq ([]:AC).toArray}).get? (~~~s)=some {cls:=.type "list",data:=.seq ([]:AC).toArray}:=qp _ rfl;show wpAny _ A.in1 (Builtin.List.listExtendWith (.ref (~~~s)) (.ref I) (.ref (~~~s))) _ _ _
 refine w4 (Sy (A:=A) (R:=λr s'=>r=.ok (.ret (.ref (~~~s)))/\∃acc' c',Moved (~~~s::wr) G {s with heap:=s.heap.push {cls:=.type "list",data:=.seq ([]:AC).toArray} } s'/\s'.heap.get? (~~~s)=some {cls:=.type "list",dict:=none,data:=.seq acc' c',slots:=#[]}/\ItemsOf P acc' n)
  W hT _ _ 0 hst₁ hSf hI hS₁ (λs' acc' c' a b c=>⟨rfl,acc',c',a,b,c⟩) hn) (λfin s' h=>?_) (λe s' h=>?_)
 .have fin':∀s' acc' c',Moved (~~~s::wr) G {s with heap:=s.heap.push {cls:=.type "list",data:=.seq ([]:AC).toArray} } s'->s'.heap.get? (~~~s)=some {cls:=.type "list",dict:=none,data:=.seq acc' c',slots:=#[]}->ItemsOf P acc' n->
   wpAny (mZ prog w) A (match Value.ref (~~~s) with
    | Value.ref a=>do
      match (<-load a).data with
       | Data.seq xs _=>pure xs.toList
       | _=>unsupported "internal:collect"
    | _=>unsupported "internal:collect") Q E s':=λs' acc' c' hm hS' hacc=>by
   show wpAny _ A (load (~~~s)>>=_) _ _ s';refine wa (wpAny_load hS' ?_);exact wc (hQ s' acc' (Moved.drop_new (o:={cls:=.type "list",data:=.seq ([]:AC).toArray}) (tk:=s.toks) hm (qv _)) hacc)
  cases fin with
  | done f=>
    obtain⟨e,acc',c',a,b,c⟩:=h;cases e;exact fin' _ acc' c' a b c
  | again c'=>exact⟨h.1,codeAny_mono h.2 λr s'' hr=>by obtain⟨rfl,acc',c',a,b,c⟩:=hr;exact fin' _ acc' c' a b c⟩
 .exact absurd h.1 nofun
theorem SA{Q₁:AA}(W:WalksS prog w A.in1.in1 I fp wr G n P St)(k:∀i s,St i s->s.TypeIs (.ref I) "list_reverseiterator")(d:St 0 s)(f:∀b∈fp,b< ~~~s)(m:I∈fp)(h:∀s' a,Moved wr G s s'->ItemsOf P a n->Q₁ (.ref s'.heap.objs.size) { s' with heap:=s'.heap.push {cls:=.type "tuple",data:=.seq a} })(hsz:n<=sizeLine):
 codeAny (mZ prog w) A (.call (.builtin "tuple.__new__") ⟨[.type "tuple",.ref I],[]⟩) (wants Q₁ E) s:=by
 refine codeAny_of_tree ?_;refine wa (wpAny_of_eq (F.newCall_tuple_1 _) (wc ⟨jc F.plain_tuple_new _,wz F.entry_tuple_new ?_⟩));rw[jd F.plain_tuple_new _];have j:=sub_tuple_self;have g:=init_tuple_lookup;have l:=madeHere_tuple;have e:=k 0 s d
 wp_walk using wpAny_typeOf e,Sz (hn:=hsz) W k d f m
 intro s' a o c;show wpAny _ _ (Builtin.Tuple.tupleExact a.toList.toArray>>=λv=>ret v) _ _ _;unfold Builtin.Tuple.tupleExact;refine wa (wh ?_ (by show a.toList.toArray.size<=sizeLine;simp only[Array.toArray_toList];rw[c.1];exact hsz));refine wc ?_
 ext
def SB(W:WalksS prog w A.in1.in1.in1 I fp wr G n P St)(l:∀i s,St i s->s.TypeIs (.ref I) "list_reverseiterator")(g:St 0 s)(h:∀b∈fp,b< ~~~s)(k:I∈fp)(m:∀s' d,Moved wr G s s'->ItemsOf P d n->Q (.ref s'.heap.objs.size) { s' with heap:=s'.heap.push {cls:=.type "tuple",data:=.seq d} })(hsz:n<=sizeLine):
 wpAny (mZ prog w) A (call (.type "tuple") [.ref I]) Q E s:=callType_codes (Q₁:=λe a=>a.TypeIs e _/\Q e a) F.called_tuple (F.typeCall_tuple_1 _) F.entry_object_init
 (SA (hsz:=hsz) W l g h k λs' d j f=>⟨⟨_,qp _ rfl,rfl⟩,m s' d j f⟩) λe a c=>⟨c.1,F.args_object_init_2 e _,object_init_meets F.called_tuple.init.lookup F.called_tuple.made (by decide) _ w _ _ _ ⟨c.1,rfl,c.2⟩⟩
end
theorem SC{a b:Array Value}(h:ItemsOf (λi v=>a[a.size-1-i]?=some v) b a.size):b.toList=a.toList.reverse:=by
 obtain⟨d,c⟩:=h;apply List.ext_getElem?;symm
theorem LR:∀{xs:AM}{us:AC},Vals xs us->Vals xs.reverse us.reverse
 | _,_,.nil=>.nil
 | _,_,.cons r t=>by
   rw[List.reverse_cons,List.reverse_cons];exact(LR t).append (.cons r .nil)
section
variable {e:Expr}{ta:TA}{p:Pos}
def BK{σ:L2.St}(I:Inv X pins σ H s)(g:Gl X "reversed")(i:X.mg "reversed"=none)(m:PA X [e] ta)(h:ta σ H q)(hs:starEach [e] X.env=[(false,eval e X.env)])(k:∀vs c b,Inv X pins σ c b->q vs c->∃a xs its,vs=[.ref a]/\SqL X.K c a xs/\Vals xs its/\b.heap.IsList a its.toArray/\Q (.ref b.heap.objs.size) {b with heap:=b.heap.push (revObj a ((its.toArray.size:Int)-1))}):
 aag X (eval (.Call (.Name "reversed" p2) [e] [] pos2) X.env) Q X.xe s:=by
 refine Call_ (iV I g i boot_reversed (PyProof.Rows.callWith_type1 (az (m _ _ s σ H _ I h) λw b f=>?_) hs rfl));obtain⟨vs,c,o,l,n⟩:=f;obtain⟨a,xs,its,rfl,t,v,p,z⟩:=k vs c b o n;obtain⟨u,rfl,j⟩:=ef l;cases j;exact call_reversed_list p z
def BM(K:W7)(ta:TA):TE:=λd H Q=>ta d H λe b=>∃a c,e=[.ref a]/\SqL K b a c/\∀l,b l=none->Q (.ref l) (upd b l (.tup c.reverse))
theorem SD(R:X.calm=true)(V:Gl X "tuple")(G:X.mg "tuple"=none)(t:Gl X "reversed")(v:X.mg "reversed"=none)(T:PA X [e] ta)(hs:aad X e:=by rfl)(Y:starEach [.Call (.Name "reversed" p2) [e] [] pos2] X.env=[(false,eval (.Call (.Name "reversed" p2) [e] [] pos2) X.env)]:=by rfl):
 PE X (.Call (.Name "tuple" p) [.Call (.Name "reversed" p2) [e] [] pos2] [] pos) (BM X.K ta):=by
 intro j s S H Q I h;refine wpAny_Call_Name_kw (iV I V G boot_tuple ?_ (by decide) (by decide));refine PyProof.Rows.callWith_type1 ?_ Y rfl;refine Calls.spliced_cons (BK I t v T h hs λvs F B y M=>?_);obtain⟨a,J,rfl,C,q⟩:=M;obtain⟨r,n,m,K⟩:=y.list C;refine⟨a,J,r,rfl,C,n,m.isList,Calls.spliced_nil ?_⟩
 have x:a≠B.heap.objs.size:=by
  obtain⟨o,A,_⟩:=m.isList;exact qm (ql A)
 have w:a<B.heap.objs.size:=by
  obtain⟨o,A,_⟩:=m.isList;exact ql A
 have Z:=n.length;refine SB (Walks.listRev (show X.A.in1.in1.in1.handled=none from y.ok.hd R) _ a x _).toS (λi s st=>st.2.1.typeIs) ⟨Qh _,⟨_,qp _ rfl,rfl,by simp[revObj]⟩,m.isList.push _⟩ (λb f=>?_) nofun (λU c k l=>?_) (by ext)
 .rw[wx]
  rcases qu f with rfl|f
  .exact Qa _
  .rw[List.mem_singleton.mp f];exact qx w
 .have N:∀b u,B.heap.get? b=some u->_:=λb u E=>by
   have f:=ql E;refine k.heap b u (λz=>?_) (qe _ E);rw[List.mem_singleton.mp z]at f;exact absurd f (Nat.lt_irrefl _)
  have L:=by simpa using SC l
  have D:Inv X j S F U:=by
   have e:=Moved.eq_with k;rw[e];exact y.kept N
  refine⟨.ref _,upd F _ _,?_,rfl,q _ (D.hok.fresh (qv _))⟩
  have O:c=c.toList.toArray:=by simp
  exact D.laid (λb o e=>qe _ e) (qv _) (⟨by rw[List.length_reverse];exact K,c.toList,by rw[L];exact LR n,by rw[<-O];exact IsTup.new _ _⟩)
def j9(f:AU):AV:=λa=>(b1 f e_ a).map .reverse
variable {f:AU}
end
end
section
variable {e:Expr}{f fb:AU}
def BN:V->AM->Hp->VK->Prop:=λx d H Q=>∃l b c a,x=.ref l/\d=[.ref b]/\H l=some (.lst c)/\Rd H b (.lst a)/\c.length+a.length<=sizeLine/\Q .non (upd H l (.lst (c++a)))
theorem BO:tM X "list.extend" BN:=by
 intro D s L H x J v K Q I p w h;obtain⟨l,b,G,B,rfl,rfl,j,m,C,q⟩:=h;cases p;obtain⟨u,rfl,o⟩:=w.one;cases o;obtain⟨z,d,n,r,A,e⟩:=I.lstM j;obtain⟨y,a,k,i,E⟩:=m.ok I.hok;have t:=i.length
 have g:d.toArray.size+a.toArray.size<=sizeLine:=by ext
 have c:¬(!d.toArray.isEmpty&&Builtin.List.listTooLong (d.toArray.size+a.toArray.size))=true:=by
  rw[RE g];symm
 refine call_meets F.slot_list_extend ⟨_,e,rfl⟩ F.entry_list_extend (F.args_list_extend_2 _ _)
  (AutoSeq1.list_extend_list_list_0 l _ n b _ k c (by ext) ∅) ⟨e,E,⟨.non,_,I.lset j e nofun (r.append i) ?_,rfl,q⟩⟩
 symm
def eC(l:AN)(d:D):Option AN:=match d with
 | .lst m=>if l.length+m.length<=ax then some (l++m)else none
 | _=>none
end
def SE(w:World):List DictEntry->List (Str×Str)->Prop:=Paired λe p=>e.hash=PyData.keyHash w.params p.1/\(∃t,e.key=.str p.1 t)/\(∃t,e.val=.str p.2 t)/\PyData.strOk p.2=true
def GD(K:W7)(w:World)(c:AD)(x:Str)(a:List (Str×Str)):Prop:=∃p o b d,c x=some (.ref p)/\K.lookup p=some o/\o.ExactDict/\o.data=.dict b d/\SE w b.toList a
def GI(a:AD)(x:Str)(i:Int):Prop:=∃t,a x=some (.int i t)
theorem LS:∀{l:List DictEntry}{c:List (Str×Str)},SE w l c->c.lookup k=some v->∃e t,l.find? (λe=>(PySem.strKind P w).is k e.key)=some e/\e.val=.str v t
 | _,_,.nil,h=>by simp at h
 | _,_,.cons (a:=e) (b:=p) r t,h=>by
   obtain⟨_,⟨o,d⟩,⟨g,j⟩,_⟩:=r;obtain⟨a,b⟩:=p;by_cases q:a=k
   .subst q
    simp at h;subst h;exact⟨e,g,by simp[d,PySem.strKind,Value.isStrOf],j⟩
   .have i:(k==a)=false:=by simpa using (λz=>q z.symm)
    obtain⟨n,f,s,m⟩:=LS t (by simpa [List.lookup_cons,i]using h);refine⟨n,f,?_,m⟩;rw[List.find?_cons]
    have:(PySem.strKind P w).is k e.key=false:=by
     rw[d];show(a==k)=_;simpa using q
    rwa [this]
theorem LU:∀{l:List DictEntry}{a:List (Str×Str)},SE w l a->∀e∈l,∃k,(PySem.strKind P w).is k e.key=true/\e.hash=(PySem.strKind P w).hash k
 | _,_,.nil,e,h=>by cases h
 | _,_,.cons (b:=p) r t,e,h=>by
   rcases qu h with rfl|h
   .obtain⟨d,⟨c,b⟩,_⟩:=r
    exact⟨p.1,by rw[b];simp[PySem.strKind,Value.isStrOf],d⟩
   .exact LU t e h
theorem oh:∀{l:List DictEntry}{c:List (Str×Str)},SE w l c->c.lookup k=some v->PyData.strOk v=true
 | _,_,.nil,h=>by simp at h
 | _,_,.cons (b:=p) r t,h=>by
   obtain⟨a,b⟩:=p;by_cases q:k=a
   .simp_all
   .have d:(k==a)=false:=by simpa using q
    exact oh t (by simpa [List.lookup_cons,d]using h)
section
variable {x:Str}
noncomputable def ia(a:List (Str×Str)):D->Option D
 | .str k=>(a.lookup k).map .str
 | _=>none
end
def Gr.updHid(g:Gr H G d a)(c:H p=none)(f:a p=none)(o:HO):Gr H G (upd d p o) a:=
 ⟨λb u e=>by rw[Yh (Yk e c)];exact g.h b u e,g.g,λb u e=>by rw[Yh (Yk e f)];exact g.s b u e,g.n⟩
def tK(x:Str):TE:=λ_ H Q=>Q (.str x) H
def BP{X:Cx}{x:Str}{j:Nat}{pos:Pos}:PE X (.Constant (.str x) j pos) (tK x):=mS
structure MP(X:Cx)(pos:Pos)(keys:List (Option Expr))(values:AK)(ks:AJ)(fs:List AU):Prop where
 len:ks.length=fs.length
 pps:lL X pos keys values ((ks.zip fs).map λp=>(tK p.1,tOf X.K p.2))
 all:keys.all (·.isSome)=true
 kv:keys.length=values.length
 kk:keys.length=ks.length
def BQ{X:Cx}{pos:Pos}:MP X pos [] [] [] []:=⟨rfl,KH,rfl,rfl,rfl⟩
noncomputable def uA:List AU->AV
 | [],_=>some []
 | f::fs,ρ=>(f ρ).bind λd=>(uA fs ρ).map (d::·)
theorem LV{q g:Hp}{σ:L2.St}{ρ:Ro}:∀{ks:AJ}{fs:List AU}{ds:AN}{H G:Hp}{Q:List (V×V)->Hp->Prop},ks.length=fs.length->uA fs ρ=some ds->SR K q g σ H G ρ->
 (∀vs H' b,Gr H G H' b->RpL K b ds vs->Q ((ks.map V.str).zip vs) H')->nt ((ks.zip fs).map λp=>(tK p.1,tOf K p.2)) σ H Q
 | [],[],_,H,G,Q,_,e,s,h=>by
   cases e;exact h [] H G (.refl s.seen) .nil
 | [],_::_,_,_,_,_,a,_,_,_=>by simp at a
 | _::_,[],_,_,_,_,a,_,_,_=>by simp at a
 | x::ks,f::fs,ds,H,G,Q,a,e,s,h=>by
   obtain⟨d,m,e⟩:=qa e;obtain⟨l,r,rfl⟩:=qc e;exact tOf.at m s λv w y t j k=>LV (by simpa using a) r k λvs n o c i=>h _ n o (t.trans c) (.cons (j.mono c.g) i)
theorem LW:∀{a b:List (aX×V)},(a.map (·.1)).Nodup->(∀k∈a.map (·.1),bz b k=none)->g8 b a=b++a
 | [],b,_,_=>by simp[g8]
 | p::a,b,c,f=>by
   rw[Qd,List.nodup_cons]at c;have g:=f p.1 nofun;show g8 (bj b p.1 p.2) _=_;rw[Rm _ g,LW c.2 λk d=>?_]
   .simp
   .rw[KA _ _ _ _ g]
    have:¬k=p.1:=λe=>c.1 (e ▸ d);rw[if_neg this];exact f k (by simp at d ⊢;exact .inr d)
theorem BR{ks:AJ}(k:Str):∀{vs:AM},bz ((ks.map Sum.inr:List aX).zip vs) (Sum.inr k)=Yn ks vs k:=by
 induction ks with
 | nil=>intro vs;cases vs<;>rfl
 | cons a ks b=>
   intro vs
   cases vs with
   | nil=>rfl
   | cons v vs=>
     rw[Qd,List.zip_cons_cons];by_cases e:a=k
     .rw[gY (by rw[e])]
      simp[Yn,e]
     .rw[gZ (λz=>e (Sum.inr.inj z)),b]
      simp[Yn,e]
def ic(ks:AJ)(fs:List AU)(fk:AU):AU:=λa=>(uA fs a).bind λb=>(fk a).bind fun
 | .str k=>Yn ks b k
 | _=>none
noncomputable def j_:D->Option Int
 | .int i=>some i
 | .bl b=>some (if b then 1 else 0)
 | _=>none
noncomputable def ka:AN->Option AF
 | []=>some []
 | d::l=>(j_ d).bind λi=>(ka l).map (i::·)
def eD:D->Option AF
 | .tup l=>ka l
 | _=>none
def fj:AN->Option (List AF)
 | []=>some []
 | d::l=>(eD d).bind λk=>(fj l).map (k::·)
def BS(h:j_ d=some i)(r:Rp K G d v):hE v=some i:=by
 cases d<;>simp[j_]at h
 .subst h r
  rfl
 .subst h r
  rfl
theorem BU:∀{l:AN}{xs:AM}{k:AF},ka l=some k->RpL K G l xs->dS xs=some k
 | [],xs,k,h,r=>by
   cases h;subst r;rfl
 | d::l,xs,k,h,r=>by
   obtain⟨i,c,h⟩:=qa h;obtain⟨m,b,rfl⟩:=qc h;obtain⟨x,q,rfl,a,e⟩:=r;rw[dS,BS c a,BU b e];rfl
def oi(h:eD d=some k)(r:Ct K G H d v):∃b ys,v=.ref b/\H b=some (.tup ys)/\G b=some (.tup ys)/\dS ys=some k:=by
 cases d with
 | tup l=>
   obtain⟨b,ys,rfl,⟨a,e⟩,c⟩:=r;exact⟨b,ys,rfl,a,e,BU h c⟩
 | _=>cases h
theorem uB:∀{ks:AN}{b:List AF}{nks:List (List Int×Addr)},fj ks=some b->RpL K G ks (nks.map λp=>V.ref p.2)->(∀p∈nks,∃ys,G p.2=some (.tup ys)/\dS ys=some p.1)->nks.map (·.1)=b
 | [],b,nks,h,r,_=>by
   cases h;rw[RpL]at r;simpa using r
 | d::ks,b,nks,h,r,f=>by
   obtain⟨k,i,h⟩:=qa h;obtain⟨m,w,rfl⟩:=qc h;obtain⟨x,q,e,v,t⟩:=r
   cases nks with
   | nil=>cases e
   | cons p nks=>
     injection e with s u;subst s u;have A:=uB w t λp o=>f p (qg _ o);obtain⟨ys,g,n⟩:=f p qh
     cases d with
     | tup l=>
       obtain⟨a,z,c,j,y⟩:=v;injection c with c;subst c;rw[g]at j;cases j;rw[BU i y]at n;grind
     | _=>cases i
structure oj(H:Hp)(a:Addr)(nks:List (List Int×Addr))(vxs:AM):Prop where
 at':∃ep,H a=some (d6 a nks vxs ep)
 len:nks.length=vxs.length
 nd:(nks.map (·.1)).Nodup
 keys:∀p∈nks,∃ys,H p.2=some (.tup ys)/\dS ys=some p.1
def uC{σ:L2.St}(I:Inv X pins σ H s)(d:oj H a nks vxs):
 (a==sysModules)=false/\∃us,Vals vxs us/\us.length=nks.length/\s.heap.DictOfH (tupleKind (dN X.prog X.w)) a (bc nks us):=by
 obtain⟨b,e⟩:=d.at';exact oe I.hok (.refl H) e d.len d.nd d.keys
def om:R2:=λx y H Q=>∃a b d c e k v,x=.ref a/\y=.ref b/\oj H a d c/\H b=some (.tup e)/\dS e=some k/\Yn (d.map (·.1)) c k=some v/\Q v H
def BV(r:Vals vxs us)(b:Yn (nks.map (·.1)) vxs k=some z):∃p,atKey (bc nks us) k=some p/\RelV z p.2:=by
 have a:=LO k (ks:=nks.map (·.1)) r;rw[b,<-BI k nks us]at a
 cases h:atKey _ k with
 | none=>rw[h]at a;exact a.elim
 | some p=>rw[h]at a;exact⟨p,rfl,a⟩
theorem BW(E:X.A.units+64<cLine):IxR X om:=by
 intro c e g s G H x y v u Q I A D h w;obtain⟨a,b,n,C,F,k,z,rfl,rfl,o,m,j,t,q⟩:=h;cases A;cases D;obtain⟨l,K,r,J,f⟩:=uC I o;obtain⟨p,B,i⟩:=BV r t;exact tail_any f.typeIs PySem.F.slot_dict_getitem.lookup (wpAny_getItem_heap (by show _<_;grind) (j7 I.hok m j) f B ⟨z,H,I.tok _,i,q⟩) w
def kf(e:Bool):R2:=λx y H Q=>∃a b c d f k,x=.ref b/\y=.ref a/\oj H a c d/\H b=some (.tup f)/\dS f=some k/\Q (.bl (decide (k∈c.map (·.1))!=e)) H
theorem BX(a:us.length=nks.length):(atKey (bc nks us) k).isSome=decide (k∈nks.map (·.1)):=by
 have c:=BI k nks us;have b:=j8 (x:=k) (ks:=nks.map (·.1)) (vs:=us) (by grind)
 cases h:atKey _ k with
 | none=>
   grind
 | some p=>
   grind
theorem oq(p:X.A.units+64<cLine):br X (compareOp .In) (kf false):=by
 intro d s z H x y v u Q I l e h;obtain⟨a,b,m,o,w,k,rfl,rfl,g,j,i,q⟩:=h;cases l;cases e;obtain⟨c,t,r,f,n⟩:=uC I g;refine wpAny_in_heap (by show _<_;symm) (j7 I.hok j i) c n ⟨.bl _,H,I.tok _,?_,q⟩;rw[BX f,Bool.bne_false];rfl
theorem SF(p:X.A.units+64<cLine):br X (compareOp .NotIn) (kf true):=by
 intro d s z H x y v u Q I l e h;obtain⟨a,b,m,o,w,k,rfl,rfl,g,j,i,q⟩:=h;cases l;cases e;obtain⟨c,t,r,f,n⟩:=uC I g;refine wpAny_notIn_heap (by show _<_;ac_nf) (j7 I.hok j i) c n ⟨.bl _,H,I.tok _,?_,q⟩;rw[BX f,Bool.bne_true];rfl
def ot(d:(a==sysModules)=false)(r:Vals vxs us)(j:h'.DictOfH (tupleKind (dN P w)) a (bc nks us)):
 ∃c,∀H',ObjOk P w H' h' a (d6 a nks vxs c):=by
 obtain⟨o,e,c,b,g,m,i,_⟩:=j;refine⟨c,λH'=>⟨⟨d,us,o,e,r,b,g,m,?_⟩,⟨o,b⟩,λb g f k=>?_⟩⟩
 .rw[i,Qf]
  rfl
 .obtain⟨d,us,o,e,r,l,h⟩:=f
  exact⟨d,us,o,e,r,k o l,h⟩
def cy(nks:List (List Int×Addr))(vxs:AM)(k:AF)(b:Addr)(v:V):List (List Int×Addr)×AM:=
 if k∈nks.map (·.1)then (nks,aJ (nks.map (·.1)) vxs k v)else (nks++[(k,b)],vxs++[v])
def BY:V->V->V->Hp->(Hp->Prop)->Prop:=λo i v H Q=>∃a b d c e k,o=.ref a/\i=.ref b/\oj H a d c/\H b=some (.tup e)/\dS e=some k/\c.length<ax/\∀f,Q (upd H a (d6 a (cy d c k b v).1 (cy d c k b v).2 f))
theorem SG(r:Vals xs us)(q:RelV v u):Vals (xs++[v]) (us++[u]):=by
 induction r with
 | nil=>exact .cons q .nil
 | cons a _ b=>exact .cons a b
theorem BZ(N:X.A.units+64<cLine):jH X BY:=by
 intro x s T H o i v U R u Q I B L y h;obtain⟨a,b,c,m,O,k,rfl,rfl,p,E,C,V,q⟩:=h;cases B;cases L;obtain⟨l,j,r,f,F⟩:=uC I p;have t:=j7 I.hok E C
 have K:(bc c j).length<=sizeLine:=by
  have:(bc c j).length<=c.length:=by ext
  have S:=f7 (n:=c.length) (by rw[p.len];ac_nf)
  ext
 refine wpAny_setItem_heap (hsz:=K) (by show _<_;symm) t F λJ d same=>?_;have z:=BX (k:=k) f;obtain⟨G,D⟩:=p.at'
 have g:∃w,∀M,ObjOk X.prog X.w M J a (d6 a (cy c m k b v).1 (cy c m k b v).2 w):=by
  unfold cy;by_cases n:k∈c.map (·.1)
  .rw[if_pos n]
   rw[wn n]at z
   have e:storedH (bc c j) k b u=bc c (aJ (c.map (·.1)) j k u):=by
    unfold storedH;rw[if_pos z];exact LQ (b:=b) f p.nd n
   rw[e]at d;exact ot l (LP k y r) d
  .rw[if_neg n]
   have e:storedH (bc c j) k b u=bc (c++[(k,b)]) (j++[u]):=by
    unfold storedH;rw[if_neg (by ext)];unfold bc;rw[List.zip_append f.symm,wu];rfl
   rw[e]at d;exact ot l (SG r y) d
 obtain⟨w,g⟩:=g;exact⟨_,lK I (by rw[D];exact .intro) same (let ⟨q,_,_,A,_⟩:=d;⟨q,A⟩) (g _),q w⟩
def kg(m:Same G H)(d:Dc true G H a kxs vxs):∃nks,oj H a nks vxs/\kxs=nks.map (λp=>V.ref p.2)/\∀p∈nks,∃ys,G p.2=some (.tup ys)/\dS ys=some p.1:=by
 rcases d with⟨h,_⟩|⟨_,nks,k,j,f,l,e,b⟩
 .cases h
 .exact⟨nks,⟨⟨k,j⟩,f,l,λp c=>let ⟨ys,g,i⟩:=b p c;⟨ys,m _ _ g,i⟩⟩,e,b⟩
def bA:D->D->Option D
 | .dct true b a,k=>(fj b).bind λc=>(eD k).bind λx=>Yn c a x
 | _,_=>none
def B0:d7 K om bA:=by
 intro x y F E d H G Q h s C g q;unfold bA at h
 split at h
 .obtain⟨I,m,h⟩:=qa h
  obtain⟨z,w,l⟩:=qa h;obtain⟨a,A,c,rfl,i,k,j⟩:=C;obtain⟨f,t,rfl,o⟩:=kg s i;obtain⟨b,p,rfl,B,D,n⟩:=oi w g;have e:=uB m k o;subst e;obtain⟨v,r,u⟩:=(lW z j).1 d l;exact⟨a,b,f,c,p,z,v,rfl,rfl,t,B,n,r,q v H G (.refl s) u⟩
 .cases h
def cN(a:Bool):D->D->Option Bool
 | k,.dct true c _=>(fj c).bind λb=>(eD k).map λx=>decide (x∈b)!=a
 | _,_=>none
def B1:eu K (kf d) (cN d):=by
 intro x y A B b H G Q h s r g q;unfold cN at h
 split at h
 .obtain⟨C,l,h⟩:=qa h
  obtain⟨z,p,rfl⟩:=qc h;obtain⟨a,i,f,rfl,u,k,w⟩:=g;obtain⟨c,o,rfl,m⟩:=kg s u;obtain⟨b,j,rfl,t,v,n⟩:=oi p r;have e:=uB l k m;subst e;exact⟨a,b,c,f,j,z,rfl,rfl,o,t,n,q⟩
 .cases h
section
variable {a b e:Expr}{fb f:AU}
def kh(ks vs:AN)(k d:D):Option (List D×AN):=(fj ks).bind λa=>(eD k).bind λx=>if vs.length<ax then some (if x∈a then (ks,aJ a vs x d)else (ks++[k],vs++[d]))else none
noncomputable def ig(i:Nat):Ro->Option (List D×AN):=λc=>match c[i]? with
 | some (some (.od true b a))=>some (b,a)
 | _=>none
theorem SH(h:ig i ρ=some l):ρ[i]?=some (some (B.od true l.1 l.2)):=by
 unfold ig at h;grind
def ij(i:Nat)(c f:AU):AR:=λa=>(f a).bind λd=>(ig i a).bind λl=>(c a).bind λk=>(kh l.1 l.2 k d).map λb=>.nx (a.set i (some (.od true b.1 b.2)))
theorem RpL.snoc(r:Rp K G d y):∀{l:AN}{xs:AM},RpL K G l xs->RpL K G (l++[d]) (xs++[y])
 | [],_,h=>by
   subst h;exact .cons r .nil
 | e::l,_,h=>by
   obtain⟨x,q,rfl,c,g⟩:=h;exact .cons c (.snoc r g)
theorem B2(k:A.units+64<cLine)(h:wpAny (mZ prog w) A (evalPairs (pairTrees [some g] [ve] env pos)) (λvs a=>∃(b:Addr) (n:AF) (u:Value),vs=[(.ref b,u)]/\(tupleKind (dN prog w)).is a.heap n b/\a.heap.DictOfH (tupleKind (dN prog w)) (~~~s) []/\
  ∀h' t,h'.DictOfH (tupleKind (dN prog w)) (~~~s) [(n,b,u)]->Heap.SameBut (~~~s) a.heap h'->Q (.ref (~~~s)) {a with heap:=h',toks:=t}) E
  {s with heap:=s.heap.push {cls:=.type "dict",data:=.dict #[]} }):
 wpAny (mZ prog w) A (eval (.Dict [some g] [ve] pos) env) Q E s:=by
 rw[arm_eval_Dict,(zip_pairTrees [some g] [ve] env pos rfl rfl),dictDisplay_pairs _ (λz=>by cases z) (by show 1<17;lia)];refine wa (wpAny_standAt (wa (wa (wpAny_alloc ?_))));refine wa (we ?_);refine wa (w4 h (λvs a i=>?_) λ_ _ e=>e);obtain⟨b,n,u,rfl,c,j,q⟩:=i;refine we ?_;rw[List.forIn_cons];refine wa (wa (wa (wpAny_dictSet_heap (hsz:=by ext) (by show _<_;lia) c j λh' d same=>wc ?_)));refine wc (wc (wc (wc ?_)));exact q h' _ d same
def B3(r:VV [(x,y)] ws):∃kv u,ws=[(kv,u)]/\RelV x kv/\RelV y u:=by
 cases r with
 | cons r t=>
   cases t;exact⟨_,_,rfl,r.1,r.2⟩
def B4(c:List (TE×TE)):TE:=λh H Q=>∀p f,H p=none->nt c h (upd H p (d6 p [] [] f)) λg d=>d p=some (d6 p [] [] f)/\∃b e n v,g=[(.ref b,v)]/\d b=some (.tup e)/\dS e=some n/\∀a,Q (.ref p) (upd d p (d6 p [(n,b)] [v] a))
theorem B5(z:X.A.units+64<cLine)(h:lL X pos [some J] [ve] i):PE X (.Dict [some J] [ve] pos) (B4 i):=by
 intro m s x H Q I q;have l:=beq_eq_false_iff_ne.mpr (.symm (qm I.big));obtain⟨E,d⟩:=ot (nks:=[]) l .nil (.new _);refine B2 z (az (h _ _ x _ _ (I.laid (t':=s.toks) (λ_ _ q=>qe _ q) (qv _) (d _)) (q _ _ (I.hok.fresh (qv _)))) λU R j=>?_);obtain⟨S,F,f,g,e,b,M,n,v,w,o,r,D⟩:=j;subst w;obtain⟨T,u,rfl,y,A⟩:=B3 g;obtain rfl:=y;obtain⟨_,O,L,_,C⟩:=oe f.hok (.refl F) e rfl List.nodup_nil (λp G=>by cases G);refine⟨b,n,u,rfl,j7 f.hok o r,by simpa [bc]using C,λN t c same=>?_⟩;obtain⟨k,a⟩:=ot (nks:=[(n,b)]) l (.cons A .nil) c;exact⟨.ref _,_,lK f (by rw[e];exact .intro) same (let ⟨q,_,_,K,_⟩:=c;⟨q,K⟩) (a _),rfl,D k⟩
def ki(i:Nat)(c b:AU):AR:=λa=>(c a).bind λk=>(b a).bind λv=>(eD k).map λ_=>.nx (a.set i (some (.od true [k] [v])))
end
noncomputable def ou:AK->Option AF
 | []=>some []
 | .Constant (.int i) _ _::es=>(ou es).map (i::·)
 | _=>none
def kj(ns:AF):AV:=λ_=>if ns.length<=ax then some (ns.map .int)else none
def ox:AF->AV
 | []=>ae
 | n::ns=>Yb (aaa n) (ox ns)
theorem LY(ρ:Ro):∀ns:AF,ox ns ρ=some (ns.map D.int)
 | []=>rfl
 | n::ns=>by rw[ox,Yb,LY ρ ns];rfl
theorem LZ:∀{a:AK}{ns:AF},ou a=some ns->MA X a (ox ns)
 | [],ns,h=>by
   cases h;exact Ba
 | e::a,ns,h=>by
   unfold ou at h
   split at h
   .grind
   .rename_i i j p d b
    cases b;obtain⟨m,c,rfl⟩:=qc h;exact Bb nN (LZ c)
   .cases h
theorem B6(ns:AF)(h:ou a=some ns:=by decide +kernel):MF X (.List a pos) (kj ns):=by
 have:=nV (pos:=pos) (LZ (X:=X) h)
 have e:bE (ox ns)=kj ns:=by
  funext b
  unfold bE kj;rw[LY];simp
 grind
section
variable {a b c e:Expr}{fb fc:AU}
noncomputable def uD(fa fb fc:AU)(g b:D->D->Option Bool):AT:=λa=>
 (fa a).bind λx=>(fb a).bind λy=>(g x y).bind λk=>if k=true then (fc a).bind λz=>b y z else some false
theorem B7(h:uD fa fb fc g g' ρ=some k):
 ∃x y,fa ρ=some x/\fb ρ=some y/\((g x y=some false/\k=false)\/(g x y=some true/\∃z,fc ρ=some z/\g' y z=some k)):=by
 obtain⟨x,e,h⟩:=qa h;obtain⟨y,d,h⟩:=qa h;obtain⟨q,c,h⟩:=qa h
 cases q with
 | false=>
   ext
 | true=>
   obtain⟨z,b,h⟩:=qa h
   ext
def nS:AR:=λ_=>none
def B8:MS X st nS:=λ_ _ _ _ _ _ ⟨_,_,_,_,_,h,_⟩=>nomatch h
end
section
variable {e:Expr}{f:AU}{fc:AT}
noncomputable def ik:D->Bool
 | .non|.bl _|.int _|.str _=>true
 | _=>false
def scal(d:D):Option D:=if ik d=true then some d else none
def Rp.scal(h:ik d=true)(r:Rp K G d v):Rp K a d v:=by
 cases d<;>first|(exact r)|cases h
def Gr.back(s:Same G H)(g:Gr H a H' c):Gr H G H' G:=⟨g.h,.refl _,s.trans g.h,λ_ h b=>absurd h b⟩
def oy(b:AE)(f:AU):AU:=λa=>(f (frz b a)).bind scal
mutual
def dW:D->Bool
 | .non=>true
 | .bl _=>true
 | .int _=>true
 | .str _=>true
 | .tup l=>bF l
 | .lst _=>false
 | .scr _=>false
 | .dct _ _ _=>false
 | .obj _ _ _=>false
 | .adr _=>false
def bF:AN->Bool
 | []=>true
 | d::l=>dW d&&bF l
end
mutual
theorem Rp.plain{G G':Hp}(c:∀b ys,G b=some (HO.tup ys)->G' b=some (HO.tup ys)):∀{d:D}{v:V},dW d=true->Rp K G d v->Rp K G' d v
 | .non,_,_,r=>r
 | .bl _,_,_,r=>r
 | .int _,_,_,r=>r
 | .str _,_,_,r=>r
 | .tup l,_,h,r=>by
   obtain⟨a,xs,e,g,q⟩:=r;exact⟨a,xs,e,c _ _ g,RpL.plain c h q⟩
 | .lst _,_,h,_=>by cases h
 | .scr _,_,h,_=>by cases h
 | .dct _ _ _,_,h,_=>by cases h
 | .obj _ _ _,_,h,_=>by cases h
 | .adr _,_,h,_=>by cases h
theorem RpL.plain{G G':Hp}(c:∀b ys,G b=some (HO.tup ys)->G' b=some (HO.tup ys)):∀{l:AN}{xs:AM},bF l=true->RpL K G l xs->RpL K G' l xs
 | [],_,_,r=>r
 | d::l,_,h,r=>by
   rw[bF,Qe]at h;obtain⟨x,xs,e,g,q⟩:=r;exact⟨x,xs,e,Rp.plain c h.1 g,RpL.plain c h.2 q⟩
end
def gH(b:AE)(f:AU):AU:=λa=>(f (frz b a)).bind λd=>if dW d=true then some d else none
end
noncomputable def zK(ns:AF)(vxs:AM):List (aX×V):=(ns.zip vxs).map λp=>(.inl p.1,p.2)
def kl(n:Int)(v:V)(ns:AF)(vxs:AM):zK (n::ns) (v::vxs)=(Sum.inl n,v)::zK ns vxs:=rfl
theorem oz:∀{a:List (aX×V)}{ns:AF},a.map (λp=>kV p.1)=ns.map V.int->a=zK ns (a.map (·.2))
 | [],ns,h=>by
   cases ns with
   | nil=>rfl
   | cons n ns=>cases h
 | (k,v)::a,[],h=>by cases h
 | (k,v)::a,n::ns,h=>by
   injection h with b c
   cases k with
   | inl i=>
     have:=by simp[kV]at b;exact b
     subst this;rw[Qd,kl,<-oz c]
   | inr x=>cases b
theorem uE(i:Int):∀(ns:AF) (vxs:AM),bz (zK ns vxs) (Sum.inl i)=Yn ns vxs i
 | [],vxs=>by simp[zK,Yn,bz]
 | n::ns,[]=>by simp[zK,Yn,bz]
 | n::ns,v::vxs=>by
   rw[kl,Yn];by_cases h:n=i
   .rw[if_pos h,gY (by simp[h])]
   .rw[if_neg h,gZ (by simpa using h)]
    exact uE i ns vxs
theorem i5:∀(ns:AF) (vxs:AM),ns.length=vxs.length->(zK ns vxs).map (·.1)=ns.map Sum.inl
 | [],vxs,_=>rfl
 | n::ns,[],h=>by simp at h
 | n::ns,v::vxs,h=>by
   rw[kl,Qd,Qd,i5 ns vxs (by simpa using h)]
theorem B9(ns:AF)(vxs:AM)(h:ns.length=vxs.length):(zK ns vxs).length=ns.length:=by
 have:=congrArg List.length (i5 ns vxs h);grind
theorem oA(i:Int):∀(ns:AF) (vxs:AM),ns.length=vxs.length->((zK ns vxs).any λa=>decide (a.1=Sum.inl i))=decide (i∈ns)
 | [],vxs,_=>by simp[zK]
 | n::ns,[],h=>by simp at h
 | n::ns,v::vxs,h=>by
   rw[kl,List.any_cons,oA i ns vxs (by simpa using h)];grind
theorem oB(i:Int)(y:V):∀(ns:AF) (vxs:AM),ns.length=vxs.length->ns.Nodup->(zK ns vxs).map (λa=>if a.1=Sum.inl i then (a.1,y)else a)=zK ns (aJ ns vxs i y)
 | [],vxs,_,_=>by simp[zK]
 | n::ns,[],h,_=>by simp at h
 | n::ns,v::vxs,h,d=>by
   obtain⟨g,f⟩:=List.nodup_cons.mp d
   have c:=by simpa using h
   rw[kl,Qd,aJ];by_cases e:n=i
   .subst e
    rw[if_pos rfl,if_pos rfl,kl]
    have:(zK ns vxs).map (λa=>if a.1=.inl n then (a.1,y)else a)=zK ns vxs:=by
     refine(Qq λa b=>?_).trans (List.map_id _);rw[if_neg]
     .rfl
     .have:a.1∈_:=Qs b
      rw[i5 ns vxs c]at this;grind
    rw[this]
   .rw[if_neg (by simpa using e),if_neg e,kl,oB i y ns vxs c f]
def B_(i:Int)(y:V):∀(ns:AF) (vxs:AM),ns.length=vxs.length->zK (ns++[i]) (vxs++[y])=zK ns vxs++[(Sum.inl i,y)]:=λns vxs h=>by
 unfold zK;rw[List.zip_append h,wu];rfl
def dj(ns:AF)(vxs:AM)(i:Int)(y:V):List Int×AM:=if i∈ns then (ns,aJ ns vxs i y)else (ns++[i],vxs++[y])
def oE(h:ns.length=vxs.length)(a:ns.Nodup)(i:Int)(y:V):bj (zK ns vxs) (Sum.inl i) y=zK (dj ns vxs i y).1 (dj ns vxs i y).2:=by
 unfold bj dj;rw[oA i ns vxs h];by_cases e:i∈ns
 .rw[if_pos (wn e),if_pos e]
  exact oB i y ns vxs h a
 .rw[if_neg (by simpa using e),if_neg e,B_ i y ns vxs h]
theorem SI{ns:AF}(h:(ns.map (Sum.inl:Int->aX)).Nodup):ns.Nodup:=by symm
theorem SJ{ns:AF}(h:ns.Nodup):(ns.map (Sum.inl:Int->aX)).Nodup:=by symm
def gI(k:intsD ks=some ns)(d:Dc false G H a b vxs)(r:RpL K G ks b):H a=some (.dK (zK ns vxs))/\ns.Nodup/\ns.length=vxs.length/\b=ns.map V.int:=by
 cases j5 k;have e:=j6 r;rcases d with⟨_,m,l,i,c,j⟩|⟨h,_⟩
 .rw[e]at c
  have f:=oz c.symm;rw[<-j]at f
  have g:ns.length=vxs.length:=by
   have:=congrArg List.length c;rw[j];simpa using this
  refine⟨by rw[l,<-f],?_,g,e⟩;rw[f,i5 ns vxs g]at i;exact SI i
 .cases h
theorem oG(h:H a=some (.dK (zK ns vxs)))(c:ns.Nodup)(b:ns.length=vxs.length):Dc false G H a (ns.map V.int) vxs:=by
 refine .inl ⟨rfl,zK ns vxs,h,by rw[i5 ns vxs b];exact SJ c,?_,?_⟩
 .have:=congrArg (List.map kV) (i5 ns vxs b)
  rw[Qf,Qf]at this;exact(this.trans (Qq λ_ _=>rfl)).symm
 .unfold zK
  rw[Qf];have:(λp:Int×V=>_)=λp=>p.2:=rfl;clear h c this
  induction ns generalizing vxs with
  | nil=>cases vxs with
    | nil=>rfl
    | cons=>simp at b
  | cons n ns d=>cases vxs with
    | nil=>simp at b
    | cons v vxs=>simp;exact d (by simpa using b)
def cO:D->D->Option D
 | .dct false c a,.int i=>(intsD c).bind λb=>Yn b a i
 | _,_=>none
def dn(a:Bool):D->D->Option Bool
 | .int i,.dct false b _=>(intsD b).map λc=>decide (i∈c)!=a
 | _,_=>none
def oH:R2:=λx y H Q=>∃a z,x=.ref a/\DGet H a y (some z)/\Q z H
def il(b:Bool):R2:=λx y H Q=>∃a o,y=.ref a/\DGet H a x o/\Q (.bl (o.isSome != b)) H
def Ca:d7 K oH cO:=by
 intro x y o p d H G Q h s k b q;unfold cO at h
 split at h
 .rename_i w z i
  obtain⟨B,j,h⟩:=qa h;subst b;obtain⟨a,g,t,rfl,e,f,l⟩:=k;obtain⟨u,A,r,n⟩:=gI j e f;obtain⟨v,m,c⟩:=(lW i l).1 d h;refine⟨a,v,rfl,?_,q v H G (.refl s) c⟩;have:=DGet.k (k:=.inl i) u
  rwa [uE,m]at this
 .cases h
def SK{vxs:AM}{i:Int}(b:ns.length=vxs.length):(Yn ns vxs i).isSome=decide (i∈ns):=by
 cases h:Yn ns vxs i with
 | none=>
   have:=(j8 b.symm).mp h;simp[this]
 | some v=>
   have:=Classical.byContradiction λz=>by
    rw[(j8 b.symm).mpr z]at h;cases h
   simp[this]
def Cb:eu K (il c) (dn c):=by
 intro x y m o b H G Q h s j d q;unfold dn at h
 split at h
 .rename_i i v z
  obtain⟨u,l,rfl⟩:=qc h;subst j;obtain⟨a,e,r,rfl,k,f,n⟩:=d;obtain⟨t,w,g,p⟩:=gI l k f;refine⟨a,Yn u r i,rfl,?_,?_⟩
  .have:=DGet.k (k:=.inl i) t
   rwa [uE]at this
  .rwa [SK g]
 .cases h
section
theorem Cc(l:X.A.units+64<cLine):IxR X oH:=by
 intro c b n s p H x y v u Q I f e h o;obtain⟨a,z,rfl,g,q⟩:=h;cases f;exact tail_any (KF I g) PySem.F.slot_dict_getitem.lookup (KD (by lia) I g e λj k i d=>⟨z,H,i,d,q⟩) o
theorem oJ(f:X.A.units+64<cLine):br X (compareOp .In) (il false):=by
 intro b s i H x y v u Q I e c h;obtain⟨a,o,rfl,g,q⟩:=h;cases c
 exact zC ∅ I g e λj d=>⟨.bl _,H,d,by simp;rfl,q⟩
theorem L0(f:X.A.units+64<cLine):br X (compareOp .NotIn) (il true):=by
 intro i s j H x y v u Q I c b h;obtain⟨a,o,rfl,g,q⟩:=h;cases b
 exact zD ∅ I g c λe d=>⟨.bl _,H,d,by simp;rfl,q⟩
def Cd:V->V->V->Hp->(Hp->Prop)->Prop:=λo i v H Q=>∃a b,o=.ref a/\DPut H a i v b/\Q b
theorem Ce(k:X.A.units+64<cLine):jH X Cd:=by
 intro b s l H o i v p j u Q I d c f h;obtain⟨a,n,rfl,g,q⟩:=h;cases d
 exact Rn ∅ I g c f λm e=>⟨_,e,q⟩
variable {a b e:Expr}{fb f:AU}
noncomputable def lX(i:Nat):AR:=λa=>some (.nx (a.set i (some (.od false [] []))))
noncomputable def fI(i:Nat):Ro->Option (List D×AN):=λc=>match c[i]? with
 | some (some (.od false b a))=>some (b,a)
 | _=>none
theorem L1(h:fI i ρ=some l):ρ[i]?=some (some (B.od false l.1 l.2)):=by
 unfold fI at h
 split at h
 .cases h;assumption
 .cases h
def lY(ks vs:AN)(k d:D):Option (List D×AN):=(intsD ks).bind λa=>match k with
 | .int i=>if vs.length<ax then some (if i∈a then (ks,aJ a vs i d)else (ks++[k],vs++[d]))else none
 | _=>none
def oN(i:Nat)(c f:AU):AR:=λa=>(f a).bind λd=>(fI i a).bind λl=>(c a).bind λk=>(lY l.1 l.2 k d).map λb=>.nx (a.set i (some (.od false b.1 b.2)))
def i6:D->D->D->Option D
 | .dct false c a,.int i,z=>(intsD c).map λb=>(Yn b a i).getD z
 | _,_,_=>none
noncomputable def b3{c:Type}(fa fb fc:AU)(g:D->D->D->Option c):Ro->Option c:=λa=>(fa a).bind λx=>(fb a).bind λy=>(fc a).bind λz=>g x y z
def SM(h:i6 x y z=some d):∃ks vs i ns,x=.dct false ks vs/\y=.int i/\intsD ks=some ns/\d=(Yn ns vs i).getD z:=by
 unfold i6 at h
 split at h
 .obtain⟨ns,a,b⟩:=qc h
  exact⟨_,_,_,ns,rfl,rfl,a,b.symm⟩
 .cases h
end
section
variable {w:World}{A:Around}{E:AA}{s:Shared}{e:Expr}{f:AU}{p:Pos}
def SN:isSubtype (.type "dict") (.type "dict")=pure true:=by kernel_rfl
def SQ(a:AF)(i:Nat)(v:Value):Prop:=∃k t,a[i]?=some k/\v=.int k t
theorem Cg:∀{a:AC},a.length=b.length->(∀(j:Nat) v,a[j]?=some v->SQ b j v)->IntsAre a b:=by
 induction b with
 | nil=>
   intro a h _;rw[List.length_eq_zero_iff.mp h];exact .nil
 | cons k r g=>
   intro a h e
   match a,h with
   | v::a,h=>
     obtain⟨f,t,c,d⟩:=e 0 v rfl;simp at c;subst c d;refine .cons _ t (g (by simpa using h) λj v i=>?_);obtain⟨f,t,c,d⟩:=e (j+1) v (by ext);exact⟨f,t,by ext,d⟩
theorem SU{ns:AF}(hh:A.handled=none)(hd:(a==sysModules)=false)(hS:s.heap.DictOf (Yt prog w) a c)(hk:c.map (·.1)=ns.map Sum.inl)(hl:ns.length<=1000)(hQ:∀(h':Heap) (tk:Nat) (S:AC),~~~s<=h'.objs.size->(∀b o,s.heap.get? b=some o->h'.get? b=some o)->IntsAre S ns->Q S {s with heap:=h',toks:=tk}):
 wpAny (mZ prog w) A (collect (.ref a)) Q E s:=by
 obtain⟨o,es,R,ho,D,N,C⟩:=id hS;have hlt:a< ~~~s:=ql ho
 have r:c.length=ns.length:=by have:=congrArg List.length hk;symm
 unfold collect;refine wa (wpAny_runValue (wz F.entry_proto_collect ?_));rw[jd F.plain_proto_collect _];show wpAny _ A.in1 (newList []>>=λl=>again (.builtin "list.__iadd__" ⟨[l,.ref a],[]⟩)) _ _ s;refine wa (wh ?_);refine wc ⟨jc F.plain_list_iadd _,wz F.entry_list_iadd ?_⟩;rw[jd F.plain_list_iadd _];generalize Z:s.heap.push {cls:=.type "list",data:=.seq ([]:AC).toArray}=H
 have hHs:H.objs.size= ~~~s+1:=by rw[<-Z,wx]
 have f:∀b o,s.heap.get? b=some o->H.get? b=some o:=λb o e=>by rw[<-Z];exact qe _ e
 have hL:H.get? (~~~s)=some {cls:=.type "list",data:=.seq ([]:AC).toArray}:=by rw[<-Z];exact qp _ rfl
 have B:=f a o ho
 have hT:Shared.TypeIs {s with heap:=H} (.ref a) "dict":=⟨o,B,D.1⟩
 have hSI:(~~~s)≠a:=λz=>by symm
 have y:Builtin.List.listSameRef (.ref (~~~s)) (.ref a)=false:=by simp[Builtin.List.listSameRef,hSI]
 show wpAny _ A.in1 (Builtin.List.listExtendWith (.ref (~~~s)) (.ref a) (.ref (~~~s))) _ _ _;unfold Builtin.List.listExtendWith;refine wa (wpAny_typeOf hT ?_)
 have V:(Value.type "dict"==Value.type "list")=false:=by decide
 have h3:(Value.type "dict"==Value.type "tuple")=false:=by decide
 simp only[y,V,h3,Bool.or_false,Qo,if_false]
 have T:H.DictAt (Yt prog w) a c R:=⟨o,es,B,D,N,C⟩
 refine wa (wpAny_pyIter_dict (s:={s with heap:=H}) hd T ?_);generalize hO:({cls:=.type "dict_keyiterator",data:=.fields #[.ref a,.int 0 0,.int c.length 0,.int R 0]}:Obj)=d;have hoI:(H.push d).get? a=some o:=qe _ B
 have G:Shared.TypeIs {s with heap:=H.push d} (.ref a) "dict":=⟨o,hoI,D.1⟩
 refine wa (we ?_);unfold Builtin.List.listLengthHint;refine wa (wpAny_specialOf G F.slot_dict_len.lookup ?_);refine wa (wpAny_isInstance (b:=true) G SN ?_);show wpAny _ A.in1 (typeOf (Value.ref a)>>=_) _ _ _;refine wa (wpAny_typeOf G ?_);refine wc ?_;rw[if_pos (by decide)];refine wa (wpAny_rule ?_)
 have Y:a≠H.objs.size:=λz=>by symm
 have O:(~~~s)∉[H.objs.size,a]:=λL=>by
  ext
 have m:(H.push d).get? (~~~s)=some {cls:=.type "list",data:=.seq ([]:AC).toArray}:=qe _ hL;refine wa ?_;show wpAny _ A.in1 (updateSeq (~~~s) (·.push .none)>>=λ_=>updateSeq (~~~s) (·.pop)) _ _ _;refine wa (wpAny_updateSeq m rfl ?_);have g:=wy (Obj.mapSeq (·.push Value.none)) m rfl;refine wpAny_updateSeq g rfl ?_;have u:=wy (Obj.mapSeq (·.pop)) g rfl
 have K:∀b o,b≠(~~~s)->(H.push d).get? b=some o->
  (((H.push d).update (~~~s) (Obj.mapSeq (·.push Value.none))).update (~~~s) (Obj.mapSeq (·.pop))).get? b=some o:=
  λb o I e=>(Heap.get?_update_other _ _ (Ne.symm I)).trans ((Heap.get?_update_other _ _ (Ne.symm I)).trans e)
 have W:=(Walks.dictKeys (prog:=prog) (w:=w) (knd:=Yt prog w) (A:=A.in1) hh H.objs.size a Y c R).toS
 have hst:(H.push d).IsKeyIter H.objs.size a 0 c.length R/\(H.push d).DictAt (Yt prog w) a c R:=⟨⟨_,qp _ (by rw[<-hO];rfl),by rw[<-hO],by symm⟩,T.at' λo e=>qe _ e⟩
 refine wc ⟨jc F.plain_extend_loop _,codeAny_extend_loopS W (by rw[jh,r];ac_nf) _ O _ c.length 0 _ _ _ rfl (Qh _)
  (W.frame 0 ({s with heap:=H.push d}:Shared) _ s.toks hst (qv _) λb I o e=>K b o (λh=>O (h ▸ I)) e) u (ItemsOf.nil _) λp M c' L J q=>?_⟩
 show wpAny _ A (load (~~~s)>>=_) _ _ p;refine wa (wpAny_load J ?_);have eg:p.gens=s.gens:=L.gens;have ed:p.drawn=s.drawn:=L.drawn;have eo:p.os=s.os:=L.os
 have es':p={s with heap:=p.heap,toks:=p.toks}:=by
  obtain⟨a1,a2,a3,a4,a5⟩:=p;symm
 rw[es'];refine wc (hQ p.heap p.toks M.toList (Nat.le_of_lt (ql J)) (λb ob e=>?_) (Cg (by rw[qj,q.1,r]) λj v hj=>?_))
 .have I:b< ~~~s:=ql e
  refine L.heap b ob (λhm'=>?_) (K b ob (qm I) (qe _ (f b ob e)));symm
 .obtain⟨k,x,e1,e2⟩:=q.2 j v ⋯
  have U:(c.map (·.1))[j]?=some k:=by symm
  rw[hk,Qm]at U;obtain⟨n,hn,rfl⟩:=qc U;have e2':jG (Sum.inl n) v=true:=e2;rcases gB e2' with⟨i,t,y,V⟩|⟨x,t,y,V⟩
  .injection y with y
   exact⟨n,t,hn,by rw[V,y]⟩
  .cases y
theorem SV{ns:AF}(q:A.handled=none)(u:(a==sysModules)=false)(z:s.heap.DictOf (Yt prog w) a k)(v:k.map (·.1)=ns.map Sum.inl)(B:ns.length<64)(y:∀(h':Heap) (tk e:Nat) (p:Addr) (out:Array Value) (c:AF),(∀b o,s.heap.get? b=some o->h'.get? b=some o)->(~~~s)<=p->h'.get? p=some (seqObj "list" out e)->IntsAre out.toList c->c.Perm ns->c.Pairwise (·<=·)->
  Q (.ref p) {s with heap:=h',toks:=tk}):wpAny (mZ prog w) A (call (.builtin "sorted") [.ref a]) Q E s:=by
 refine Calls.call_function_entry kind_sorted plain_sorted entry_sorted (args_sorted1 _) (wa (wc (wa (SU q u z v (by lia) λh' tk h i d m=>?_))));have D:=IntsAre.length m
 have g:h.length<64:=by ext
 refine wa (wpAny_newList ?_ (by rw[jh];lia));have f:(h'.push (seqObj "list" h.toArray 0)).get? _=_:=qp _ rfl;refine wa (we (wg slot_list_sort ⟨_,f,rfl⟩ entry_list_sort (list_sort_tree (s:={s with heap:=h'.push (seqObj "list" _ 0),toks:=tk}) f m g λout c r n t=>⟨_,rfl,?_⟩) (args_list_sort _)));obtain⟨e,C⟩:=sortedHeap_at f;refine wc ⟨_,rfl,y _ tk e _ out c (λb o l=>?_) i C r n t⟩;have x:=ql (d b o l);rw[sortedHeap_old (qm x) (by rw[size_push'];grind)];exact qe _ (d b o l)
def L3:AM->Hp->VK->Prop:=λd H Q=>∃a b c,d=[.ref a]/\Rd H a (.dK b)/\b.map (·.1)=c.map .inl/\c.length<64/\∀p,H p=none->Q (.ref p) (upd H p (.lst ((c6 c).map .int)))
theorem SW(y:X.calm=true):dA X (.builtin "sorted") L3:=by
 intro l s K H F G Q I r h;obtain⟨a,D,c,rfl,k,m,w,q⟩:=h;obtain⟨u,rfl,C⟩:=ef r;cases C;obtain⟨z,A,E,f,n⟩:=iY I.hok k
 have i:E.map (·.1)=c.map .inl:=by
  rw[<-m];clear m n z k
  induction f with
  | nil=>rfl
  | cons r _ O=>ext
 refine SV (I.ok.hd y) A n i w λJ N e p d B b o L t g x=>?_;have v:=W.ksm_same (g.trans (Yx c).symm) x (gF c);subst v;have M:=(Yx c).length_eq;exact⟨.ref p,_,.laid I b o (show ObjOk _ X.w _ _ _ (.lst _) from⟨by rw[qf,jh];ac_nf,d.toList,e,nC t,by ext⟩),rfl,q _ (I.hok.fresh o)⟩
def km:AN->Option AN
 | [.dct false b _]=>(intsD b).bind λa=>if a.length<64 then some ((c6 a).map .int)else none
 | _=>none
def SY:ew K L3 km:=by
 intro o t l H G Q h s r q;unfold km at h
 split at h
 .obtain⟨v,rfl,f⟩:=eR r
  obtain⟨e,j,h⟩:=qa h
  split at h
  .rename_i d
   cases h;obtain⟨a,g,b,rfl,n,m,f⟩:=f;obtain⟨i,u,k,w⟩:=gI j n m;exact⟨a,_,e,rfl,.inl i,i5 e b k,d,λp c=>q p _ _ G (.hid s c _) c (s.free c) Yg (.ints _)⟩
  .cases h
 .cases h
def c7{c:Sort _}{a b:c}(h:a=b):a=b:=h
@[simp] theorem L4(a fb fc:AU)(g:D->D->D->Option b):b3 a fb fc g ρ=(a ρ).bind λx=>(fb ρ).bind λy=>(fc ρ).bind λz=>g x y z:=c7 rfl
@[simp] theorem oO(i:Nat):lX i ρ=some (.nx (ρ.set i (some (.od false [] [])))):=c7 rfl
@[simp] theorem oR(i:Nat)(a f:AU):oN i a f ρ=(f ρ).bind λd=>(fI i ρ).bind λl=>(a ρ).bind λk=>(lY l.1 l.2 k d).map λb=>.nx (ρ.set i (some (.od false b.1 b.2))):=c7 rfl
@[simp] theorem ko(ks vs:AN)(i:Int):cO (.dct false ks vs) (.int i)=(intsD ks).bind λns=>Yn ns vs i:=c7 rfl
@[simp] theorem Ci(a:Bool)(ks vs:AN)(i:Int):dn a (.int i) (.dct false ks vs)=(intsD ks).map λns=>decide (i∈ns)!=a:=c7 rfl
@[simp] theorem Cj(ks vs:AN)(i:Int)(z:D):i6 (.dct false ks vs) (.int i) z=(intsD ks).map λns=>(Yn ns vs i).getD z:=c7 rfl
@[simp] theorem lZ(ks vs:AN)(i:Int)(d:D):lY ks vs (.int i) d=(intsD ks).bind λns=>if vs.length<ax then some (if i∈ns then (ks,aJ ns vs i d)else (ks++[.int i],vs++[d]))else none:=c7 rfl
@[simp] theorem L5(ks vs:AN):km [.dct false ks vs]=(intsD ks).bind λns=>if ns.length<64 then some ((c6 ns).map D.int)else none:=c7 rfl
@[simp] theorem SZ(ks vs:AN)(r:Ro):fI 0 (some (.od false ks vs)::r)=some (ks,vs):=c7 rfl
@[simp] theorem S0(n:Nat)(b:AQ)(r:Ro):fI (n+1) (b::r)=fI n r:=by simp[fI]
@[simp] theorem S2(t:Bool)(ks vs:AN)(r:Ro):aa 0 (some (.od t ks vs)::r)=some (.dct t ks vs):=c7 rfl
end
section
variable {a b e:Expr}{fb f:AU}
def eE:D->D->Option D:=i2 (λ_ j=>decide (0<=j)) λi j=>i/2^j.toNat
def S3{M:Model}{A:Around}{E:AA}{s:Shared}{Q:AA}{v:Value}{k:Bool}(a:∀id,v≠.builtin id)(h:Q (.bool (!(v==.bool k))) s):wpAny M A (compareOp .IsNot v (.bool k)) Q E s:=by
 cases v<;>first|exact wc h|exact absurd rfl (a _)
noncomputable def cz(k:Bool):D->Bool
 | .bl j=>j==k
 | _=>false
def oT(c:Bool):D->D->Option Bool
 | d,.bl k=>some (cz k d != c)
 | _,_=>none
def S4{x:V}{v:Value}(r:RelV x v)(k:Bool):(v==.bool k)=decide (x=.bl k):=by
 cases x with
 | bl j=>
   cases (r);by_cases h:j=k
   .subst h;simp
   .simp[h]
 | non=>cases (r);rfl
 | int i=>obtain⟨t,rfl⟩:=r;rfl
 | str i=>obtain⟨t,rfl⟩:=r;rfl
 | ref i=>cases (r);rfl
 | _=>first|(obtain⟨t,rfl⟩:=r;rfl)|(rfl)
def Ck{x:V}{v:Value}(r:RelV x v):∀id,v≠.builtin id:=λid z=>by
 subst z
 cases x<;>first|(obtain⟨t,h⟩:=r;cases h)|(cases r)
def Cm:br X (compareOp .IsNot) (λx y H Q=>∃k,y=.bl k/\Q (.bl (decide (x=.bl k)!=true)) H):=by
 intro a s b H x y v u Q I c d h;obtain⟨k,rfl,q⟩:=h;cases d;refine S3 (Ck c) ⟨_,H,I,?_,q⟩;rw[S4 c];simp;rfl
def Cn{G H:Hp}{d:D}{v:V}(r:Ct K G H d v)(k:Bool):decide (v=.bl k)=cz k d:=by
 cases d with
 | bl j=>
   subst r;by_cases h:j=k
   .subst h;simp[cz]
   .simp[cz,h]
 | non=>subst r;simp[cz]
 | int i=>subst r;simp[cz]
 | str i=>obtain⟨rfl,_⟩:=r;simp[cz]
 | tup l=>obtain⟨a,b,rfl,_⟩:=r;simp[cz]
 | lst l=>obtain⟨a,b,rfl,_⟩:=r;simp[cz]
 | scr l=>obtain⟨a,rfl,_⟩:=r;simp[cz]
 | dct t l m=>obtain⟨a,b,e,rfl,_⟩:=r;simp[cz]
 | obj t l m=>obtain⟨a,C,c,b,rfl,_⟩:=r;simp[cz]
 | adr a=>subst r;simp[cz]
def Co{d:Bool}:eu K (λx y H Q=>∃k,y=.bl k/\Q (.bl (decide (x=.bl k)!=d)) H) (oT d):=by
 intro x y j l c H G Q h s i g q;unfold oT at h
 split at h
 .rename_i k
  cases h;subst g;exact⟨k,rfl,by rwa [Cn i k]⟩
 .cases h
noncomputable def fm:AN->Option D
 | [.int i,.int j]=>some (.int (if j<i then j else i))
 | _=>none
def S5(r:jV K G H [.int i,.int j] vs):vs=[.int i,.int j]:=by
 obtain⟨x,r,rfl,a,d⟩:=r;obtain⟨y,r,rfl,c,b⟩:=d;cases (b);rw[a,c]
def L6:dM K (λxs H Q=>∃i j,xs=[.int i,.int j]/\Q (.int (if j<i then j else i)) H) fm:=by
 intro a b d H G Q h s r q;unfold fm at h
 split at h
 .rename_i i j
  cases h;exact⟨i,j,S5 r,q _ H G (.refl s) (by rw[Rp])⟩
 .cases h
def S6{c:Sort _}{a b:c}(h:a=b):a=b:=h
@[simp] theorem l3(i j:Int):fm [.int i,.int j]=some (.int (if j<i then j else i)):=S6 rfl
def Cp(i:Int)(j:Nat):eE (.int i) (.int (j:Int))=some (.int (i/2^j)):=by
 simp[eE,i2]
end
section
variable {w:World}{A:Around}{E:AA}{s:Shared}
def S7:typeLookup (.type "list") "keys"=pure none:=by kernel_rfl
theorem L7(i:s.heap.get? a=some o)(m:o.cls=.type "list")(j:o.dict=none)(p:o.data=.seq its n)(q:A.handled=none)(x:∀J tk,(∀b k,s.heap.get? b=some k->J.get? b=some k)->Q none {s with heap:=J,toks:=tk}):
 wpAny (mZ prog w) A (getAttr? (.ref a) "keys") Q E s:=by
 obtain⟨c,z,v,r⟩:=o;simp only at m j p;subst m j p;obtain⟨y,g,d,tk,os⟩:=s
 have l:∀f,(⟨y,g,d,f,os⟩:Shared).TypeIs (.ref a) "list":=λ_=>⟨_,i,rfl⟩
 have I:=sub_AttributeError;have H:=F.slot_list_getattribute.lookup;have G:=F.slot_list_getattribute.bind (.ref a);have D:=am_list_getattr_none;have u:∀t,Meets (Builtin.«object.__getattribute__» ⟨[.ref a,.str "keys" t],[]⟩) _:=λt=>meets_getattribute_miss_list a its n r "keys" t S7 (by decide);unfold getAttr? getAttrBy? getAttrBy
 repeat (any_goals (first
  | assumption
  | exact l _
  | ((with_reducible show wpAny _ _ (call (.builtin "list.__getattribute__") _ _) _ _ _)
     refine call_meets F.slot_list_getattribute (l _) am_entry_list_getattribute (F.args_list_getattribute_2 _ _) (u _) ⟨i,q,λJ f e h=>?_⟩)
  | wp_step))
 obtain⟨K,C,B⟩:=h.there;show wpAny _ _ (getattributeRaised _ _ _ _ _ _ _) _ _ _;unfold getattributeRaised
 repeat (any_goals (first
  | assumption
  | wp_step))
 exact x _ _ h.keeps
def Cq(h:Heap)(u:Value)(p:Int×Value):Prop:=∃t a o n,u=.ref t/\h.get? t=some o/\o.cls=.type "tuple"/\o.data=.seq #[.int p.1 a,p.2] n
def ip(h:Heap):AC->List (Int×Value)->Prop
 | [],[]=>True
 | u::us,p::ps=>Cq h u p/\ip h us ps
 | _,_=>False
noncomputable def oU(a:List (aX×Value)):List (Int×Value)->List (aX×Value)
 | []=>a
 | p::ps=>oU (stored a (Sum.inl p.1) p.2) ps
theorem S8(a:List (aX×Value))(k:aX)(v:Value):(stored a k v).length<=a.length+1:=by
 unfold stored
 split<;>ext
def uF:entryFor table "dict.update.loop"=some Builtin.«dict.update.loop»:=entryFor_of_tree (by kernel_rfl)
def l4:plainId "dict.update.loop"=true:=by decide +kernel
def OldH(h0 h:Heap):Prop:=∀b o,h0.get? b=some o->h.get? b=some o
theorem OldH.but(c:h0.get? d=none)(o:OldH h0 h)(e:Heap.SameBut d h f):OldH h0 f:=λb a q=>by
 rw[e.2 b λz=>by grind];exact o b a q
def IsListIter.but(x:h.IsListIter a L i)(e:Heap.SameBut d h f)(c:a≠d):f.IsListIter a L i:=by
 obtain⟨o,b,r⟩:=x;exact⟨o,by rwa [e.2 a c],r⟩
theorem S9{a:AC}(T:A.handled=none)(O:h0.get? d=none)(N:h0.get? H=none)(m:d≠H)(S:h0.IsList L a.toArray):
 ∀(ps:List (Int×Value)) (i:Nat) (c:Int) (g:List (aX×Value)) (s:Shared),ip h0 (a.drop i) ps->g.length+ps.length<=sizeLine->s.heap.IsListIter H L i->OldH h0 s.heap->s.heap.DictOf (Yt prog w) d g->
 (∀E tk,OldH h0 E->E.DictOf (Yt prog w) d (oU g ps)->R (.ok (.ret .none)) {s with heap:=E,toks:=tk})->
 codeAny (mZ prog w) A (.builtin "dict.update.loop" ⟨[.ref d,.ref H,.int c 0,.none],[]⟩) R s:=by
 intro ps
 induction ps with
 | nil=>
   intro i c g s h U k y I P;have l:s.heap.IsList L a.toArray:=let ⟨o,e,r⟩:=S;⟨o,y _ _ e,r⟩
   have Q:a.toArray[i]?=none:=by
    cases f:a.drop i with
    | nil=>simpa using f
    | cons u us=>rw[f]at h;exact h.elim
   refine wz uF ?_;refine wa (wpAny_pyNext_list_end (A:=A.in1) T k l Q λE hs=>?_);refine wa (wc (wc (P E s.toks (λb F q=>hs b F (λz=>by grind) (y b F q)) (I.extBut hs m))))
 | cons p ps Z=>
   intro i c g s h U k y I P;have l:s.heap.IsList L a.toArray:=let ⟨o,e,r⟩:=S;⟨o,y _ _ e,r⟩
   cases f:a.drop i with
   | nil=>rw[f]at h;exact h.elim
   | cons u us=>
     rw[f]at h;obtain⟨⟨t,tk,F,n,rfl,W,X,x⟩,h⟩:=h
     have Q:a.toArray[i]?=some (.ref t):=by
      have:=congrArg List.head? f;simpa [List.head?_drop]using this
     have hus:=by
      have:=congrArg List.tail f;simpa using this.symm
     refine wz uF ?_;refine wa (wpAny_pyNext_list_item k l Q λV G B=>?_);have v:=OldH.but N y B;have J:=I.sameBut B m;have D:=v _ _ W
     have hT:(Shared.TypeIs {s with heap:=V} (.ref t) "tuple"):=⟨F,D,X⟩
     refine wa (we (wa (wpAny_tryCatch ?_)));refine wa (wpAny_typeOf hT ?_);refine wa (wpAny_seqItems D x (wc ?_));refine we (wpAny_dictSet_pairs (iX (k:=.inl p.1) ⟨tk,rfl⟩) J (λh2 M C=>?_) (by grind));refine wc ⟨jc l4 _,?_⟩;refine Z (i+1) (c+1) _ _ (by grind) ?_ (IsListIter.but G C (Ne.symm m)) (OldH.but O v C) M λE K Y d'=>P E K Y d';have:=S8 g (Sum.inl p.1) p.2;grind
theorem S_(z:A.handled=none)(H:PlainL s.heap L its.toArray)(P:ip s.heap its S)(N:S.length<=sizeLine)(O:∀R tk,OldH s.heap R->R.DictOf (Yt prog w) (~~~s) (oU [] S)->Q (.ref (~~~s)) {s with heap:=R,toks:=tk}):
 wpAny (mZ prog w) A (call (.type "dict") [.ref L]) Q E s:=by
 generalize v:({cls:=.type "dict",data:=.dict #[]}:Obj)=k;refine callType_codes (Q₁:=λj d=>j=.ref _/\d={s with heap:=s.heap.push k}) F.kt_called_dict (F.kt_typeCall_dict_1 _) F.entry_dict_init (kt_code_dict_new _ ⟨rfl,by rw[v]⟩) ?_;rintro j d ⟨rfl,rfl⟩
 have a:(s.heap.push k).DictOf (Yt prog w) (~~~s) []:=by rw[<-v];exact .new s.heap
 refine⟨a.typeIs,F.args_dict_init_2 _ _,?_⟩;refine wa ?_;refine wa (wpAny_notOrdered_dict a.typeIs ?_);refine wc ?_;obtain⟨o,n,e,l,y,r⟩:=H;have t:(s.heap.push k).get? L=some o:=qe _ e
 have D:Shared.TypeIs {s with heap:=s.heap.push k} (.ref L) "list":=⟨o,t,l⟩
 refine wa (wpAny_typeOf D ?_);refine wa (L7 t l y r (by simp[z]) λR tk c=>?_);refine wa (wpAny_rule (wa ?_))
 have m:R.IsList L its.toArray:=⟨o,c _ _ t,l,n,r⟩
 refine wpAny_pyIter_list (s:={s with heap:=R,toks:=tk}) m ?_;have i:OldH s.heap R:=λb u q=>c _ _ (qe _ q);obtain⟨B,I,J,p,f⟩:=id a;have g:=c _ _ p;have h:=ql g;generalize x:({cls:=.type "list_iterator",data:=.fields _}:Obj)=C;refine wc ⟨jc l4 _,?_⟩;refine S9 (by simp[z]) (Heap.get?_none_of_le (qv _)) (Heap.get?_none_of_le (Nat.le_of_lt h)) (qm h) ⟨o,e,l,n,r⟩ S 0 0 [] _ (by grind) (by ext) ?_ (λb u q=>qe _ (i b u q)) ⟨B,I,J,qe _ g,f⟩ λy G K M=>?_
 .exact⟨C,qp _ (by rw[<-x];rfl),by rw[<-x],by grind⟩
 grind
end
def uG(H:Hp):AM->List (Int×V)->Prop
 | [],[]=>True
 | x::xs,q::a=>(∃b,x=.ref b/\H b=some (.tup [.int q.1,q.2]))/\uG H xs a
 | _,_=>False
def fq(a:List (aX×V)):List (Int×V)->List (aX×V)
 | []=>a
 | q::b=>fq (bj a (Sum.inl q.1) q.2) b
def QP:List (Int×V)->List (Int×Value)->Prop
 | [],[]=>True
 | q::a,p::ps=>(q.1=p.1/\RelV q.2 p.2)/\QP a ps
 | _,_=>False
theorem QP.length:∀{a:List (Int×V)}{b:List (Int×Value)},QP a b->b.length=a.length
 | [],[],_=>rfl
 | q::a,p::b,h=>by rw[qt,qt,QP.length h.2]
 | [],_::_,h=>h.elim
 | _::_,[],h=>h.elim
theorem L8:∀{b:List (Int×V)}{e:List (Int×Value)}{a:List (aX×V)}{vs:List (aX×Value)},QP b e->KV a vs->KV (fq a b) (oU vs e)
 | [],[],_,_,_,r=>r
 | q::b,p::e,a,vs,h,r=>by
   obtain⟨⟨d,c⟩,h⟩:=h;rw[fq,oU,<-d];exact L8 h (r.put _ c)
 | [],_::_,_,_,h,_=>h.elim
 | _::_,[],_,_,h,_=>h.elim
theorem Cr:∀(b:List (Int×V)) (a:List (aX×V)),(fq a b).length<=a.length+b.length
 | [],a=>by rw[fq];simp
 | q::b,a=>by
   rw[fq,qt];have d:=Cr b (bj a (.inl q.1) q.2);have c:=tG a (.inl q.1) q.2;lia
theorem L9{σ:L2.St}(I:Inv X pins σ H s):∀{ys:AM}{its:AC}{a:List (Int×V)},uG H ys a->Vals ys its->∃w,ip s.heap its w/\QP a w
 | [],its,[],_,r=>by
   cases r;exact⟨[],trivial,trivial⟩
 | y::ys,its,q::a,h,r=>by
   obtain⟨⟨b,rfl,x⟩,h⟩:=h
   cases r with
   | cons p i=>
     cases p;obtain⟨w,d,m⟩:=L9 I h i;obtain⟨c,g,⟨o,e,k,n,f⟩,_⟩:=I.tuple (.of x)
     cases g with
     | cons l u=>
       cases u with
       | cons v j=>
         cases j;obtain⟨t,rfl⟩:=l;exact⟨(q.1,_)::w,⟨⟨b,t,o,n,rfl,e,k,f⟩,d⟩,⟨⟨rfl,v⟩,m⟩⟩
 | [],_,_::_,h,_=>h.elim
 | _::_,_,[],h,_=>h.elim
def Cu(K:W7):AM->Hp->VK->Prop:=λe H Q=>∃a d c,e=[.ref a]/\SqL K H a d/\uG H d c/\c.length<ax/\∀p,H p=none->Q (.ref p) (upd H p (.dK (fq [] c)))
theorem L_(p:X.calm=true):dA X (.type "dict") (Cu X.K):=by
 intro x s F H C D Q I r h;obtain⟨a,E,n,rfl,i,j,w,q⟩:=h;obtain⟨u,rfl,k⟩:=ef r;cases k;obtain⟨A,m,z,v⟩:=I.list i;obtain⟨y,t,g⟩:=L9 I j m;have f:ax=1000000:=rfl
 have d:y.length<=sizeLine:=by rw[g.length,jh];lia
 refine S_ (I.ok.hd p) z t d λG B c l=>⟨.ref _,_,I.laid (λb o e=>c b o e) (qv _) (tI ?_ (beq_eq_false_iff_ne.mpr (.symm (qm I.big))) (L8 g .nil) l),rfl,q _ (I.hok.fresh (qv _))⟩
 have:=Cr n [];rw[jh]
 ext<;>lia
noncomputable def fv:AN->Option (List (Int×D))
 | []=>some []
 | .tup [.int i,v]::l=>(fv l).map ((i,v)::·)
 | _=>none
def bV:D->Option (List (Int×D))
 | .lst l=>fv l
 | _=>none
def ba{a:Type}(ns:AF)(vs:List a)(i:Int)(y:a):List Int×List a:=if i∈ns then (ns,aJ ns vs i y)else (ns++[i],vs++[y])
noncomputable def ay{a:Type}(ns:AF)(vs:List a):List (Int×a)->List Int×List a
 | []=>(ns,vs)
 | p::ps=>ay (ba ns vs p.1 p.2).1 (ba ns vs p.1 p.2).2 ps
theorem Ma(h:ns.Nodup):(ba ns vs i y).1.Nodup:=by
 unfold ba;symm
def Cv(h:ns.length=vs.length):(ba ns vs i y).1.length=(ba ns vs i y).2.length:=by
 unfold ba
 split
 .rwa [og]
 .simp[h]
def DQ(K:W7)(G:Hp):List (Int×D)->List (Int×V)->Prop
 | [],[]=>True
 | d::ds,q::a=>(d.1=q.1/\Rp K G d.2 q.2)/\DQ K G ds a
 | _,_=>False
theorem DQ.length:∀{b:List (Int×D)}{a:List (Int×V)},DQ K G b a->a.length=b.length
 | [],[],_=>rfl
 | q::a,p::c,h=>by rw[qt,qt,DQ.length h.2]
 | [],_::_,h=>h.elim
 | _::_,[],h=>h.elim
theorem Cw(s:Same G H):∀{l:AN}{y:List (Int×D)}{xs:AM},fv l=some y->RpL K G l xs->∃c,uG H xs c/\DQ K G y c
 | [],y,xs,e,r=>by
   cases e;subst r;exact⟨[],trivial,trivial⟩
 | d::l,y,xs,e,r=>by
   unfold fv at e
   split at e
   case h_1 he=>cases he
   case h_2 i v l' he=>
    injection he with f g;subst f g;obtain⟨h,u,rfl⟩:=qc e;obtain⟨x,v,rfl,p,m⟩:=r;obtain⟨c,q,j⟩:=Cw s u m;obtain⟨b,A,rfl,z,a⟩:=p;obtain⟨w,n,rfl,o,a⟩:=a;obtain⟨t,n,rfl,k,a⟩:=a;subst a o;exact⟨(i,t)::c,⟨⟨b,rfl,s _ _ z⟩,q⟩,⟨⟨rfl,k⟩,j⟩⟩
   grind
theorem uH:∀{j:List (Int×D)}{g:List (Int×V)}{ns:AF}{i:AN}{vxs:AM},DQ K G j g->ns.Nodup->ns.length=vxs.length->RpL K G i vxs->
 ∃a,fq (zK ns vxs) g=zK (ay ns i j).1 a/\(ay ns i j).1.Nodup/\(ay ns i j).1.length=a.length/\RpL K G (ay ns i j).2 a
 | [],[],ns,i,vxs,_,b,c,f=>⟨vxs,rfl,b,c,f⟩
 | d::j,q::g,ns,i,vxs,h,b,c,f=>by
   obtain⟨⟨e,r⟩,h⟩:=h;rw[fq,oE c b]
   have k:(dj ns vxs q.1 q.2).1=(ba ns i d.1 d.2).1:=by
    unfold dj ba
    split<;>ext
   rw[k];refine uH h (Ma b) ?_ ?_
   .rw[<-k]
    exact Cv c
   .unfold dj ba
    rw[e]
    split
    .exact t_ q.1 r f
    .exact .snoc r f
 | [],_::_,_,_,_,h,_,_,_=>h.elim
 | _::_,[],_,_,_,h,_,_,_=>h.elim
section
variable {e:Expr}{f:AU}{w:World}{A:Around}{E:AA}{s:Shared}
def fw(i:Nat)(f:AU):AR:=λb=>((f b).bind bV).bind λa=>if a.length<ax then some (.nx (b.set i (some (.od false ((ay [] [] a).1.map .int) (ay [] [] a).2))))else none
@[simp] theorem Mb(i:Nat):fw i f ρ=((f ρ).bind bV).bind λps=>if ps.length<ax then some (.nx (ρ.set i (some (.od false ((ay [] [] ps).1.map D.int) (ay [] [] ps).2))))else none:=c7 rfl
@[simp] theorem i7(l:AN):bV (.lst l)=fv l:=c7 rfl
def iq:Int:=4238894112
def Ta(h:Q iq {s with toks:=s.toks+1}):wpAny (mZ prog w) A (pyHash .none) Q E s:=by
 have a:s.TypeIs .none _:=rfl
 exact wa (wc (wa (wpAny_specialOf a F.slot_NoneType_hash.lookup (wa (wpAny_specialOf a F.slot_NoneType_hash.lookup (wa (wpAny_callSpecialIfBoundUnlessNone?_slot a F.slot_NoneType_hash
  (wg F.slot_NoneType_hash a F.entry_NoneType_hash
   (wpAny_ret_mkInt (wc h)) (F.args_NoneType_hash_1 _)))))))))
theorem Cy(f:s.heap.get? d=some o)(c:o.data=.dict b j)(g:∀e∈b,e.hash≠iq)(h:Q none {s with toks:=s.toks+1}):
 wpAny (mZ prog w) A (dictGet d .none) Q E s:=by
 have a:placesWithHash b.size (λi=>b[i]?.map (·.hash)) iq=[]:=by
  unfold placesWithHash
  ext
 refine we (wa (Ta (wa (we (wa (wpAny_dictEntries f c ?_))))));rw[a];exact wc (wc h)
noncomputable def l5(ns:AF):Bool:=ns.all λn=>decide (-1000000000<n/\n<1000000000)
theorem Tb:∀{b:List DictEntry},Pairs (Yt prog w) b a->∀e∈b,∃c∈a,(Yt prog w).is c.1 e.key=true:=by
 intro b h
 induction h with
 | nil=>simp
 | cons f _ _ d=>
   grind
theorem Cz{ns:AF}(f:s.heap.DictOf (Yt prog w) d c)(m:c.map (·.1)=ns.map Sum.inl)(hs:l5 ns=true)(h:Q none {s with toks:=s.toks+1}):
 wpAny (mZ prog w) A (dictGet d .none) Q E s:=by
 obtain⟨o,C,D,q,_,v,b,y,_⟩:=f;refine Cy q v (λe u=>?_) h;obtain⟨k,r,i⟩:=b e u;obtain⟨p,j,x⟩:=Tb y e ⋯;have a:p.1∈_:=Qs j;rw[m]at a;obtain⟨n,g,t⟩:=qy a;have l:=List.all_eq_true.mp hs n g;rw[i,(Yt _ w).inj _ _ _ r x,<-t];show hashInt n≠_;intro z
 have:hashInt n=n\/hashInt n=-2:=by
  have B:rawHash n=if (n==-1)=true then -2 else n:=by
   unfold rawHash;symm
  unfold hashInt
  ext<;>ac_nf
 unfold iq at z;symm
def Mc{ns:AF}(f:(d==sysModules)=false)(c:s.heap.DictOf (Yt prog w) d a)(e:a.map (·.1)=ns.map Sum.inl)(hs:l5 ns=true)(h:Q false {s with toks:=s.toks+1}):wpAny (mZ prog w) A (contains (.ref d) .none) Q E s:=by
 have b:=c.typeIs;refine we (wa (wpAny_specialOf b slot_dict_contains.lookup (wa (wpAny_callSpecialUnlessNone?_slot b slot_dict_contains (wg slot_dict_contains b entry_dict_contains ?_ (args_dict_contains _ _))))));show wpAny _ _ (dictGet d _>>=_) _ _ s;exact wa (Cz c e hs (wa (wpAny_pendingKey_other f (wc ⟨_,rfl,wpAny_truthy_bool h⟩))))
end
def cP(a:Bool):D->D->Option Bool
 | .int i,.dct false b c=>dn a (.int i) (.dct false b c)
 | .non,.dct false b _=>(intsD b).bind λd=>if l5 d=true then some (false != a)else none
 | _,_=>none
def kr(b:Bool):R2:=λx y H Q=>il b x y H Q\/(x=.non/\∃a c d,y=.ref a/\H a=some (.dK c)/\c.map (·.1)=d.map .inl/\l5 d=true/\Q (.bl (false != b)) H)
def Md:eu K (kr c) (cP c):=by
 intro x y n o b H G Q h s f e q;unfold cP at h
 split at h
 .exact .inl (Cb x y _ _ b H G Q h s f e q)
 .obtain⟨t,j,h⟩:=qa h
  split at h
  case isFalse=>cases h
  rename_i d;injection h with h;subst h f;obtain⟨a,i,r,rfl,g,k,p⟩:=e;obtain⟨u,v,l,m⟩:=gI j g k;exact .inr ⟨rfl,a,_,t,rfl,u,i5 t r l,d,q⟩
 .cases h
section
theorem Me{vs:List (aX×Value)}(b:KV a vs):vs.map (·.1)=a.map (·.1):=by
 induction b with
 | nil=>rfl
 | cons r _ c=>grind
def CA(i:X.A.units+64<cLine):br X (compareOp .In) (kr false):=by
 intro c s m H x y v u Q I e d h;rcases h with h|⟨rfl,a,n,p,rfl,k,l,g,q⟩
 .exact oJ i _ s m H x y v u Q I e d h
 .cases e
  cases d;obtain⟨z,j,o,b,f⟩:=tH I.hok k;exact wa (Mc j f ((Me b).trans l) g (wc (⟨.bl _,H,I.tok _,rfl,q⟩)))
def CB(i:X.A.units+64<cLine):br X (compareOp .NotIn) (kr true):=by
 intro l s n H x y v u Q I c d h;rcases h with h|⟨rfl,a,f,o,rfl,e,g,m,q⟩
 .exact L0 i _ s n H x y v u Q I c d h
 .cases c
  cases d;obtain⟨z,j,p,b,k⟩:=tH I.hok e;exact wa (Mc j k ((Me b).trans g) m (wc (⟨.bl _,H,I.tok _,rfl,q⟩)))
variable {a b e:Expr}{fb f:AU}
@[simp] theorem uI(c:Bool)(ks vs:AN)(i:Int):cP c (.int i) (.dct false ks vs)=(intsD ks).map λns=>decide (i∈ns)!=c:=c7 rfl
@[simp] theorem CC(a:Bool)(ks vs:AN):cP a .non (.dct false ks vs)=(intsD ks).bind λns=>if l5 ns=true then some (false != a)else none:=c7 rfl
end
def ku:AC->AJ->Prop:=Paired λv k=>(∃t,v=.str k t)/\PyData.strOk k=true
def GT(K:W7)(b:AD)(x:Str)(ks:AJ):Prop:=∃p o a n,b x=some (.ref p)/\K.lookup p=some o/\o.cls=.type "tuple"/\o.data=.seq a n/\ku a.toList ks
theorem Mf{h:Heap}:∀{vs:AC}{ks:AJ},ku vs ks->∃a,ReadsAll h vs (ks.map PyData.str) a/\PyData.canLayAll0 (ks.map PyData.str)=true
 | _,_,.nil=>⟨_,.nil,by simp[PyData.canLayAll0]⟩
 | _,_,.cons r t=>by
   obtain⟨⟨e,rfl⟩,b⟩:=r;obtain⟨a,d,c⟩:=Mf t;exact⟨_,.cons (.str _ e) d,by simp[PyData.canLayAll0,PyData.canLay0,c,b]⟩
noncomputable def CD(a:Bool)(ks:AJ):D->Option Bool
 | .str k=>some (decide (k∈ks)!=a)
 | _=>none
def CG(p:Addr)(ks:AJ)(a:Bool):R2:=λx y H Q=>∃k,x=.str k/\PyData.strOk k=true/\y=.ref p/\Q (.bl (decide (k∈ks)!=a)) H
theorem Mg(k:Str):∀ks:AJ,((ks.map PyData.str).any λy=>PyData.eqv y (.str k))=decide (k∈ks)
 | []=>rfl
 | a::ks=>by
   rw[Qd,List.any_cons,Mg k ks];have e:PyData.eqv (.str a) (.str k)=decide _:=decide_eq_decide.mpr ⟨λh=>h.symm,λh=>h.symm⟩;rw[e];by_cases h:k=a<;>simp[h]
section
variable {w:World}{A:Around}{E:AA}{s:Shared}
theorem Tc{lo f:Option Int}(c:IsTup s.heap t a)(hs:s.heap.IsSliceOf k i l .none)(j:IsPart i lo)(n:IsPart l f)(h0:HT.sIx a.size 0 lo=0)(o:HT.sIx a.size a.size f=a.size)(h:Q (.ref t) s):wpAny (mZ prog w) A (getItem (.ref t) (.ref k)) Q E s:=by
 obtain⟨os,e,d,m⟩:=id hs;unfold getItem
 try with_reducible refine we ?_
 refine wa (wpAny_sequenceKey c.typeIs (by decide) (wa (wpAny_callSpecial?_slot c.typeIs PyProof.Rows.slot_tuple_getitem (wg PyProof.Rows.slot_tuple_getitem c.typeIs entry_tuple_getitem ?_ (args_tuple_getitem _ _)))));show wpAny _ _ (Builtin.Tuple.tupleItemsOf _>>=_) _ _ s;refine wa (tupleItemsOf_ c (wa (wpAny_typeOf (⟨os,e,d⟩) (wa (HT.sliceApplied_gen hs j n ?_)))));show wpAny _ _ (if _ then _ else _) _ _ s;rw[if_pos (by ext)];exact wa (wa (wpAny_typeOf c.typeIs (wc (wa (wpAny_rule (wc ⟨_,rfl,wc h⟩))))))
end
section
def CH(K:W7):V->Option Int->Option Int->Hp->VK->Prop:=λx lo e H Q=>∃a b,x=.ref a/\SqT K H a b/\HT.sIx b.length 0 lo=0/\HT.sIx b.length b.length e=b.length/\Q (.ref a) H
theorem CI:SlR X (CH X.K):=by
 intro c s u H x v o z lo w y Q I k g i f h;obtain⟨a,p,rfl,l,n,t,q⟩:=h;cases k;obtain⟨j,r,d,m⟩:=I.tuple l;have e:=r.length.symm;exact⟨"tuple",_,PyProof.Rows.slot_tuple_getitem.lookup,d.typeIs,Tc d g i f (by grind) (by grind) (⟨.ref a,H,I,rfl,q⟩)⟩
def ir(i j:Option Int):D->Option D
 | .lst l=>some (.lst (bN l i j))
 | .tup l=>some (.tup (bN l i j))
 | _=>none
def oV(c:AU)(lo b:Option AU):AU:=λa=>(c a).bind λd=>(cV lo a).bind λi=>(cV b a).bind λj=>ir i j d
variable {a e:Expr}{f:AU}
@[simp] theorem CJ(lo a:Option AU):oV fa lo a ρ=(fa ρ).bind λd=>(cV lo ρ).bind λi=>(cV a ρ).bind λj=>ir i j d:=c7 rfl
@[simp] theorem oW(i j:Option Int)(l:AN):ir i j (.tup l)=some (.tup (bN l i j)):=c7 rfl
end
section
variable {w:World}{A:Around}{E:AA}{s:Shared}
def CK:isSubtype (.type "set") (.type "set")=pure true:=by kernel_rfl
theorem CL:∀{a:AC},a.length=b.length->(∀(j:Nat) v,a[j]?=some v->jU b j v)->IntsAre a b:=by
 induction b with
 | nil=>
   intro a h _;rw[List.length_eq_zero_iff.mp h];exact .nil
 | cons k r e=>
   intro a h c
   match a,h with
   | v::a,h=>
     obtain⟨d,t,g,i⟩:=c 0 v rfl;simp at g;subst g i;refine .cons _ t (e (by simpa using h) λj v f=>?_);obtain⟨d,t,g,i⟩:=c (j+1) v (by grind);exact⟨d,t,by grind,i⟩
theorem Td(T:A.handled=none)(G:SetI prog w s.heap a ns)(hQ:∀(h':Heap) (d':Drawn) (tk:Nat) (q:AC) (d:AF),~~~s<=h'.objs.size->(∀b o,s.heap.get? b=some o->h'.get? b=some o)->IntsAre q d->d.Perm ns->Q q {s with heap:=h',drawn:=d',toks:=tk}):
 wpAny (mZ prog w) A (collect (.ref a)) Q E s:=by
 obtain⟨o,es,ep,t,O,u,hd,_⟩:=id G;have hlt:a< ~~~s:=ql O;have B:=G.len;unfold collect;refine wa (wpAny_runValue (wz F.entry_proto_collect ?_));rw[jd F.plain_proto_collect _];refine wa (wh ?_);refine wc ⟨jc F.plain_list_iadd _,wz F.entry_list_iadd ?_⟩;rw[jd F.plain_list_iadd _];generalize L:s.heap.push {cls:=.type "list",data:=.seq ([]:AC).toArray}=H
 have Z:H.objs.size= ~~~s+1:=by rw[<-L,wx]
 have c:∀b o,s.heap.get? b=some o->H.get? b=some o:=λb o e=>by rw[<-L];exact qe _ e
 have hL:H.get? (~~~s)=some {cls:=.type "list",data:=.seq ([]:AC).toArray}:=by rw[<-L];exact qp _ rfl
 have x:=c a o O
 have V:Shared.TypeIs {s with heap:=H} (.ref a) "set":=⟨o,x,u.1⟩
 have M:(~~~s)≠a:=λz=>by grind
 have h1:Builtin.List.listSameRef (.ref (~~~s)) (.ref a)=false:=by simp[Builtin.List.listSameRef,M]
 show wpAny _ A.in1 (Builtin.List.listExtendWith (.ref (~~~s)) (.ref a) (.ref (~~~s))) _ _ _;unfold Builtin.List.listExtendWith;refine wa (wpAny_typeOf V ?_)
 have h2:(Value.type "set"==Value.type "list")=false:=by decide
 have U:(Value.type "set"==Value.type "tuple")=false:=by decide
 simp only[h1,h2,U,Bool.or_false,Qo,if_false];refine wa (Ar (s:={s with heap:=H}) (G.at λo e=>c a o e) λh' d' I Y d St i hI R hfp ua S N hty=>?_);have K:=i a o x
 have m:Shared.TypeIs {s with heap:=h',drawn:=d' } (.ref a) "set":=⟨o,K,u.1⟩
 refine wa (we ?_);unfold Builtin.List.listLengthHint;refine wa (wpAny_specialOf m F.slot_set_len.lookup ?_);refine wa (wpAny_isInstance (b:=true) m CK ?_);show wpAny _ A.in1 (typeOf (Value.ref a)>>=_) _ _ _;refine wa (wpAny_typeOf m ?_);refine wc ?_;rw[if_pos (by decide)];refine wa (wpAny_rule ?_)
 have C:(~~~s)∉Y:=λp=>by
  grind
 have f:=i _ _ hL;refine wa ?_;refine wa (wpAny_updateSeq f rfl ?_);have g:=wy (Obj.mapSeq (·.push Value.none)) f rfl;refine wpAny_updateSeq g rfl ?_;have l:=wy (Obj.mapSeq (·.pop)) g rfl
 have y:∀b o,b≠(~~~s)->h'.get? b=some o->
  ((h'.update (~~~s) (Obj.mapSeq (·.push Value.none))).update (~~~s) (Obj.mapSeq (·.pop))).get? b=some o:=
  λb o hb e=>(Heap.get?_update_other _ _ (Ne.symm hb)).trans ((Heap.get?_update_other _ _ (Ne.symm hb)).trans e)
 have W:=(S A.in1 T).toS
 refine wc ⟨jc F.plain_extend_loop _,codeAny_extend_loopS W (fits_of_scanBound B) _ C _ ns.length 0 _ _ _ rfl (Qh _)
  (W.frame 0 ({s with heap:=h',drawn:=d' }:Shared) _ s.toks N (qv _) λb hb o e=>y b o (λh=>C (h ▸ hb)) e) l (ItemsOf.nil _) λs' n c' p r k=>?_⟩
 show wpAny _ A (load (~~~s)>>=_) _ _ s';refine wa (wpAny_load r ?_);have eg:s'.gens=s.gens:=p.gens;have ed:s'.drawn=d':=p.drawn;have eo:s'.os=s.os:=p.os
 have J:s'={s with heap:=s'.heap,drawn:=d',toks:=s'.toks}:=by
  obtain⟨a1,a2,a3,a4,a5⟩:=s';grind
 rw[J];refine wc (hQ s'.heap d' s'.toks n.toList d (Nat.le_of_lt (ql r)) (λb D e=>?_) (CL (by rw[qj,k.1,ua.length_eq]) λj v hj=>k.2 j v (by grind)) ua);have hb:b< ~~~s:=ql e;refine p.heap b D (λX=>?_) (y b D (qm hb) (i b D (c b D e)));grind
theorem Te(r:A.handled=none)(y:SetI prog w s.heap a ns)(i:ns.length<64)(v:∀(B:Heap) (D:Drawn) (tk e:Nat) (p:Addr) (k:Array Value) (c:AF),(∀b o,s.heap.get? b=some o->B.get? b=some o)->(~~~s)<=p->B.get? p=some (seqObj "list" k e)->IntsAre k.toList c->c.Perm ns->c.Pairwise (·<=·)->
  Q (.ref p) {s with heap:=B,drawn:=D,toks:=tk}):wpAny (mZ prog w) A (call (.builtin "sorted") [.ref a]) Q E s:=by
 refine Calls.call_function_entry kind_sorted plain_sorted entry_sorted (args_sorted1 _) (wa (wc (wa (Td r y λB D tk f q j d m n=>?_))))
 have h:f.length<64:=by rwa [IntsAre.length m,n.length_eq]
 refine wa (wpAny_newList ?_ (by rw[jh];ac_nf));have g:(B.push (seqObj "list" f.toArray 0)).get? _=_:=qp _ rfl;refine wa (we (wg slot_list_sort ⟨_,g,rfl⟩ entry_list_sort (list_sort_tree g m h λk c z u t=>⟨_,rfl,?_⟩) (args_list_sort _)));obtain⟨e,x⟩:=sortedHeap_at g;refine wc ⟨_,rfl,v _ D tk e _ k c (λb o l=>?_) j x z (u.trans n) t⟩;have F:=ql (d b o l);rw[sortedHeap_old (qm F) (by rw[size_push'];ext<;>ac_nf)];exact qe _ (d b o l)
end
noncomputable def dq(P:P7)(w:World)(p:Addr)(a:AF):HO:=.ext λh=>SetI P w h p a
theorem CM(x:SetI P w h p a):ObjOk P w H h p (dq P w p a):=by
 refine⟨x,?_,λd c e k=>e.at k⟩;obtain⟨o,_,_,_,b,_⟩:=x;grind
section
variable {σ:L2.St}{H:Hp}{s:Shared}{e:Expr}{f:AU}{p:Pos}
def _root_.L2.Inv.dr(I:Inv X pins σ H s)(d':Drawn):Inv X pins σ H {s with drawn:=d' }:=⟨I.ok,I.os,I.bare,I.base,I.loc,I.cell,I.free,I.freeC,I.pin,I.hok,I.len⟩
def Mh(r:Vals (ns.map V.int) us):IntsAre us ns:=tJ r
def CN(K:W7)(P:P7)(w:World):AM->Hp->VK->Prop:=λe H Q=>∃a b,e=[.ref a]/\(SqL K H a (b.map .int)\/SqT K H a (b.map .int))/\b.length<4000/\∀p c,H p=none->c.Perm (aR [] b)->Q (.ref p) (upd H p (dq P w p c))
theorem CO(v:X.calm=true):dA X (.type "set") (CN X.K X.prog X.w):=by
 intro y s C H B E Q I r h;obtain⟨a,D,rfl,c,x,q⟩:=h;obtain⟨u,rfl,w⟩:=ef r;cases w;have m:=I.ok.hd v;have n:scanBound=4096:=rfl;rcases c with c|c
 .obtain⟨f,d,p,t⟩:=I.list c
  have g:=d.length
  exact RY m p.isList (by simpa using Mh d) (by ext<;>ac_nf) λz A j i l k=>⟨.ref _,_,I.laid (λb o e=>k b o (ql e) e) (qv _) (CM i),rfl,q _ j (I.hok.fresh (qv _)) l⟩
 .obtain⟨f,d,p,t⟩:=I.tuple c
  have g:=d.length
  exact RZ m p (by simpa using Mh d) (by ext<;>ac_nf) λz A j i l k=>⟨.ref _,_,I.laid (λb o e=>k b o (ql e) e) (qv _) (CM i),rfl,q _ j (I.hok.fresh (qv _)) l⟩
def CP(P:P7)(w:World):AM->Hp->VK->Prop:=λc H Q=>∃a b,c=[.ref a]/\H a=some (dq P w a b)/\b.length<64/\∀p,H p=none->Q (.ref p) (upd H p (.lst ((c6 b).map .int)))
theorem Mi(j:X.calm=true):dA X (.builtin "sorted") (CP X.prog X.w):=by
 intro x s C H E B Q I r h;obtain⟨a,c,rfl,l,n,q⟩:=h;obtain⟨u,rfl,k⟩:=ef r;cases k;refine Te (I.ok.hd j) ((I.hok a _ l).1) n λD z A e p g m b i v t d y=>?_;have o:=W.ksm_same (d.trans (Yx c).symm) y (gF c);subst o;have w:=(Yx c).length_eq;refine⟨.ref p,_,.laid (I.dr z) b i (show ObjOk _ X.w _ _ _ (.lst _) from⟨by rw[qf,jh];ac_nf,g.toList,e,nC t,by ext⟩),rfl,q _ (I.hok.fresh i)⟩
def oY(l:AN):Option AN:=match intsD l with
 | some a=>if a.length<4000/\(aR [] a).length<64 then some ((c6 (aR [] a)).map .int)else none
 | none=>none
def Mj(h:a.Perm b):c6 a=c6 b:=W.ksm_same (((Yx a).trans h).trans (Yx b).symm) (gF a) (gF b)
def CQ(f:AU):AV:=λa=>(b1 f Yc a).bind oY
def uJ{c:Sort _}{a b:c}(h:a=b):a=b:=h
@[simp] theorem i8{ρ:Ro}:CQ f ρ=((f ρ).bind Yc).bind oY:=uJ rfl
end
noncomputable def dt(m:Nat):Nat->Nat->Nat
 | 0,i=>i
 | k+1,i=>dt m k ((i*5+1)%m)
theorem uK(m:Nat):∀(a b i:Nat),dt m (a+b) i=dt m b (dt m a i)
 | 0,b,i=>by rw[Nat.zero_add];rfl
 | a+1,b,i=>by rw[Nat.succ_add];exact uK m a b _
noncomputable def kx(m:Nat):Nat->Nat->AE
 | 0,_=>[]
 | k+1,i=>i::kx m k ((i*5+1)%m)
theorem Ml:∀{k i:Nat},j∈kx m k i->∃a,a<k/\dt m a i=j
 | 0,_,h=>nomatch h
 | k+1,i,h=>by
   rcases qu h with rfl|h
   .exact⟨0,by lia,rfl⟩
   .obtain⟨a,b,e⟩:=Ml h
    exact⟨a+1,by ext,e⟩
def o4(m:Nat):Bool:=(List.range m).all (λj=>(kx m m 0).contains j)&&dt m m 0==0
noncomputable def sizes:AE:=[8,16,32,64,128]
def CS:sizes.all o4=true:=by decide +kernel
theorem CT(o:m∈sizes)(l:i<m)(n:j<m):∃k,k<m/\dt m k i=j:=by
 have h:=List.all_eq_true.mp CS m o;unfold o4 at h;rw[Qe]at h;obtain⟨g,q⟩:=h
 have e:dt m m 0=0:=by grind
 have c:∀x,x<m->∃a,a<m/\dt m a 0=x:=λx f=>by
  have:=List.all_eq_true.mp g x (List.mem_range.mpr f);exact Ml (by grind)
 obtain⟨a,p,rfl⟩:=c i l;obtain⟨b,r,rfl⟩:=c j n;by_cases d:a<=b
 .refine⟨b-a,by grind,?_⟩
  rw[<-uK,Nat.add_sub_cancel' d]
 .refine⟨m-a+b,by lia,?_⟩
  rw[<-uK,show a+(m-a+b)=m+b by lia,uK,e]
section
variable {mask:Nat}{owner:Array AL}
theorem CU(a i p:Nat):(∃j,SetTable.layClean.free mask owner (a+1) i p=some j/\owner.getD j (some 0)=none)\/
 (owner.getD i (some 0)≠none/\SetTable.layClean.free mask owner (a+1) i p=SetTable.layClean.free mask owner a ((i*5+1+p/32)%(mask+1)) (p/32)):=by
 rw[SetTable.layClean.free]
 cases e:(List.range _).find? _ with
 | some k=>
   ext
 | none=>
   right;refine⟨λz=>?_,rfl⟩;have:=List.find?_eq_none.mp e 0 (List.mem_range.mpr (by unfold SetTable.runEnd;split<;>lia))
   ext
theorem Mm:∀(k a i:Nat),k<a->owner.getD (dt (mask+1) k i) (some 0)=none->∃j,SetTable.layClean.free mask owner a i 0=some j/\owner.getD j (some 0)=none
 | k,0,_,h,_=>absurd h (Nat.not_lt_zero _)
 | k,a+1,i,h,c=>by
   rcases CU a i 0 with b|⟨b,d⟩
   .exact b
   .cases k with
    | zero=>exact absurd c b
    | succ k=>
      rw[d];exact Mm k a _ (by ext) c
theorem Tg(h:mask+1∈sizes)(n:i<mask+1)(o:p<1024)(g:∃j,j<mask+1/\owner.getD j (some 0)=none):∃j,SetTable.layClean.free mask owner (SetTable.turns mask) i p=some j/\owner.getD j (some 0)=none:=by
 obtain⟨j,f,l⟩:=g;have e:SetTable.turns mask=_+1+1:=rfl;rw[e];rcases CU (mask+13+1) i p with a|⟨_,d⟩
 .exact a
 .rw[d]
  generalize (i*5+1+p/32)%(mask+1)=b;rcases CU _ b _ with a|⟨_,c⟩
  .exact a
  .rw[c,show p/32/32=0 by ext<;>lia]
   obtain⟨k,m,q⟩:=CT h (i:=(b*5+1+0)%(mask+1)) (Nat.mod_lt _ (by lia)) f;exact Mm k _ _ (by lia) (by ext)
end
theorem uL{a c:Type}{f g:a->Option c}:∀{l:List a},(∀x∈l,f x=g x)->l.filterMap f=l.filterMap g
 | [],_=>rfl
 | x::l,h=>by
   have d:=uL λy b=>h y (qg _ b);symm
theorem o5{f g:Nat->AL}(hf:f j=none)(hg:g j=some k):∀{l:AE},l.Nodup->j∈l->(∀x∈l,x≠j->g x=f x)->(l.filterMap g).Perm (k::l.filterMap f)
 | [],_,hj,_=>(nomatch hj)
 | x::l,hn,hj,he=>by
   obtain⟨hx,hn⟩:=List.nodup_cons.mp hn;by_cases e:x=j
   .subst e
    have:l.filterMap g=l.filterMap f:=uL λy hy=>he y (qg _ hy) λz=>hx (z ▸ hy);rw[List.filterMap_cons_some hg,List.filterMap_cons_none hf,this]
   .have hj':j∈l:=by
     rcases qu hj with z|z
     .exact absurd z.symm e
     .exact z
    have ih:=o5 hf hg hn hj' λy hy=>he y (qg _ hy);have hxe:=he x qh e
    cases h:f x with
    | none=>rw[List.filterMap_cons_none (hxe.trans h),List.filterMap_cons_none h];exact ih
    | some v=>
      rw[List.filterMap_cons_some (hxe.trans h),List.filterMap_cons_some h];exact(ih.cons v).trans (.swap _ _ _)
theorem Mn(y:mask+1∈sizes):∀(hs:AF) (owner:Array AL) (k:Nat),owner.size=mask+1->((List.range (mask+1)).filterMap λj=>owner.getD j none).Perm (List.range k)->k+hs.length<=mask->(∀h∈hs,0<=h/\h<1024)->
 ∃c,(hs.foldl (init:=some (owner,k)) λm h=>do
  let (owner,k) <-m
  let j <-SetTable.layClean.free mask owner (SetTable.turns mask) (SetTable.bits h%(mask+1)) (SetTable.bits h)
  pure (owner.setIfInBounds j (some k),k+1))=some (c,k+hs.length)/\c.size=mask+1/\((List.range (mask+1)).filterMap λj=>c.getD j none).Perm (List.range (k+hs.length))
 | [],owner,k,u,s,_,_=>⟨owner,rfl,u,s⟩
 | h::hs,owner,k,u,s,G,w=>by
   have H:SetTable.bits h<1024:=by
    obtain⟨a,b⟩:=w h qh;unfold SetTable.bits
    ext<;>lia
   have f:∃j,j<mask+1/\owner.getD j (some 0)=none:=Classical.byContradiction λr=>by
    have A:=s.length_eq;rw[List.length_range]at A
    have n:∀j∈List.range (mask+1),(owner.getD j none).isSome=true:=λj v=>by
     have t:=Qb v;have:owner.getD j (some 0)≠none:=λz=>r ⟨j,t,z⟩
     have p:j<owner.size:=by ext
     simp only[Array.getD,p,dif_pos]at this ⊢;exact Option.isSome_iff_ne_none.mpr this
    have:((List.range (mask+1)).filterMap λj=>owner.getD j none).length=(List.range (mask+1)).length:=by
     generalize List.range (mask+1)=l at n
     ext
    ext<;>lia
   obtain⟨j,v,E⟩:=Tg y (owner:=owner) (i:=SetTable.bits h%(mask+1)) (p:=SetTable.bits h) (Nat.mod_lt _ (by lia)) H f
   have B:j<owner.size:=Classical.byContradiction λz=>by
    ext
   have e:owner.getD j none=none:=by
    ext
   have F:=o5 (f:=λx=>owner.getD x none) (g:=λx=>(owner.setIfInBounds j (some k)).getD x none) (j:=j) (k:=k) e (by ext) (l:=List.range (mask+1)) List.nodup_range (List.mem_range.mpr (by ext)) λx q i=>by
    have C:=Qb q
    have o:x<owner.size:=by ext
    simp[Array.getD,o,Array.getElem_setIfInBounds,Ne.symm i]
   have g:((List.range (mask+1)).filterMap λx=>(owner.setIfInBounds j (some k)).getD x none).Perm (List.range (k+1)):=by
    grind
   obtain⟨c,J,I,D⟩:=Mn y hs (owner.setIfInBounds j (some k)) (k+1) (by grind) g (by grind) λx q=>w x (qg _ q);refine⟨c,?_,I,?_⟩
   .simp_all<;>lia
   ext<;>lia
theorem Mo{led plain:Bool}(d:mask+1∈sizes)(hs:Array Int)(g:hs.size<=mask)(b:∀h∈hs.toList,0<=h/\h<1024):∃t o,SetTable.laid mask finger moves led plain hs=some (t,o)/\o.toList.Perm (List.range hs.size)/\t.place.size=hs.size/\t.dummies=#[]/\t.mask=mask/\t.plain=plain:=by
 have a:((List.range (mask+1)).filterMap λj=>(Array.replicate (mask+1) (none:AL)).getD j none)=[]:=by
  ext
 obtain⟨i,k,l,e⟩:=Mn d hs.toList (Array.replicate (mask+1) none) 0 nofun (by ext) (by ext) b
 have c:SetTable.layClean mask hs=some i:=by
  unfold SetTable.layClean
  ext
 have f:((List.range (mask+1)).filterMap λj=>(i.getD j none).map (j,·)).map (·.2)=(List.range (mask+1)).filterMap λj=>i.getD j none:=by
  rw[List.map_filterMap];refine uL λj _=>?_;cases i.getD j none<;>rfl
 refine⟨_,_,by unfold SetTable.laid;rw[c];rfl,?_,?_,rfl,rfl,rfl⟩
 .simp_all
 .have:=e.length_eq
  symm
def uM(xs:Array a)(p:Nat):(SetTable.eraseAt xs p).toList=xs.toList.eraseIdx p:=by
 unfold SetTable.eraseAt;rw[List.eraseIdx_eq_take_drop_succ];simp[Array.toList_extract];exact List.take_of_length_le nofun
theorem Th(h:cn xs)(p:Nat):cn (SetTable.eraseAt xs p):=by
 unfold cn at h ⊢;rw[uM];grind
def CV(h:p<xs.size):(SetTable.eraseAt xs p).size=xs.size-1:=by
 rw[<-qj,uM,List.length_eraseIdx_of_lt (by simpa using h)];simp
theorem Ti(xs:Array a)(p:Nat)(x:a):(SetTable.insertAt xs p x).size=xs.size+1:=by
 rw[<-qj,K7];simp;lia
section
variable {w:World}{A:Around}{E:AA}{s:Shared}
theorem Tj(R:SetI prog w s.heap a ns)(h:∀h' q,Heap.SameBut a s.heap h'->SetI prog w h' a q->q.Perm (ns.erase k)->Q (decide (k∈ns)) {s with heap:=h' }):
 wpAny (mZ prog w) A (setDiscardHashed a (.int k u) (hashInt k)) Q E s:=by
 have B:=R;obtain⟨o,d,ep,t,i,D,n,c,g,C,U,x,N⟩:=R;have p:(intKind prog w).is k (.int k u)=true:=intKind_is _ _ _ _;have J:(Value.int k u).scannable=true:=rfl;unfold setDiscardHashed setFind setFindIn;refine wa ?_;refine wa (wj i n x ?_);dsimp only;rw[byScan_of J U c];simp only[↓reduceIte];refine wa (wpAny_rule ?_);refine wa (wpAny_setScan_of (knd:=intKind prog w) (k:=k) p i n x c ?_)
 cases O:List.findIdx? (λe=>(intKind prog w).is k e.2) d.toList with
 | none=>
   dsimp only
   have y:k∉ns:=λy=>by
    rw[<-g]at y;obtain⟨e,l,F⟩:=qy y;have V:=List.findIdx?_eq_none_iff.mp O e l;obtain⟨Y,L⟩:=lN c l;rw[L,F]at V;have h2:(intKind prog w).is k (.int k Y)=true:=intKind_is _ _ _ _;grind
   refine wc (wc ?_);have:=h s.heap ns (Heap.SameBut.refl a s.heap) B (by grind)
   ext
 | some j=>
   dsimp only;obtain⟨hj,H,_⟩:=List.findIdx?_eq_some_iff_getElem.mp O
   have r:j<d.size:=by omega
   have T:cK d.toList[j]=k:=Ak H
   have y:k∈ns:=by
    grind
   refine wc ?_;dsimp only;refine wa (wj i n x ?_);dsimp only;rw[Nat.zero_add]
   have m:(SetTable.eraseAt d j).size<scanBound:=by rw[CV r];lia
   refine wa (wpAny_storeSet_of i n ?_ (fits_of_scanBound m));have K:=jS i n (SetTable.eraseAt d j) (t.drop j);have S:=ww s.heap a (Obj.putSet (SetTable.eraseAt d j) (t.drop j));refine wa (wpAny_point (wc ?_));have f:=x;unfold SetTable.fits at f
   have G:j<t.place.size:=by ext
   have b:t.drop j={t with place:=SetTable.eraseAt t.place j,dummies:=SetTable.insertAt t.dummies (SetTable.below t.dummies t.place[j]) t.place[j]}:=by
    unfold SetTable.drop
    ext
   have v:j<ns.length:=by grind
   have Z:ns[j]=k:=by
    (subst_vars;simp)
   have I:(ns.eraseIdx j).Perm (ns.erase k):=by
    have p1:=Al v;grind
   have M:SetI prog w (s.heap.update a (Obj.putSet (SetTable.eraseAt d j) (t.drop j))) a (ns.eraseIdx j):=by
    refine⟨_,SetTable.eraseAt d j,_,t.drop j,K,D,rfl,λe l=>?_,?_,C.sublist (List.eraseIdx_sublist _ _),m,?_,?_⟩
    .rw[uM]at l
     exact c e (List.mem_of_mem_eraseIdx l)
    .rw[uM,<-g,List.eraseIdx_eq_take_drop_succ,List.eraseIdx_eq_take_drop_succ,wu,List.map_take,List.map_drop]
    .rw[b]
     unfold SetTable.fits;unfold SetTable.fill at f ⊢;simp only[Qe,beq_iff_eq,wm,CV G,CV r,Ti]at f ⊢
     ext<;>lia
    .rw[b]
     exact⟨N.1,λz=>Th (N.2 z) j⟩
   grind
theorem CW(g:s.heap.get? a=some o)(f:o.data=.set b j t)(e:t.fits b.size=true)(i:Tab (er w) t)(h:∀(r:Array (Int×Value)) (m:Drawn),r.toList.Perm b.toList->Q r {s with drawn:=m}):wpAny (mZ prog w) A (setWalk a) Q E s:=by
 refine wa (wj g f e (wa (jT ?_)));by_cases l:er w=true
 .rw[if_pos l]
  exact wa (wpAny_askSetting (wc (h _ _ (Lf _ _))))
 .rw[if_neg l]
  have d:er w=false:=by grind
  show wpAny _ _ (if (_&&_)=true then _ else _) _ _ _;by_cases c:(!t.plain&&decide (b.size > 1))=true
  .rw[if_pos c]
   refine wa (Am _ _ _ _ nofun λn m k=>wc ?_);grind
  .rw[if_neg c]
   show wpAny _ _ ((if _ then _ else _)>>=_) _ _ _;rw[if_neg (by rw[i.1 d];simp)];exact wa (wc (wc (h b _ (.refl _))))
def Tn(h:∀a∈q,∃ns,SetI prog w s.heap a ns)(C:Q true s):wpAny (mZ prog w) A (setsQuiet q) Q E s:=by
 refine wa (wpAny_forIn_list _ (λc b L=>b.1=none/\L=s/\∀a∈c,∃ns,SetI _ w _ a ns) _ ?_ ?_ q _ ⟨rfl,rfl,h⟩)
 .rintro a c b L ⟨M,rfl,p⟩
  obtain⟨ns,o,r,I,t,v,D,z,i,_,_,_,y,_⟩:=p a qh;refine wa (wa (wj v z y (wc (wa (MeetsSeq2.wpAny_forIn_array _ (λc b l=>b.1=none/\l=L/\∀e∈c,e∈r.toList) _ ?_ ?_ r _ ⟨rfl,rfl,λe m=>m⟩)))))
  .rintro⟨K,x⟩ j b2 F ⟨f,rfl,g⟩
   obtain⟨N,k⟩:=lN i (g _ qh);have n:=congrArg Prod.snd k;dsimp only at n;rw[n];exact wc ⟨rfl,rfl,λe m=>g e (qg _ m)⟩
  .rintro b2 F ⟨f,rfl,_⟩
   obtain⟨G,B⟩:=b2;subst f;exact wc ⟨rfl,rfl,λa u=>p a (qg _ u)⟩
 .rintro b L ⟨M,rfl,_⟩
  obtain⟨J,H⟩:=b;subst M;exact wc C
theorem To(v:SetI prog w s.heap o ns)(q:SetI prog w s.heap f H)(h:∀(r:Array (Int×Value)) (T:Heap) (S:Drawn),Heap.SameBut f s.heap T->SetI prog w T f H->ElemsOf (intKind prog w) r.toList->(r.toList.map cK).Perm ns->Q r {s with heap:=T,drawn:=S}):
 wpAny (mZ prog w) A (setWalkUnseen o [f] (some f)) Q E s:=by
 have K:=v;obtain⟨O,G,R,t,x,I,y,d,k,J,U,F,D⟩:=v;refine wa (wj x y F (wa (jT ?_)))
 split
 .exact(CW x y F D λr S M=>h r _ S (.refl f _) q (d.perm M) ⋯)
 .refine wa (Tn (λa N=>?_) ?_)
  .grind
  .refine wa (wpAny_rule ?_)
   have p:=q;obtain⟨P,B,L,u,c,i,b,l,j,n,m,e,g⟩:=q;refine wa (wj c b e ?_);dsimp only
   split
   .refine wa (wpAny_storeSet_of c b (wc (h G _ _ (.update _ f _) ⟨_,B,_,_,jS c b B _,i,rfl,l,j,n,m,e,⟨λz=>?_,λz=>?_⟩⟩ d (by rw[k]))) (fits_of_scanBound m))
    .rw[g.1 z,D.1 z]
     rfl
    .have C:=z
     rw[Qe]at C;exact g.2 C.1
   .exact wc (h G _ _ (.refl f _) p d (by rw[k]))
def SetI.nodup(x:SetI prog w h a ns):ns.Nodup:=by
 obtain⟨_,_,_,_,_,_,_,_,_,b,_⟩:=x;exact b
def SetI.type(x:SetI prog w s.heap a ns):s.TypeIs (.ref a) "set":=by
 obtain⟨o,_,_,_,c,b,_⟩:=x;exact⟨o,c,b.1⟩
def SetI.but(x:SetI prog w h a ns)(b:a≠f)(c:Heap.SameBut f h d):SetI prog w d a ns:=x.at λo e=>(c.2 a b).trans e
theorem CY(p:SetI prog w s.heap f i)(b:i.length+1<scanBound)(h:∀v c,Heap.SameBut f s.heap v->SetI prog w v f c->(∀x,x∈c↔¬(x∈i↔x=k))->c.length<=i.length+1->Q () {s with heap:=v}):
 wpAny (mZ prog w) A (holding [.int k u] (do
  if !(<-setDiscardHashed f (.int k u) (hashInt k))then
   let _ <-setAddHashed f (.int k u) (hashInt k))) Q E s:=by
 have q:=p.nodup;refine we (wa (Tj p λr l g e a=>?_));by_cases j:k∈i
 .rw[wn j]
  refine wc (h r l g e (λx=>?_) ?_)
  .grind
  .rw[a.length_eq]
   ext<;>lia
 .rw[wq j]
  rw[List.erase_of_not_mem j]at a;refine wa (K9 e (by rwa [a.length_eq]) λt o m n d=>?_);rw[if_neg (λz=>j (a.mem_iff.mp z))]at d;refine wc (h t o (g.trans m) n (λx=>?_) ?_)
  .grind
  .rw[d.length_eq,qz,a.length_eq]
   ext
def uN(a:SetI prog w s.heap o ns)(h:Q true s):wpAny (mZ prog w) A (Builtin.Frozenset.isAnySet (.ref o)) Q E s:=wa (wpAny_isInstance a.type CK (wc h))
theorem CZ{id:String}(I:o≠f)(v:SetI prog w s.heap o ns)(hF:SetI prog w s.heap f k)(K:k.length+ns.length+1<scanBound)(h:∀h' d' n,Heap.SameBut f s.heap h'->SetI prog w h' f n->(∀x,x∈n↔¬(x∈k↔x∈ns))->Q () {s with heap:=h',drawn:=d' }):
 wpAny (mZ prog w) A (Builtin.Frozenset.symmetricDifferenceUpdate id f (.ref o)) Q E s:=by
 unfold Builtin.Frozenset.symmetricDifferenceUpdate;rw[if_neg (by grind)];refine wa (wpAny_typeOf v.type ?_)
 have c:(.type "set"==Value.type "dict")=false:=by decide
 refine wa (uN v ?_);refine wa (wc ?_);have J:=v;obtain⟨oo,es,ep,t,N,Z,M,X,S,Y,hb,L,ht⟩:=J;refine wa (m:=setEpoch o) ?_;refine wa (wj N M L (wc ?_));dsimp only;refine we ?_;refine wa (To v hF λr h' d' U F p C=>?_)
 refine wa (w4 (MeetsSeq2.wpAny_forIn_array _ (λd _ s'=>∃b c a,s'={s with heap:=c,drawn:=d' }/\Heap.SameBut f _ c/\SetI _ w c f a/\(∀x,x∈a↔¬(x∈k↔x∈b))/\r.toList.map cK=b++d.map cK/\a.length<=k.length+b.length/\∀e∈d,e∈r.toList)
  (λ_ s'=>∃c a,s'={s with heap:=c,drawn:=d' }/\Heap.SameBut f s.heap c/\SetI prog w c f a/\(∀x,x∈a↔¬(x∈k↔x∈ns))) ?_ ?_ r _ ⟨[],h',k,rfl,U,F,by simp,by simp,by simp,λe H=>H⟩) (λ_ s' hs=>?_) λ_ _ e=>e)
 .rintro x d _ s' ⟨b,c,a,rfl,g,i,l,R,T,u⟩
  have W:=u x qh;obtain⟨tk,D⟩:=lN p W
  have q:a.length+1<scanBound:=by
   have e2:=C.length_eq;grind
  rw[D];refine wa (CY i q λP z m B O V=>?_);have G:=((g.trans m).2 o I).trans N;refine wa ?_;refine wa (wa (wj G M L (wc ?_)));rw[if_neg nofun];refine wc (wc ⟨b++[cK x],P,z,rfl,g.trans m,B,λy=>?_,?_,?_,λe H=>u e (qg _ H)⟩)
  .grind
  ·(simp at*;lia)
  (simp;lia)
 .grind
 .obtain⟨c,a,rfl,g,i,l⟩:=hs
  exact wc (h c d' a g i l)
theorem Tp(h:0<=k/\k<1024):0<=hashInt k/\hashInt k<1024:=by
 have e:rawHash k=k:=by
  unfold rawHash;grind
 unfold hashInt
 split<;>ext
def C0:(List.range 64).all (λn=>decide (SetTable.sizeAbove (n*2)∈sizes)&&decide (n<SetTable.sizeAbove (n*2))&&decide (SetTable.sizeAbove (n*2)<=128))=true:=by decide +kernel
theorem C1{a:Array (Int×Value)}{o:Array Nat}(d:o.toList.Perm (List.range a.size)):(o.filterMap (a[·]?)).toList.Perm a.toList:=by
 have c:(o.filterMap (a[·]?)).toList=o.toList.filterMap (a.toList[·]?):=by simp
 have b:(List.range a.size).filterMap (a.toList[·]?)=a.toList:=by
  have:∀l:List (Int×Value),(List.range l.length).filterMap (l[·]?)=l:=λl=>by
   rw[uL λi e=>?_]
   .show List.filterMap (some ∘ λi=>l.getD i (0,.none)) _=_
    refine List.ext_getElem nofun λi c b=>?_;simp[b]
   ext
  grind
 grind
noncomputable abbrev Mp(a:Nat)(t:SetTable):Obj:={cls:=.type "set",dict:=none,data:=.set #[] a t}
theorem C2(b:s.heap.get? f=some (Mp q (.fresh 0 0 led)))(x:n<64)(h:∀h' d t',Heap.SameBut f s.heap h'->h'.get? f=some (Mp d t')->t'.mask+1∈sizes->n<=t'.mask->t'.place=#[]->t'.dummies=#[]->t'.led=led->t'.plain=true->Q () {s with heap:=h' }):wpAny (mZ prog w) A (setRoomFor f n) Q E s:=by
 have a:_=true:=rfl;refine wa (wj b rfl a ?_);dsimp only;by_cases B:21<=n*5
 .have e:(SetTable.fresh 0 0 led).roomFor n=some (n*2):=by
   unfold SetTable.roomFor SetTable.fresh SetTable.fill;simp only[Array.size_empty,Nat.zero_add];rw[if_pos (by omega)]
  rw[e];dsimp only;have c:=List.all_eq_true.mp C0 n (List.mem_range.mpr x);simp only[Qe,wm]at c;obtain⟨⟨m,D⟩,C⟩:=c;refine wa (wj b rfl a ?_);dsimp only;rw[if_neg (by rw[jh];lia)]
  have j:SetTable.sizeAbove (n*2)-1+1=SetTable.sizeAbove (n*2):=by lia
  obtain⟨t',o,l,u,r,v,k,p⟩:=Mo (finger:=0) (led:=led) (plain:=true) (by rw[j];exact m) #[] (Qh _) (λh y=>by simp at y)
  have g:(SetTable.fresh 0 0 led).relaid ((#[]:Array (Int×Value)).map (·.1)) (n*2)=some (t',o):=by
   rw[show(#[]:Array (Int×Value)).map (·.1)=#[] by simp];exact l
  rw[g]
  have i:o=#[]:=by
   have:=u.length_eq;simpa using this
  subst i;have t:=Aj l;refine wpAny_storeSet_of b rfl ?_ nofun;have z:=jS b rfl (#[]) t';exact h _ _ t' (.update s.heap f _) z (by rw[k,j];exact m) (by rw[k];lia) (by simpa using r) v t.2.1 p
 .have e:(SetTable.fresh 0 0 led).roomFor n=none:=by
   unfold SetTable.roomFor SetTable.fresh SetTable.fill;simp only[Array.size_empty,Nat.zero_add];rw[if_neg (by omega)]
  rw[e];refine wc ?_
  have e:s={s with heap:=s.heap}:=by cases s;rfl
  rw[e];exact h s.heap q _ (.refl f s.heap) b (show 8∈sizes by decide) (show n<=7 by lia) rfl rfl rfl rfl
theorem C3{id:String}(T:SetI prog w s.heap o ns)(hk:∀k∈ns,0<=k/\k<1024)(hl:ns.length<64)(h:∀h' V,(∀b x,s.heap.get? b=some x->h'.get? b=some x)->SetI prog w h' (~~~s) V->V.Perm ns->Q (.ref (~~~s)) {s with heap:=h' }):
 wpAny (mZ prog w) A (Builtin.Frozenset.newFrom id (.type "set") (.ref o)) Q E s:=by
 unfold Builtin.Frozenset.newFrom newSet;refine wa (wa (jT ?_));dsimp only;simp only[newObj];refine wa (wpAny_alloc (wc ?_))
 have J:o< ~~~s:=by
  obtain⟨oo,_,_,_,G,_⟩:=T;exact ql G
 generalize W:s.heap.push _=H
 have c:∀b x,s.heap.get? b=some x->H.get? b=some x:=λb x e=>by rw[<-W];exact qe _ e
 have D:H.get? (~~~s)=some {cls:=.type "set",dict:=none,data:=.set #[] 0 (.fresh 0 0 (!er w))}:=by rw[<-W];exact qp _ rfl
 generalize hf:(~~~s)=f at *;have hne:o≠f:=qm J;have C:SetI prog w H o ns:=T.at λx e=>c o x e;refine wa (m:=Builtin.Frozenset.addrOf (.ref f)) (wc ?_);refine wa (we ?_);unfold Builtin.Frozenset.updateFrom;refine wa (uN (s:={s with heap:=H}) C ?_);rw[if_pos rfl];unfold Builtin.Frozenset.merge;have O:=C;obtain⟨oo,a,ep,t,G,hex,U,p,K,r,hb,l,R⟩:=O
 have hsz:a.size=ns.length:=by grind
 refine wa (m:=setEpoch o) ?_;unfold setEpoch;refine wa (wj (s:={s with heap:=H}) G U l (wc ?_));dsimp only;unfold setMerge
 have h1:(f==o)=false:=by grind
 rw[if_neg (by ext)];refine wa (wj (s:={s with heap:=H}) G U l ?_);dsimp only;by_cases i:a.isEmpty=true
 .rw[if_pos i]
  refine wc (wc (h H [] c ⟨_,#[],_,_,D,⟨rfl,rfl,rfl⟩,rfl,λe P=>by simp at P,rfl,.nil,by decide,rfl,.fresh⟩ ?_))
  ext
 .rw[if_neg i]
  refine wa (C2 (s:={s with heap:=H}) D (by ext) λh' ep' t' sb g m1 m2 p1 p2 l1 l2=>?_)
  have j:t'.fits (#[]:Array (Int×Value)).size=true:=by
   unfold SetTable.fits SetTable.fill
   ext
  refine wa (wj (s:={s with heap:=h' }) g rfl j ?_);dsimp only
  have m:∀b x,s.heap.get? b=some x->h'.get? b=some x:=λb x e=>by
   have hb:b≠f:=λz=>by
    have:=ql e
    ext
   exact(sb.2 b hb).trans (c b x e)
  have d:∀(y:Array (Int×Value)) (B:SetTable) b x,s.heap.get? b=some x->(h'.update f (Obj.putSet y B)).get? b=some x:=λy B b x e=>by
   have hb:b≠f:=λz=>by
    have:=ql e
    ext
   exact((ww h' f _).2 b hb).trans (m b x e)
  have n:t'.fill=0:=by
   unfold SetTable.fill
   ext
  unfold SetTable.road;rw[n,if_neg nofun]
  have v:er w=false->(t'.led&&t.led)=true:=λz=>by
   rw[l1,R.1 z,z];rfl
  by_cases Y:(t'.mask==t.mask&&t.dummies.isEmpty)=true
  .rw[if_pos Y]
   dsimp only;refine wpAny_storeSet_of (s:={s with heap:=h' }) g rfl ?_ (fits_of_scanBound hb);have M:=jS g rfl a {t with finger:=t'.finger,led:=t'.led&&t.led,moves:=t'.moves,plain:=t'.plain&&t.plain};refine wc (h _ ns (d _ _) ⟨_,a,_,_,M,⟨rfl,rfl,rfl⟩,rfl,p,K,r,hb,l,v,λz=>?_⟩ (.refl _));have X:(t'.plain&&t.plain)=true:=z;rw[Qe]at X;exact R.2 X.2
  .rw[if_neg Y]
   dsimp only
   obtain⟨B,q,e1,e2,e3,e4,e5,e6⟩:=Mo (mask:=t'.mask) (finger:=t'.finger) (moves:=t'.moves) (led:=t'.led&&t.led) (plain:=t'.plain&&t.plain) m1 (a.map (·.1)) (by ext) (λx S=>by
    rw[Array.toList_map]at S;obtain⟨e,P,rfl⟩:=qy S;obtain⟨tk,het⟩:=lN p P
    have I:cK e∈ns:=by grind
    have:=Tp (hk _ I)
    grind)
   rw[e1];have L:=Aj e1
   have N:q.toList.Perm (List.range a.size):=by grind
   have Z:=C1 N
   have hsz2:(q.filterMap (a[·]?)).size=a.size:=by rw[<-qj,Z.length_eq,qj]
   refine wa ?_;show wpAny _ _ (if ((q.filterMap (a[·]?)).size != a.size)=true then _ else _) _ _ _;rw[if_neg (by ext)];refine wc ?_;dsimp only
   have u:(q.filterMap (a[·]?)).size<scanBound:=by ext
   refine wpAny_storeSet_of (s:={s with heap:=h' }) g rfl ?_ (fits_of_scanBound u);have M:=jS g rfl (q.filterMap (a[·]?)) B
   have F:((q.filterMap (a[·]?)).toList.map cK).Perm ns:=by grind
   refine wc (h _ _ (d _ _) ⟨_,_,_,B,M,⟨rfl,rfl,rfl⟩,rfl,p.perm Z,rfl,F.nodup_iff.mpr r,u,?_,⟨λz=>by ext,λ_=>L.1⟩⟩ F);unfold SetTable.fits SetTable.fill
   ext
theorem Tq:entryFor table "set.__xor__"=some Builtin.«frozenset.__xor__»:=
 entryFor_alias (id':="frozenset.__xor__") (by kernel_rfl) (by first|rfl|decide +kernel|(unfold String.splitOn)) (by decide +kernel) (by kernel_rfl)
theorem C4(G:SetI prog w s.heap a ns)(j:SetI prog w s.heap b g)(q:∀k∈g,0<=k/\k<1024)(t:g.length<64)(u:ns.length<64)(h:∀I H f,(∀c x,s.heap.get? c=some x->I.get? c=some x)->SetI prog w I (~~~s) f->(∀x,x∈f↔¬(x∈g↔x∈ns))->Q (.ref (~~~s)) {s with heap:=I,drawn:=H}):
 wpAny (mZ prog w) A (binaryOp .BitXor (.ref a) (.ref b)) Q E s:=by
 refine wpAny_binaryOp_same G.type j.type F.fills_set_xor F.slot_set_xor (wg F.slot_set_xor G.type Tq (wa (wpAny_of_eq rfl (wa (wa (uN G (uN j (wa (wc (wa (wa (wa (wpAny_isInstance G.type CK (wc (wa (C3 j q t λD f m p v=>?_))))))))))))))) (F.args_set_xor_2 _ _))
 have d:a< ~~~s:=by
  obtain⟨C,_,_,_,y,_⟩:=G;exact ql y
 have r:scanBound=4096:=rfl;refine wa (wc (wa (we (CZ (qm d) (G.at λx e=>m a x e) p (by rw[v.length_eq];lia) λo H i n l B=>wc (wc ⟨_,rfl,(λz=>nomatch z),h o H i (λc x e=>?_) l λx=>?_⟩)))))
 .exact(n.2 c (qm (ql e))).trans (m c x e)
 grind
end
section
variable {σ:L2.St}{H:Hp}{s:Shared}
def C5(P:P7)(w:World):V->V->Hp->VK->Prop:=λx y H Q=>∃a b e c,x=.ref a/\y=.ref b/\H a=some (dq P w a e)/\H b=some (dq P w b c)/\(∀k∈c,0<=k/\k<1024)/\c.length<64/\e.length<64/\
 ∀p d,H p=none->d.Nodup->(∀x,x∈d↔¬(x∈c↔x∈e))->Q (.ref p) (upd H p (dq P w p d))
def op_xor:br X (binaryOp .BitXor) (C5 X.prog X.w):=by
 intro o s w H x y v u Q I j m h;obtain⟨a,b,t,n,rfl,rfl,p,g,f,k,d,q⟩:=h;cases j;cases m
 exact C4 ((I.hok a _ p).1) ((I.hok b _ g).1) f k d λz r i c e l=>⟨.ref _,_,.laid (I.dr r) c (qv _) (CM e),rfl,q _ i (I.hok.fresh (qv _)) e.nodup l⟩
end
theorem eF:∀(l a:AF) (x:Int),x∈aR a l↔x∈a\/x∈l
 | [],a,x=>by simp[aR]
 | k::l,a,x=>by
   rw[aR,eF];grind
theorem ky:∀(l a:AF),a.Nodup->(aR a l).Nodup
 | [],_,h=>h
 | k::l,a,h=>by
   refine ky l _ ?_;symm
def dO(a b:AF):AF:=(aR [] b).filter (λx=>!(a.contains x))++(aR [] a).filter (λx=>!(b.contains x))
def Mr:x∈dO a b↔¬(x∈b↔x∈a):=by
 unfold dO;rw[List.mem_append,Ql,Ql,eF,eF];by_cases c:x∈a<;>by_cases d:x∈b<;>simp[c]
theorem C6(a b:AF):(dO a b).Nodup:=by
 unfold dO;rw[List.nodup_append];refine⟨(ky b [] .nil).filter _,(ky a [] .nil).filter _,λx e y d z=>?_⟩;have c:=Qc d;rw[eF]at c;grind
def iu(l m:AN):Option AN:=(intsD l).bind λa=>(intsD m).bind λb=>
 if a.length<4000/\b.length<4000/\(aR [] a).length<64/\(aR [] b).length<64/\(b.all λk=>decide (0<=k/\k<1024))=true/\(dO a b).length<64 then some ((c6 (dO a b)).map .int)else none
section
variable {e e2:Expr}{f:AU}{p:Pos}
def uO(f f2:AU):AV:=λa=>(b1 f Yc a).bind λl=>(b1 f2 Yc a).bind λm=>iu l m
@[simp] theorem kz:uO f f2 ρ=((f ρ).bind Yc).bind λl=>((f2 ρ).bind Yc).bind λm=>iu l m:=uJ rfl
end
section
variable {w:World}{A:Around}{E:AA}{s:Shared}
structure Ts(w:World)(h:Heap)(a:Addr)(us:List (Int×Addr)):Prop where
 ex:∃o es ep t,h.get? a=some o/\o.ExactSet/\o.data=.set es ep t/\es.toList=us.map (λu=>(u.1,Value.ref u.2))/\t.fits es.size=true/\t.mask=7/\t.dummies=#[]/\t.place.toList=us.map (λu=>SetTable.bits u.1%8)/\Tab (er w) t
end
noncomputable def C7(mask:Nat)(p:SetTable.Probe):SetTable.Probe:=SetTable.advance {mask:=mask,place:=#[],dummies:=#[],finger:=0,led:=false,moves:=0,plain:=false} p
noncomputable def C8(mask:Nat):Nat->SetTable.Probe->SetTable.Probe
 | 0,p=>p
 | k+1,p=>C8 mask k (C7 mask p)
noncomputable def Tt(mask i perturb:Nat):SetTable.Probe:={j:=i,more:=SetTable.runEnd mask i-i,i,perturb,dummy:=none}
def Tu(mask:Nat)(a:Nat->Prop)(p:SetTable.Probe)(j:Nat):Prop:=∃k,(C8 mask k p).j=j/\∀m,m<k->a (C8 mask m p).j
abbrev Tv(mask:Nat)(h:Int):SetTable.Probe:=Tt mask (SetTable.bits h%(mask+1)) (SetTable.bits h)
section
variable {t:SetTable}{hA:Nat->Int}{h:Int}
structure o6(t:SetTable)(n:Nat):Prop where
 hs:t.mask+1∈sizes
 dm:t.dummies=#[]
 rise:cn t.place
 le:∀j∈t.place.toList,j<=t.mask
 sz:t.place.size=n
 room:n<=t.mask
end
def bI(b:Bool):Int:=if b then 1 else 0
def bH(a:AG):Int:=nJ (a.map bI)
def C9(h:Heap)(u:Addr)(a:AG):Prop:=a.length<=4/\∃o n,h.get? u=some o/\o.cls=.type "tuple"/\o.data=.seq (a.map .bool).toArray n
structure Tw(w:World)(h:Heap)(S:Addr)(us:List (Addr×AG)):Prop where
 ex:∃o es ep t,h.get? S=some o/\o.ExactSet/\o.data=.set es ep t/\es.toList.Perm (us.map λu=>(bH u.2,Value.ref u.1))/\t.fits es.size=true/\o6 t es.size/\Tab (er w) t/\es.size*5<t.mask*3/\∀q∈es.toList.zip t.place.toList,Tu t.mask (·∈t.place.toList) (Tv t.mask q.1.1) q.2
 keys:(us.map (·.2)).Nodup
 tups:∀u∈us,C9 h u.1 u.2
 few:us.length<=24
section
variable {n:Nat}{key:Nat->Nat}{cmp:Nat->Nat->(Bool->Shared->Prop)->Shared->Prop}{s:Shared}
variable (hinj:∀i j,i<n->j<n->key i=key j->i=j)(hc:∀i j (C:Bool->Shared->Prop),i<n->j<n->C (decide (key i<key j)) s->cmp i j C s)
include hinj hc
omit hinj hc in
omit hinj hc in
omit hinj hc in
end
section
variable {e:Expr}{f:AU}{p:Pos}
noncomputable def kA(f:AU):AR:=λa=>(f a).map λ_=>.nx a
@[simp] theorem uP{ρ:Ro}:kA f ρ=(f ρ).map λ_=>.nx ρ:=uJ rfl
def o7:D->D->Option D
 | .tup a,.tup b=>if a.length+b.length<=ax then some (.tup (a++b))else none
 | _,_=>none
def C_(K:W7):R2:=λx y H Q=>∃a b c d,x=.ref a/\y=.ref b/\SqT K H a c/\SqT K H b d/\c.length+d.length<=sizeLine/\
 (c=[]->Q (.ref b) H)/\(c≠[]->d=[]->Q (.ref a) H)/\(c≠[]->d≠[]->∀p,H p=none->Q (.ref p) (upd H p (.tup (c++d))))
def Da:br X (binaryOp .Add) (C_ X.K):=by
 intro t s J H x y v u Q I A k h;obtain⟨a,b,o,G,rfl,rfl,z,B,R,D,F,M⟩:=h;by_cases d:o=[]
 .cases A
  cases k;obtain⟨L,C,S,_⟩:=I.tuple z;obtain⟨r,U,O,_⟩:=I.tuple B;obtain⟨⟨K,E,m,N⟩,q,l,n,w⟩:=S;obtain⟨⟨p,i,data2,j⟩,f,g,T,e⟩:=O;simp at l w g e;subst l w g e
  exact concat_meets ⟨_,q,rfl⟩ ⟨_,f,rfl⟩ noFill_tuple_add seq_tuple_add PySem.F.slot_tuple_add PySem.F.entry_tuple_add (PySem.F.args_tuple_add_2 _ _)
   (tuple_addW0 a b _ _ n T E i N j (by simp[C.nil_iff.mpr d])) ⟨q,f,⟨.ref b,H,I,rfl,D d⟩⟩
 .exact zT _ s J H _ _ _ _ Q I A k ⟨a,b,o,G,rfl,rfl,z,B,d,R,F d,M d⟩
@[simp] theorem l6(a b:AN):o7 (.tup a) (.tup b)=if a.length+b.length<=ax then some (.tup (a++b))else none:=uJ rfl
end
structure ZE(X:Cx)(e:Expr)(f:AU):Prop where
 un:ME X e f
structure ZC(X:Cx)(e:Expr)(f:AU):Prop where
 un:MC X e f
structure i9(X:Cx)(es:AK)(f:AV):Prop where
 un:tX X es f
structure ZF(X:Cx)(e:Expr)(f:AV):Prop where
 un:MF X e f
structure ZT(X:Cx)(e:Expr)(f:AT):Prop where
 un:MT X e f
structure ZW(X:Cx)(e:Expr)(f:AT):Prop where
 un:MW X e f
structure ZA(X:Cx)(es:AK)(f:AV):Prop where
 un:MA X es f
structure ZI(X:Cx)(tg iter:Expr)(f:AV):Prop where
 un:MI X tg iter f
structure ZS(X:Cx)(st:Stmt)(f:AR):Prop where
 un:MS X st f
structure ZB(X:Cx)(sts:List Stmt)(f:AR):Prop where
 un:MB X sts f
structure ZG(X:Cx)(tg:Expr)(gt:AS):Prop where
 un:MG X tg gt
structure gg(X:Cx)(K:W7)(ifs:AK)(f:AT):Prop where
 un:d5 X ifs (tTof K f)
structure ZO(X:Cx)(e:Option Expr)(f:Option AU):Prop where
 un:PO X e (tO X.K f)
structure ZP(X:Cx)(pos:Pos)(keys:List (Option Expr))(values:AK)(ks:AJ)(fs:List AU):Prop where
 un:MP X pos keys values ks fs
section
variable {H0 G0 H G:Hp}{σ:L2.St}{ρ:Ro}{a b c e:Expr}{fb fc f:AU}{ga:AV}
def Yo(h:ZE X e f):ZC X e f:=⟨ME.mc h.un⟩
theorem dB(i:Nat)(n:X.N[i]?=some x:=by rfl)(k:eW X.env.scope x:=by trivial)(l:cu x:=by decide)(g:fS x:=by decide):ZE X (.Name x pos) (ab i):=⟨
 PE.imp (gC n k l g) λc H Q j=>by
  obtain⟨f,d,b,a,G,e,s,h⟩:=j;obtain⟨v,o,m⟩:=s.sh i d (Lm e)
  exact⟨v,o,h v H G (.refl s.seen) m⟩⟩
theorem Yi(i:Nat)(r:X.N[i]?=some x:=by rfl)(w:eW X.env.scope x:=by trivial)(z:cu x:=by decide)(m:fS x:=by decide):ZC X (.Name x pos) (aa i):=⟨
 PE.imp (gC r w z m) λD H Q o=>by
  obtain⟨E,d,F,B,G,e,s,h⟩:=o;unfold aa at e
  split at e
  .rename_i C k
   cases e;obtain⟨v,g,j⟩:=s.sh i _ k;exact⟨v,g,h v H G (.refl s.seen) (.of s.seen j)⟩
  .rename_i l n
   cases e;obtain⟨a,c,g,j,y,p,q⟩:=s.ow i l n;exact⟨_,g,h _ H G (.refl s.seen) (⟨a,c,rfl,.inl p,q⟩)⟩
  .rename_i t f b n
   cases e;obtain⟨a,u,A,g,j,y,p,q⟩:=s.od i t f b n;exact⟨_,g,h _ H G (.refl s.seen) (by rw[Ct];grind)⟩
  .cases e⟩
def dC{j}:ZE X (.Constant (.int i) j pos) (aaa i):=⟨nN⟩
def uQ{j}:ZE X (.Constant (.bool k) j pos) (kD (.bl k)):=⟨Aw⟩
def Ms{j}:ZE X (.Constant .none j pos) (kD .non):=⟨Ax⟩
theorem i_{j}(g:PyData.strOk x=true:=by decide +kernel):ZE X (.Constant (.str x) j pos) (kD (.str x)):=⟨nM mS (λ_ _ _ q=>q) λ_=>by rw[Rp];grind⟩
def uR(d:ZC X a fa)(c:ZC X b fb):ZE X (.BinOp a .Sub b pos) (b2 fa fb eZ):=⟨have d:=d.un;have c:=c.un;lO yU Ln d c⟩
def De(d:ZC X a fa)(c:ZC X b fb):ZE X (.BinOp a .Mult b pos) (b2 fa fb fZ):=⟨have d:=d.un;have c:=c.un;lO yV (t4 λi j h=>by
 simp only[Bool.or_eq_true,Qe,wm]at h
 exact h) d c⟩
def uS(d:ZC X a fa)(c:ZC X b fb):ZE X (.BinOp a .FloorDiv b pos) (b2 fa fb dg):=⟨have d:=d.un;have c:=c.un;lO yW (t4 λi j h=>by
 simp [wm]at h
 exact h) d c⟩
def gh(d:ZC X a fa)(c:ZC X b fb):ZE X (.BinOp a .Mod b pos) (b2 fa fb a8):=⟨have d:=d.un;have c:=c.un;lO yX (t4 λi j h=>wt h) d c⟩
def Df(d:ZC X a fa)(c:ZC X b fb):ZE X (.Compare a [.GtE] [b] pos) (mB (b2 fa fb AO)):=⟨have d:=d.un;have c:=c.un;jW zb nP d c (fV _)⟩
def Dg(d:ZC X a fa)(c:ZC X b fb):ZT X (.Compare a [.Lt] [b] pos) (b2 fa fb gE):=⟨have d:=d.un;have c:=c.un;eQ m7 nP d c (fV _)⟩
def Dh(d:ZC X a fa)(c:ZC X b fb):ZT X (.Compare a [.Gt] [b] pos) (b2 fa fb AI):=⟨have d:=d.un;have c:=c.un;eQ za nP d c (fV _)⟩
def o8(g:X.A.units+64<cLine)(d:ZC X a fa)(c:ZC X b fb):ZE X (.Compare a [.Eq] [b] pos) (mB (b2 fa fb (aI false))):=⟨have d:=d.un;have c:=c.un;jW (nR g) t5 d c (fV _)⟩
def Di(g:X.A.units+64<cLine)(d:ZC X a fa)(c:ZC X b fb):ZE X (.Compare a [.NotEq] [b] pos) (mB (b2 fa fb (aI true))):=⟨have d:=d.un;have c:=c.un;jW (nT g) t5 d c (fV _)⟩
def gJ(g:X.A.units+64<cLine)(d:ZC X a fa)(c:ZC X b fb):ZT X (.Compare a [.Eq] [b] pos) (b2 fa fb (aI false)):=⟨have d:=d.un;have c:=c.un;eQ (nR g) t5 d c (fV _)⟩
def Dj(g:X.A.units+64<cLine)(d:ZC X a fa)(c:ZC X b fb):ZT X (.Compare a [.NotEq] [b] pos) (b2 fa fb (aI true)):=⟨have d:=d.un;have c:=c.un;eQ (nT g) t5 d c (fV _)⟩
def Dk(g:X.A.units+64<cLine)(d:ZC X a fa)(c:ZC X b fb)(h:behindInMarks .In b=false:=by with_unfolding_all rfl):ZE X (.Compare a [.In] [b] pos) (mB (b2 fa fb (dV false))):=⟨have d:=d.un;have c:=c.un;jW (nU g) A3 d c h⟩
def Dl(g:X.A.units+64<cLine)(d:ZC X a fa)(c:ZC X b fb)(h:behindInMarks .In b=false:=by with_unfolding_all rfl):ZT X (.Compare a [.In] [b] pos) (b2 fa fb (dV false)):=⟨have d:=d.un;have c:=c.un;eQ (nU g) A3 d c h⟩
def Mt(g:X.A.units+64<cLine)(d:ZC X a fa)(c:ZC X b fb)(h:behindInMarks .NotIn b=false:=by with_unfolding_all rfl):ZT X (.Compare a [.NotIn] [b] pos) (b2 fa fb (dV true)):=⟨have d:=d.un;have c:=c.un;eQ (R6 g) A3 d c h⟩
end
section
variable {a b c e:Expr}{fb f fe:AU}{fc fd:AT}{ga:AV}{p pt:Pos}{x:Str}{id T:String}{r:AM->Hp->VK->Prop}{g:AN->Option D}{gf:AN->Option AN}{fs gs:AR}{N:AJ}{src:List AL}{gt:AS}{P:P7}{w:World}{ta:TA}
def Dm(j:ZC X a fa)(o:∀i,isTrue a X.env i=(do let v <-i;standAt a.pos;holding [v] (truthy v)):=by intro _;rfl):ZT X a (b1 fa aQ):=⟨have j:=j.un;
 PT.imp (Q8 j o) λc H Q l=>by
  obtain⟨b,k,A,B,G,e,s,h⟩:=l;obtain⟨d,t,u⟩:=dU e
  exact tCof.at t s λv y m n q z=>⟨k,A4 u q,h y m n⟩⟩
def Dn(d:ZT X a fc):ZW X (.BoolOp .And [a] pos) fc:=⟨have d:=d.un;yi d⟩
def Do(d:ZT X a fc):ZW X (.BoolOp .Or [a] pos) fc:=⟨have d:=d.un;yj d⟩
def Dp(d:ZT X a fc)(c:ZW X (.BoolOp .And (b::rest) pos) fd):ZW X (.BoolOp .And (a::b::rest) pos) (b_ fc fd):=⟨have d:=d.un;have c:=c.un;PW.imp (yk d c) λ_ _ _ h=>A5 h⟩
def o9(d:ZT X a fc)(c:ZW X (.BoolOp .Or (b::rest) pos) fd):ZW X (.BoolOp .Or (a::b::rest) pos) (f6 fc fd):=⟨have d:=d.un;have c:=c.un;PW.imp (ym d c) λ_ _ _ h=>A6 h⟩
def Dq(i:ZT X a fc):ZT X (.UnaryOp .Not a pos) (d8 fc):=⟨have i:=i.un;PT.imp (yn i) λc H Q d=>by
 obtain⟨b,k,t,q,G,e,s,h⟩:=d;obtain⟨o,j,rfl⟩:=qc e
 exact tTof.at j s λm n l _=>h m n l⟩
def Ds(d:ZE X a fa):ZE X (.BoolOp .And [a] pos) fa:=⟨have d:=d.un;yq d⟩
def Dt(j:ZE X a fa)(c:ZE X (.BoolOp .And (b::rest) pos) fb):ZE X (.BoolOp .And (a::b::rest) pos) (ey fa fb):=⟨have j:=j.un;have c:=c.un;PE.imp (yr j c) λg H Q i=>by
 obtain⟨f,d,F,I,G,e,s,h⟩:=i;obtain⟨k,A,e⟩:=qa e;obtain⟨E,y,q⟩:=dU A;cases Lp q
 refine tOf.at y s λv C m l t n=>⟨k,t,?_⟩
 cases k with
 | true=>
   exact tOf.at e n λw u B z o _=>h w u B (l.trans z) o
 | false=>
   cases e
   exact h _ C m l (by rw[Rp])⟩
def Du(j:ZE X a fa):ZE X (.UnaryOp .Not a pos) (hY fa):=⟨have j:=j.un;PE.imp (yt j) λc H Q i=>by
 obtain⟨b,d,y,B,G,e,s,h⟩:=i;obtain⟨k,u,rfl⟩:=qc e;obtain⟨A,q,m⟩:=dU u;cases Lp m
 exact tOf.at q s λv t l n o z=>⟨k,o,h _ t l n (by rw[Rp])⟩⟩
def Dv(m:ZT X c fc)(i:ZE X a fa)(f:ZE X b fb):ZE X (.IfExp c a b pos) (i0 fc fa fb):=⟨have m:=m.un;have i:=i.un;have f:=f.un;PE.imp (QT m i f) λp H Q q=>by
 obtain⟨g,d,y,B,G,e,s,h⟩:=q;obtain⟨k,v,e⟩:=qa e;refine tTof.at v s λz A u t=>?_
 cases k with
 | true=>
   exact tOf.at e t λw j n o l _=>h w j n (u.trans o) l
 | false=>
   exact tOf.at e t λw j n o l _=>h w j n (u.trans o) l⟩
def Dw(d:ZC X a fa)(c:ZC X b fb):ZE X (.Compare a [.IsNot] [b] pos) (mB (b2 fa fb (bU true))):=⟨have d:=d.un;have c:=c.un;jW Kn Lr d c (fV _)⟩
def Dx(d:ZC X a fa)(c:ZC X b fb):ZT X (.Compare a [.Is] [b] pos) (b2 fa fb (bU false)):=⟨have d:=d.un;have c:=c.un;eQ zc A7 d c (fV _)⟩
def Dy(d:ZC X a fa)(c:ZC X b fb):ZT X (.Compare a [.IsNot] [b] pos) (b2 fa fb (bU true)):=⟨have d:=d.un;have c:=c.un;eQ Kn Lr d c (fV _)⟩
def kB(c:ZC X a fa)(d:ZC X b fb)(hs:jO b:=by intro _ _;rfl):ZE X (.Subscript a b pos) (b2 fa fb ao):=⟨Ls c.un d.un hs⟩
def Mu{lo A:Option Expr}(y:ZC X a fa)(k:ZO X lo fl)(o:ZO X A fh):ZF X (.Subscript a (.Slice lo A none p2) pos) (t6 fa fl fh):=⟨have y:=y.un;have k:=k.un;have o:=o.un;
 PE.imp (KU KZ y k o) λD H Q m=>by
  obtain⟨c,l,f,U,G,e,s,h⟩:=m;obtain⟨W,L,e⟩:=qa e;obtain⟨i,O,e⟩:=qa e;obtain⟨j,F,e⟩:=qa e;cases e;obtain⟨d,J,S⟩:=dU L;refine tCof.at J s λv w Y B R E=>h8 O E λZ r t M=>h8 F M λx I u C=>?_;obtain⟨p,b,rfl,g,z⟩:=Lu S ((R.grow t).grow u);refine⟨p,b,rfl,g,λq n=>h q _ _ I (((B.trans t).trans u).trans (.hid C.seen n _)) (B.h.free (t.h.free (u.h.free n))) (C.seen.free n) Yg ?_⟩;unfold bN el;rw[z.length]
  exact(z.drop _).take _⟩
def o_ :ZO X none none:=⟨A_⟩
def pa(h:ZC X e f):ZO X (some e) (some f):=⟨have h:=h.un;zP h⟩
def kC{g:AV}(h:ZF X e g):ZE X e (lF g):=⟨MF.me h.un⟩
def dX :ZA X [] ae:=⟨Ba⟩
def Ym(d:ZE X e f)(h:ZA X es ga)(hs:aab X e es:=by rfl):ZA X (e::es) (Yb f ga):=⟨Bb d.un h.un hs⟩
def fy :i9 X [] ae:=⟨i3⟩
def eS(d:ZC X e f)(h:i9 X es ga)(hs:aab X e es:=by rfl):i9 X (e::es) (Yb f ga):=⟨i4 d.un h.un hs⟩
theorem pb{x1}(h:ZA X es ga):ZE X (.Tuple es x1 pos) (ar ga):=⟨have h:=h.un;PE.imp (zq h) λb H Q i=>by
 obtain⟨c,d,u,t,G,e,s,h⟩:=i;obtain⟨l,n,e⟩:=qa e
 split at e
 .cases e
  exact tAof.at n s λa q v o j k=>⟨by rw[j.length];exact f7 (by assumption),λp m=>h _ _ _ (o.trans (.new k.seen m _)) (⟨p,a,rfl,Yg,j.mono (Gr.new k.seen m _).g⟩)⟩
 .cases e⟩
def Mv(h:ZA X es ga):ZF X (.List es pos) (bE ga):=⟨nV h.un⟩
theorem ji(l:dA X (.builtin id) r)(q:dM X.K r g)(m:Gl X x)(n:X.mg x=none)(k:bootBuiltins x=some (.builtin id))(j:i9 X (e::es) ga)(o:x≠"__name__":=by decide)(d:cu x:=by decide)(s:aab X e es:=by rfl)(i:aac X pos es:=by rfl):ZE X (.Call (.Name x p) (e::es) [] pos) (cC ga g):=⟨have j:=j.un;
 PE.imp (nk l m n k j o d s i) λ_ _ _ h=>nW q h⟩
theorem l7(l:dA X (.builtin id) r)(q:ew X.K r gf)(m:Gl X x)(n:X.mg x=none)(k:bootBuiltins x=some (.builtin id))(j:i9 X (e::es) ga)(o:x≠"__name__":=by decide)(d:cu x:=by decide)(s:aab X e es:=by rfl)(i:aac X pos es:=by rfl):ZF X (.Call (.Name x p) (e::es) [] pos) (cF ga gf):=⟨have j:=j.un;
 PE.imp (nk l m n k j o d s i) λ_ _ _ h=>Lv q h⟩
theorem pd(l:dA X (.type T) r)(q:dM X.K r g)(m:Gl X x)(n:X.mg x=none)(k:bootBuiltins x=some (.type T))(j:i9 X (e::es) ga)(o:x≠"__name__":=by decide)(d:cu x:=by decide)(s:aab X e es:=by rfl)(i:aac X pos es:=by rfl):ZE X (.Call (.Name x p) (e::es) [] pos) (cC ga g):=⟨have j:=j.un;
 PE.imp (iW l m n k j o d s i) λ_ _ _ h=>nW q h⟩
theorem Mw(l:dA X (.type T) r)(q:ew X.K r gf)(m:Gl X x)(n:X.mg x=none)(k:bootBuiltins x=some (.type T))(j:i9 X (e::es) ga)(o:x≠"__name__":=by decide)(d:cu x:=by decide)(s:aab X e es:=by rfl)(i:aac X pos es:=by rfl):ZF X (.Call (.Name x p) (e::es) [] pos) (cF ga gf):=⟨have j:=j.un;
 PE.imp (iW l m n k j o d s i) λ_ _ _ h=>Lv q h⟩
def jj :ZB X [] aw:=⟨Bf⟩
def fJ(l:ZS X st fs)(m:ZB X sts gs):ZB X (st::sts) (ag fs gs):=⟨have l:=l.un;have m:=m.un;PSs.imp (Kf l m) λF r H n=>by
 obtain⟨b,c,i,j,G,e,s,h⟩:=n;obtain⟨o,k,e⟩:=qa e
 cases o with
 | nx a=>exact⟨b,.nx a,i,j,G,k,s,λf q p g=>⟨a,c,i,j,p,e,g,h⟩⟩
 | rt d=>cases e;exact⟨b,.rt d,i,j,G,k,s,h⟩
 | bk a=>cases e;exact⟨b,.bk a,i,j,G,k,s,h⟩
 | ct a=>cases e;exact⟨b,.ct a,i,j,G,k,s,h⟩⟩
def gK(d:ZS X st fs):ZB X [st] fs:=⟨have d:=d.un;Kg d⟩
def Mx(i:AE)(h:ZS X st fs):ZS X st (wF i fs):=⟨have h:=h.un;PS.imp h λF g H d=>by
 obtain⟨b,a,k,j,G,e,s,h⟩:=d;obtain⟨f,c⟩:=SR.frz i s
 exact⟨frz i b,a,k,j,f,e,c,h⟩⟩
theorem gL(i:Nat)(a:X.N.Nodup)(g:ZE X e f)(c:X.N[i]?=some x:=by rfl)(b:c9 X.env.scope x:=by trivial)(hs:swapsWith e (some (.Name x pos')) pos.line X.env=pure false:=by rfl)(d:aae X x:=by trivial):ZS X (.Assign [.Name x pos'] e pos) (aq i f):=⟨n0 i a g.un c b hs d⟩
theorem Dz(i:Nat)(j:X.N.Nodup)(d:ZF X e gl)(k:X.N[i]?=some x:=by rfl)(m:c9 X.env.scope x:=by trivial)(hs:swapsWith e (some (.Name x pos')) pos.line X.env=pure false:=by rfl)(l:aae X x:=by trivial):ZS X (.Assign [.Name x pos'] e pos) (bb i gl):=⟨have d:=d.un;PS.imp (jI j k m d hs l) λ_ _ _ h=>Bh h⟩
def l8(j:ZE X e f):ZS X (.Return (some e) pos) (ah f):=⟨have j:=j.un;PS.imp (mU j) λF c H i=>by
 obtain⟨b,a,q,u,G,e,s,h⟩:=i;obtain⟨d,l,rfl⟩:=qc e
 exact tOf.at l s λv o k t n m=>h v o k m.gr n⟩
def jk{a b:List Stmt}(d:ZT X c fc)(i:ZB X a fs)(g:ZB X b gs):ZS X (.If c a b pos) (aV fc fs gs):=⟨have d:=d.un;have i:=i.un;have g:=g.un;PS.imp (mV d i g) λF r H j=>by
 obtain⟨p,f,l,n,G,e,s,h⟩:=j;obtain⟨k,q,e⟩:=qa e;refine tTof.at q s λt o u m=>?_
 cases k with
 | true=>
   exact⟨p,f,l,n,o,e,m,h⟩
 | false=>
   exact⟨p,f,l,n,o,e,m,h⟩⟩
theorem DA(i:Nat)(d:X.N.Nodup)(a:ZC X e f)(m:X.N[i]?=some x:=by rfl)(w:c9 X.env.scope x:=by trivial)(I:X.fn x=true\/X.env.scope.names.lookup x=some .local:=by trivial):ZS X (.AugAssign (.Name x pos') .Add e pos) (j4 i f):=⟨have a:=a.un;PS.imp (yJ d m w a yK) λF E H b=>by
 obtain⟨K,A,D,L,G,e,s,h⟩:=b;obtain⟨c,n,e⟩:=qa e;obtain⟨o,C,e⟩:=qa e;obtain⟨y,g,rfl⟩:=qc e;obtain⟨v,j,B⟩:=s.sh i c (Lm n);refine⟨v,j,tCof.at C s λu z t J k r=>?_⟩
 have l:∃p q,c=.int p/\o=.int q/\y=.int (p+q):=by
  unfold i2 at g;grind
 obtain⟨p,q,rfl,rfl,rfl⟩:=l
 exact⟨p,q,B,k,h _ z t (r.set_sh i (by rw[Rp]))⟩⟩
abbrev pe(X:Cx)(c:Pos)(l:AK):Prop:=((backTo c (starEach l X.env)).all (λx=>!x.1)&&(backToKw c (keywordEach [] X.env)).all (λx=>x.1.isSome)&&decide (l.length+([]:List Keyword).length+(if ([]:List Keyword).isEmpty then 0 else 1)<30))=true
theorem My(i:Nat){o k j:Pos}(y:ZE X e f)(W:X.N[i]?=some x:=by rfl)(S:eW X.env.scope x:=by trivial)(Q:cu x:=by decide)(A:fS x:=by decide)(z:swapsWith (.Call (.Attribute (.Name x o) "append" k) [e] [] j) none pos.line X.env=pure false:=by rfl)(hs:aad X e:=by rfl)(q:pe X j [e]:=by rfl)(n:(k.endLine==j.line)=true:=by rfl)(m:attributeBase (.Name x o) "append" X.env (eval (.Name x o) X.env)=eval (.Name x o) X.env:=by rfl):ZS X (.Expr (.Call (.Attribute (.Name x o) "append" k) [e] [] j) pos) (cW i f cb):=⟨have y:=y.un;
 PS.imp (lG (nB PySem.F.plainAttrs_list PySem.F.slot_list_append PySem.F.type_list_append z3 (gC W S Q A) (fX y fW hs) m q n hs rfl) z) λF g H u=>by
  obtain⟨K,p,D,r,G,e,s,h⟩:=u;obtain⟨l,C,e⟩:=qa e;obtain⟨d,R,e⟩:=qa e;obtain⟨w,t,rfl⟩:=qc e;unfold cb at t
  split at t
  .rename_i U
   cases t;obtain⟨a,c,E,I,B,Y⟩:=n3 s C;refine⟨_,E,.inl ⟨rfl,c,.of I⟩,tOf.at R s λv Z O J M L=>⟨a,c,v,rfl,rfl,J.h _ _ I,?_,h g _ O (L.mut (Av C) E ((B.mono J.g).append (.one M)))⟩⟩;rw[B.length];exact Qi U (f7 (qv _))
  .cases t⟩
theorem DB(C:ZE X l f):ZI X tg l (b1 f Yc):=⟨have C:=C.un;PI.imp (Bj C) λK H R F=>by
 obtain⟨D,N,Q,S,G,e,s,h⟩:=F;obtain⟨c,M,O⟩:=dU e;refine tOf.at M s λv B o z A E=>?_;rcases hX O with rfl|rfl|⟨w,rfl,rfl⟩
 .obtain⟨p,r,rfl,g,j⟩:=A
  refine⟨p,r,rfl,.inr ⟨.inl (.inl (E.seen _ _ g)),λu=>h _ B o z (n4 (by rwa [<-j.length]) λi L J a b=>⟨λd n=>?_,λt=>⟨r,.inl (.inl (b _ _ (a _ _ g))),by rwa [j.length]⟩⟩)⟩⟩;obtain⟨x,k,m⟩:=j.get n;refine⟨⟨r,x,.inl (.inl (b _ _ (a _ _ g))),k⟩,λy I q=>⟨q.1,?_⟩⟩;have:=q.2 r (.inl (.inl (b _ _ (a _ _ g))));rw[k]at this;cases this;exact m.mono a
 .obtain⟨p,r,rfl,g,j⟩:=A
  refine⟨p,r,rfl,.inl ⟨.inl (dJ E.seen g),λu=>h _ B o z (n4 (by rwa [<-j.length]) λi L J a b=>⟨λd n=>?_,λt=>⟨r,.inl (dJ b (dJ a g)),by rwa [j.length]⟩⟩)⟩⟩;obtain⟨x,k,m⟩:=j.get n;refine⟨⟨r,x,.inl (dJ b (dJ a g)),k⟩,λy I q=>⟨q.1,?_⟩⟩;have:=q.2 r (.inl (dJ b (dJ a g)));rw[k]at this;cases this;exact m.mono a
 .obtain⟨p,rfl,g⟩:=A
  have j:RpL X.K o _ _:=.ints w;refine⟨p,_,rfl,.inl ⟨E.seen.seq g,λu=>h _ B o z (n4 (by ext) λi L J a b=>⟨λd n=>?_,λt=>⟨_,b.seq (a.seq g),by ext⟩⟩)⟩⟩;obtain⟨x,k,m⟩:=j.get n;refine⟨⟨_,x,b.seq (a.seq g),k⟩,λy I q=>⟨q.1,?_⟩⟩;have:=q.2 _ (b.seq (a.seq g));rw[k]at this;cases this
  exact m.mono a⟩
theorem uT(q:Gl X "range")(z:X.mg "range"=none)(i:ZA X [a] ga)(hs:aad X a:=by rfl):ZI X tg (.Call (.Name "range" p) [a] [] pos) (cF ga dh):=⟨have i:=i.un;
 PI.imp (QZ q z i hs) λg H R d=>by
  obtain⟨b,c,F,E,G,e,s,h⟩:=d;obtain⟨l,t,y⟩:=qa e;refine tAof.at t s λf k j o u C=>?_;obtain⟨n,rfl,A,B,rfl⟩:=R7 y;obtain⟨v,rfl,m⟩:=lR u;subst m;have:=h _ k j o (n5 (f7 (by unfold ax;ext)))
  ext<;>ac_nf⟩
theorem Tx(v:Gl X "range")(A:X.mg "range"=none)(i:ZA X [a,b] ga)(hs:starEach [a,b] X.env=[(false,eval a X.env),(false,eval b X.env)]:=by rfl)(d:aad X b:=by rfl):ZI X tg (.Call (.Name "range" p) [a,b] [] pos) (cF ga fg):=⟨have i:=i.un;
 PI.imp (Q0 v A i hs d) λw H R k=>by
  obtain⟨c,f,J,I,G,e,s,h⟩:=k;obtain⟨l,u,m⟩:=qa e;refine tAof.at u s λg o z t j L=>?_;obtain⟨a,n,rfl,E,M,F,C,rfl⟩:=R8 m;obtain⟨x,r,rfl,q,j⟩:=j;obtain⟨y,rfl,B⟩:=lR j;subst q B
  exact⟨a,n,rfl,⟨by ac_nf,by ac_nf,by ac_nf,by ac_nf⟩,h _ o z t (n5 (Qg (by ext<;>lia:(n-a).toNat<=2000000) (by decide)))⟩⟩
theorem uU(i:Nat)(m:X.N.Nodup)(l:X.N[i]?=some x:=by rfl)(n:c9 X.env.scope x:=by trivial)(k:aae X x:=by trivial):ZG X (.Name x pos) (ai i):=⟨
 PG.imp (yB m l n k) λv c H Q j=>by
  obtain⟨d,b,a,q,o,G,e,s,r,h⟩:=j;cases e
  exact h _ (s.set_sh i r)⟩
theorem DC(i j:Nat){x y:Str}{px B:Pos}{k:Nat}(E:X.calm=true)(q:X.N.Nodup)(I:X.N[i]?=some x:=by rfl)(C:X.N[j]?=some y:=by rfl)(z:c9 X.env.scope x:=by trivial)(t:c9 X.env.scope y:=by trivial)(A:aae X x:=by trivial)(n:aae X y:=by trivial):ZG X (.Tuple [.Name x px,.Name y B] k pos) (ez i j):=⟨
 PG.imp (yG (n:=2) E (Ki (yB q I z A) (Ki (yB q C t n) yE))) λv M H Q o=>by
  obtain⟨d,f,c,J,L,G,e,s,r,h⟩:=o
  match d,e,r with
  | .tup [a,b],e,r=>
    cases e;obtain⟨p,D,rfl,g,l⟩:=r;obtain⟨u,K,rfl,F,l⟩:=l;obtain⟨w,rfl,m⟩:=lR l
    exact⟨p,[u,w],rfl,.inl (.inl (s.seen _ _ g)),rfl,u,[w],rfl,w,[],rfl,rfl,h _ ((s.set_sh i F).set_sh j m)⟩⟩
theorem Mz(K:PassesOwn (mZ X.prog X.w) X.A X.env X.xe)(hc:X.calm=true)(O:ZI X tg iter gl)(R:ZG X tg gt)(w:ZB X C fs)(hs:∀x,foldedSetIterable iter X.env x=pure x:=by intro _;rfl):ZS X (.For tg iter C [] pos) (a_ gl gt fs):=⟨have O:=O.un;have R:=R.un;have w:=w.un;
 PS.imp (m5 K hc O R w hs) λF σ H Q=>by
  obtain⟨D,p,H0,G0,G,e,s,h⟩:=Q;obtain⟨c,N,h2⟩:=qa e;refine⟨D,c,H0,G0,G,N,s,λJ H1 E g1 wk=>?_⟩;obtain⟨M,Z,k⟩:=(s.grow g1).rebase;refine⟨λi m b f=>m=c.length-i/\i<=c.length/\∃a g,SR X.K M E b f g a/\forM gt fs (c.drop i) a=some p,⟨_,rfl,Qh _,D,E,Z,h2⟩,?_⟩;rintro i m b f ⟨rfl,O,a,g,r,j⟩;have W:=wk.2 i f g r.gr.g r.seen;by_cases u:i<c.length
  .obtain⟨go,T⟩:=W.1 _ (qr u)
   rw[List.drop_eq_getElem_cons u]at j;obtain⟨L,e1,j⟩:=qa j;obtain⟨o,e2,j⟩:=qa j;refine .inr ⟨go,λb f=>i+1<=c.length/\∃a g,SR X.K M E b f g a/\forM gt fs _ a=some p,λY U q=>⟨c.length-(i+1),by symm,rfl,q.1,q.2⟩,λx U y=>?_⟩;obtain⟨S,g2,r2⟩:=T x U y;refine⟨_,a,L,M,E,S,e1,r.grow g2,r2,λσ3 s3=>⟨L,o,M,E,S,e2,s3,?_⟩⟩
   cases o with
   | nx n=>exact λA B z I=>⟨u,n,z,I,j⟩
   | ct n=>exact λA B z I=>⟨u,n,z,I,j⟩
   | bk n=>
     cases j;exact λA B z I=>h A B z (k _ _ _ _ I)
   | rt d=>
     cases j;refine λv B z g4 V=>h v B z ?_ V;have:=(k [] B z [] (.mkSh g4 rfl (λi d e=>by simp at e) (λi l e=>by simp at e) (λi t ks vs e=>by simp at e))).gr;exact this
  .have ei:i=c.length:=by ac_nf
   subst ei;rw[List.drop_length]at j;cases j
   exact .inl ⟨W.2 (qv _),h b f g (k _ _ _ _ r)⟩⟩
def Tz(n:Nat)(M:PassesOwn (mZ X.prog X.w) X.A X.env X.xe)(u:ZT X c fc)(y:ZB X j fs):ZS X (.While c j [] pos) (c5 fc fs n):=⟨have u:=u.un;have y:=y.un;
 PS.imp (QV M u y) λF N H w=>by
  obtain⟨D,i,t,z,G,e,s,h⟩:=w;refine⟨λm b p=>∃a l,SR X.K t z b p l a/\c5 fc fs m a=some i,⟨n,D,G,s,e⟩,?_⟩;rintro m b p ⟨a,l,K,f⟩
  cases m with
  | zero=>cases f
  | succ m=>
    obtain⟨k,C,f⟩:=qa f;refine tTof.at C K λJ B O A=>?_
    cases k with
    | false=>
      cases f;exact h b J B A
    | true=>
      obtain⟨o,L,f⟩:=qa f;refine⟨λb p=>∃a l,SR X.K t z b p l a/\c5 fc fs m a=some i,λE Q q=>⟨m,Qa m,q⟩,⟨a,o,t,z,B,L,A,?_⟩⟩
      cases o with
      | nx g=>exact λr I x v=>⟨g,x,v,f⟩
      | ct g=>exact λr I x v=>⟨g,x,v,f⟩
      | bk g=>cases f;exact h
      | rt d=>cases f;exact h⟩
def MD :gg X X.K [] tY:=⟨Bn⟩
def MH(S:gD X.N X.env.scope N src scope)(o:X.calm=true)(l:ZI X tg iter gl)(m:∀h C i s H,ZG (cv X scope N h C i s H) tg gt)(q:∀h C i s H,gg (cv X scope N h C i s H) X.K ifs fc)(n:∀h C i s H,ZE (cv X scope N h C i s H) elt fe)(k:∀ρ d j,gt d (ak src ρ)=some j->Le (ak src ρ) j)(hs:∀x,foldedSetIterable iter X.env x=pure x:=by intro _;rfl):ZF X (.ListComp elt [⟨tg,iter,ifs,0⟩] scope pos) (bu gl src gt fc fe):=⟨Bp S o l.un (λh C i s H=>(m h C i s H).un) (λh C i s H=>(q h C i s H).un) (λh C i s H=>(n h C i s H).un) k hs⟩
theorem DE(i:Nat){q k:Pos}(F:X.N.Nodup)(S:gD X.N X.env.scope N src scope)(v:X.calm=true)(n:ZI X tg iter gl)(z:∀j C h s H,ZG (cv X scope N j C h s H) tg gt)(B:∀j C h s H,gg (cv X scope N j C h s H) X.K ifs fc)(A:∀j C h s H,ZE (cv X scope N j C h s H) elt fe)(o:∀ρ d l,gt d (ak src ρ)=some l->Le (ak src ρ) l)(m:swapsWith (.ListComp elt [⟨tg,iter,ifs,0⟩] scope pos) (some (.Name y q)) k.line X.env=pure true:=by rfl)(u:X.N[i]?=some y:=by rfl)(t:c9 X.env.scope y:=by trivial)(E:aae X y:=by trivial)(hs:∀x,foldedSetIterable iter X.env x=pure x:=by intro _;rfl):ZS X (.Assign [.Name y q] (.ListComp elt [⟨tg,iter,ifs,0⟩] scope pos) k) (bb i (bu gl src gt fc fe)):=⟨Bq i F S v n.un (λj C h s H=>(z j C h s H).un) (λj C h s H=>(B j C h s H).un) (λj C h s H=>(A j C h s H).un) o m u t E hs⟩
def DF{f:Addr}{fd:FuncData}{fb:AR}(F:Fun K x i st f fd)(S:dI N ps (aDa st))(l:N.length=n)(o:ps.length=m)(b:∀(h:Value) (A:Around) (d:List Env) (s:Shared) (H:Hp) (E:XK),Room k (A.deeper (envOfC i (aDa st) (~~~s) f h))->ZB (cm cJ P w K mg base N i (aDa st) f h A d s H E).nox (aFa st) fb):FnOk P w K mg base cJ (k+1) f fd ps (cx K m (aj m n fb)):=R9 F S l o (λh A d s H E j=>(b h A d s H E j).un)
theorem jl(c:aN X.prog X.w X.K X.mg X.base j n x ps v)(s:Room k X.A)(q:Gl X x)(h:ZA X (e::es) ga)(u:∀ρ l,ga ρ=some l->l.length=n)(o:j<=k:=by first|exact qv _|ac_nf)(d:cu x:=by decide)(m:aab X e es:=by rfl)(i:aac X pos es:=by rfl):ZE X (.Call (.Name x p) (e::es) [] pos) (cC ga v):=⟨have h:=h.un;by
 obtain⟨a,g,F,b,t,y⟩:=c
 exact Bc F (s.mono o) q y t b h d m i u⟩
def l9(d:ZC X a fa)(c:ZC X b fb):ZE X (.BinOp a .Add b pos) (b2 fa fb cM):=⟨have d:=d.un;have c:=c.un;lO yT Ln d c⟩
def DG(j:ZC X a fa):ZE X (.UnaryOp .USub a pos) (b1 fa di):=⟨have j:=j.un;PE.imp (yR yZ j) λc H Q i=>by
 obtain⟨b,d,u,y,G,e,s,h⟩:=i;obtain⟨x,o,k⟩:=dU e;refine tCof.at o s λv n l q m t=>?_;cases x<;>simp[di]at k;subst k
 exact⟨_,m,h _ n l q (by rw[Rp])⟩⟩
def DH(n:ZC X a fa)(c:ZC X b fb):ZF X (.BinOp a .Add b pos) (b2 fa fb cY):=⟨have n:=n.un;have c:=c.un;PE.imp (tB Bt n c) λr H Q k=>by
 obtain⟨g,l,W,Z,G,e,s,h⟩:=k;obtain⟨R,S,L,J,d⟩:=nL e;refine tCof.at L s λv w Y z E A=>tCof.at J A λu U M j B y=>?_;unfold cY at d
 split at d
 .split at d
  .rename_i C
   cases d;obtain⟨p,f,rfl,F,t⟩:=E.grow j;obtain⟨q,O,rfl,I,o⟩:=B;exact⟨p,q,f,O,rfl,rfl,F,I,by rw[t.length,o.length];exact f7 C,λm i=>h m _ _ M ((z.trans j).trans (.hid y.seen i _)) (z.h.free (j.h.free i)) (y.seen.free i) Yg (t.append o)⟩
  .cases d
 .cases d⟩
theorem MJ(A:ZC X a fa)(J:Gl X "isinstance")(t:Gl X i)(b:X.mg "isinstance"=none)(u:X.mg i=none)(y:bootBuiltins i=some (.type T))(I:t9 T)(S:bootBuiltins "isinstance"=some (.builtin "isinstance"):=by decide +kernel)(o:i≠"__name__":=by decide)(q:(i==("__debug__":Str))=false:=by decide)(hs:starEach [a,.Name i j] X.env=(false,eval a X.env)::starEach [.Name i j] X.env:=by rfl)(B:starEach [.Name i j] X.env=(false,eval (.Name i j) X.env)::starEach [] X.env:=by rfl)(z:(backTo pos (starEach [.Name i j] X.env)).any (·.1)=false:=by rfl):ZE X (.Call (.Name "isinstance" p) [a,.Name i j] [] pos) (mB (b1 fa (f_ T))):=⟨have A:=A.un;
 PE.imp (nk (Bw I) J b S (fX A (fX (yg t u y (v:=.ty T) rfl o q) fW B) hs) (by decide) (by decide) hs z) λc H Q n=>by
  obtain⟨f,d,U,Y,G,e,s,h⟩:=n;obtain⟨k,E,rfl⟩:=tZ e;obtain⟨x,O,m⟩:=dU E;unfold f_ at m
  split at m
  .cases m
   exact tCof.at O s λv F C R L W=>⟨v,x,C,rfl,by assumption,L,h _ F C R (by rw[Rp])⟩
  .cases m⟩
theorem TC(W:Gl X "enumerate")(D:X.mg "enumerate"=none)(L:ZE X l f)(hs:aad X l:=by rfl):ZI X (.Tuple elts x1 pt) (.Call (.Name "enumerate" p) [l] [] pos) (b1 f fH):=⟨have L:=L.un;
 PI.imp (BF W D (Bb L Ba hs) hs) λσ H R F=>by
  obtain⟨V,ds,H0,G0,G,e,s,h⟩:=F;obtain⟨c,Y,K⟩:=dU e;obtain⟨l,N,rfl⟩:=qc K;refine tAof.at (show Yb f _ V=some [c] by simp[Yb,ae,Y]) s λvs C B J Z I=>?_;obtain⟨v,rfl,E⟩:=lR Z;rcases hX N with rfl|rfl|⟨T,rfl,rfl⟩
  .obtain⟨p,r,rfl,g,j⟩:=E
   refine⟨p,r,rfl,.inr ⟨.inl (.inl (I.seen _ _ g)),λo=>h _ C B J ⟨by rw[lU,<-j.length];exact o,λi U O b a=>⟨λd A=>?_,λt=>⟨r,.inl (.inl (a _ _ (b _ _ g))),by rw[j.length,<-lU l];exact t⟩⟩⟩⟩⟩;obtain⟨w,k,rfl⟩:=BG A;obtain⟨x,m,u⟩:=j.get k;refine⟨⟨r,x,.inl (.inl (a _ _ (b _ _ g))),m⟩,λy Q q=>?_⟩;obtain⟨M,S,z,n,rfl,rfl⟩:=q;have:=z r (.inl (.inl (a _ _ (b _ _ g))));rw[m]at this;cases this;exact Gr.newTup a n i (u.mono b)
  .obtain⟨p,r,rfl,g,j⟩:=E
   refine⟨p,r,rfl,.inl ⟨.inl (dJ I.seen g),λo=>h _ C B J ⟨by rw[lU,<-j.length];exact o,λi U O b a=>⟨λd A=>?_,λt=>⟨r,.inl (dJ a (dJ b g)),by rw[j.length,<-lU l];exact t⟩⟩⟩⟩⟩;obtain⟨w,k,rfl⟩:=BG A;obtain⟨x,m,u⟩:=j.get k;refine⟨⟨r,x,.inl (dJ a (dJ b g)),m⟩,λy Q q=>?_⟩;obtain⟨M,S,z,n,rfl,rfl⟩:=q;have:=z r (.inl (dJ a (dJ b g)));rw[m]at this;cases this;exact Gr.newTup a n i (u.mono b)
  .obtain⟨p,rfl,g⟩:=E
   have j:RpL X.K B _ _:=.ints T;refine⟨p,_,rfl,.inl ⟨I.seen.seq g,λo=>h _ C B J ⟨by rw[lU,<-j.length];exact o,λi U O b a=>⟨λd A=>?_,λt=>⟨_,a.seq (b.seq g),by rw[j.length,<-lU];exact t⟩⟩⟩⟩⟩;obtain⟨w,k,rfl⟩:=BG A;obtain⟨x,m,u⟩:=j.get k;refine⟨⟨_,x,a.seq (b.seq g),m⟩,λy Q q=>?_⟩;obtain⟨M,S,z,n,rfl,rfl⟩:=q;have:=z _ (a.seq (b.seq g));rw[m]at this;cases this
   exact Gr.newTup a n i (u.mono b)⟩
theorem TF(u:X.calm=true)(w:Gl X "tuple")(l:X.mg "tuple"=none)(b:Gl X "reversed")(j:X.mg "reversed"=none)(i:ZC X e f)(hs:aad X e:=by rfl)(z:starEach [.Call (.Name "reversed" p2) [e] [] pos2] X.env=[(false,eval (.Call (.Name "reversed" p2) [e] [] pos2) X.env)]:=by rfl):ZE X (.Call (.Name "tuple" p) [.Call (.Name "reversed" p2) [e] [] pos2] [] pos) (λρ=>(j9 f ρ).map D.tup):=⟨have i:=i.un;
 PE.imp (SD u w l b j (i4 i i3 hs) hs z) λJ H Q c=>by
  obtain⟨ρ,I,M,O,G,e,s,h⟩:=c;obtain⟨N,y,rfl⟩:=qc e;obtain⟨F,t,rfl⟩:=qc y;obtain⟨d,A,x⟩:=dU t;refine tCAof.at (show Yb f _ ρ=some [d] by simp[Yb,ae,A]) s λL K E C o k=>?_;obtain⟨v,rfl,n⟩:=eR o;obtain⟨q,r,rfl,g,B⟩:=Lu x n
  exact⟨q,r,rfl,g,λm a=>h _ _ _ (C.trans (.new k.seen a _)) (⟨m,_,rfl,Yg,B.reverse.mono (Gr.new k.seen a _).g⟩)⟩⟩
theorem TH(i:Nat){t k j:Pos}(z:ZE X e f)(r:X.N[i]?=some x:=by rfl)(U:eW X.env.scope x:=by trivial)(W:cu x:=by decide)(A:fS x:=by decide)(u:swapsWith (.Call (.Attribute (.Name x t) "extend" k) [e] [] j) none pos.line X.env=pure false:=by rfl)(hs:aad X e:=by rfl)(q:pe X j [e]:=by rfl)(n:(k.endLine==j.line)=true:=by rfl)(m:attributeBase (.Name x t) "extend" X.env (eval (.Name x t) X.env)=eval (.Name x t) X.env:=by rfl):ZS X (.Expr (.Call (.Attribute (.Name x t) "extend" k) [e] [] j) pos) (cW i f eC):=⟨have z:=z.un;
 PS.imp (lG (nB PySem.F.plainAttrs_list PySem.F.slot_list_extend PySem.F.type_list_extend BO (gC r U W A) (fX z fW hs) m q n hs rfl) u) λF p H y=>by
  obtain⟨V,w,T,D,G,e,s,h⟩:=y;obtain⟨l,C,e⟩:=qa e;obtain⟨d,Q,e⟩:=qa e;obtain⟨N,o,rfl⟩:=qc e;unfold eC at o
  split at o
  .split at o
   .rename_i Y
    cases o;obtain⟨a,g,L,B,I,K⟩:=n3 s C;refine⟨_,L,.inl ⟨rfl,g,.of B⟩,tOf.at Q s λv H1 S M R J=>?_⟩;obtain⟨b,Z,rfl,O,E⟩:=R;refine⟨a,b,g,Z,rfl,rfl,M.h _ _ B,dJ J.seen O,?_,h p _ S (J.mut (Av C) L ((I.mono M.g).append E))⟩;rw[I.length,E.length];exact f7 Y
   .cases o
  .cases o⟩
theorem TJ(g:GD X.K X.w X.mg x j)(J:Gl X x)(z:ZC X ke fk)(hs:g7 ke:=by intro _ _;rfl)(Y:cu x:=by decide):ZE X (.Subscript (.Name x px) ke pos) (b1 fk (ia j)):=⟨have z:=z.un;by
 obtain⟨p,o,c,M,K,L,A,n,i⟩:=g;intro b s T H Q I ⟨ρ,d,H0,V,G,e,D,h⟩;obtain⟨dk,W,l⟩:=dU e;refine KE PySem.F.slot_dict_getitem.lookup hs (tp I J K (az (z _ s T H (λR f=>∃k r,R=.str k/\j.lookup k=some r/\Q (.str r) f) I (tCof.at W D λv U O N F s1=>?_)) λiv s2 S=>?_) Y)
 .unfold ia at l
  split at l
  .rename_i k
   obtain⟨r,m,rfl⟩:=qc l;exact⟨k,r,F.1,m,h _ U O N (⟨rfl,oh i m⟩)⟩
  .cases l
 .obtain⟨y,Z,C,E,k,r,rfl,m,q⟩:=S
  obtain⟨t,rfl⟩:=E;have B:=C.kIn p o L;obtain⟨e',w,f1,f2⟩:=LS (P:=X.prog) i m;refine⟨⟨o,B,A.1⟩,wpAny_getItem_of (knd:=PySem.strKind _ X.w) (k:=k) (by simp[PySem.strKind,Value.isStrOf]) ⟨o,c,M,B,A,n,?_,λ_=>rfl⟩ ?_ ⟨.str r,Z,C.tok _,⟨w,rfl⟩,q⟩⟩
  .intro u he
   exact LU i u ⋯
  .show(c.find? _).map _=_
   ext⟩
def DI{i:Int}(g:GI X.mg x i)(j:Gl X x)(h:cu x:=by decide):ZE X (.Name x px) (aaa i):=⟨by
 obtain⟨t,d⟩:=g
 exact nM (Kb (v:=.int i) j d ⟨t,rfl⟩ h) (λ_ _ _ q=>q) λ_=>by rw[Rp]⟩
def DJ{X:Cx}{pos:Pos}:ZP X pos [] [] [] []:=⟨BQ⟩
theorem MK{X:Cx}{pos e:Pos}{x:Str}{j:Nat}{v:Expr}{f:AU}{b:List (Option Expr)}{a:AK}{ks:AJ}{fs:List AU}(d:ZE X v f)(c:ZP X pos b a ks fs):ZP X pos (some (.Constant (.str x) j e)::b) (v::a) (x::ks) (f::fs):=⟨have d:=d.un;have c:=c.un;⟨by simp[c.len],KI BP d c.pps,by simpa using c.all,by simp[c.kv],by simp[c.kk]⟩⟩
theorem DK(hu:X.A.units+64<cLine){j:List (Option Expr)}{c:AK}(ks:AJ)(fs:List AU)(hn:ks.Nodup)(r:ks.length<=15)(h0:ks≠[])(g:ZP X dpos j c ks fs)(t:ZC X ke fk)(hs:g7 ke:=by intro _ _;rfl):ZE X (.Subscript (.Dict j c dpos) ke pos) (ic ks fs fk):=⟨have g:=g.un;have t:=t.un;
 PE.imp (zF ∅ (zI g.pps g.all g.kv (λz=>h0 (List.eq_nil_of_length_eq_zero (by rw[<-g.kk,z];rfl))) (by rw[g.kk];exact r)) t hs) λσ H Q y=>by
  obtain⟨Y,d,H0,G0,G,e,s,h⟩:=y;obtain⟨q,F,e⟩:=qa e;obtain⟨dk,V,e⟩:=qa e;intro p m;have A:Gr H G (upd H p (.dK [])) G:=.hid s.seen m _;refine LV g.len F (s.grow A) λo S N w B=>?_
  have E:o.length=ks.length:=by
   rw[B.length,g.len]
   have:∀(fs:_) (q:_),uA fs Y=some q->q.length=fs.length:=λfs=>by
    induction fs with
    | nil=>intro q h;cases h;rfl
    | cons f fs M=>
      intro q h;obtain⟨d,_,h⟩:=qa h;obtain⟨l,I,rfl⟩:=qc h;simp[M l I]
   exact this fs q F
  refine⟨w.h _ _ Yg,(ks.map .inr).zip o,?_,by simp[E];exact r,?_⟩
  .apply List.ext_getElem
   .simp
   .intro i I Z
    simp[kV]
  .have n:(((ks.map .inr:List aX).zip o).map _)=_:=List.map_fst_zip (by simp[E])
   have R:g8 [] ((ks.map .inr).zip o)=(ks.map .inr).zip o:=by
    rw[LW (by rw[n];exact .map _ (λa b h z=>h (Sum.inr.inj z)) hn) λk _=>rfl];rfl
   rw[R];have U:=tV w Yg (s.seen.free m);have C:Gr H G (upd S p (.dK ((ks.map .inr).zip o))) N:=(A.trans w).updHid m U _;refine tCof.at V (s.grow C) λv O K u L s4=>?_
   split at e
   .rename_i k
    obtain⟨rfl,_⟩:=L;obtain⟨x,J,T⟩:=(lW k B).1 d e;refine⟨p,x,rfl,.inl ⟨_,.inr k,.inl (u.h _ _ Yg),rfl,?_⟩,h x O K (C.trans u) (T.mono u.g)⟩;rw[BR,J]
   .cases e⟩
def DL(e:X.A.units+64<cLine)(c:ZC X a fa)(d:ZC X b fb)(hs:jO b:=by intro _ _;rfl):ZE X (.Subscript a b pos) (b2 fa fb bA):=⟨have c:=c.un;have d:=d.un;jX (BW e) B0 c d hs⟩
def DM(e:X.A.units+64<cLine)(c:ZC X a fa)(d:ZC X b fb)(f:behindInMarks .In b=false:=by with_unfolding_all rfl):ZE X (.Compare a [.In] [b] pos) (mB (b2 fa fb (cN false))):=⟨have c:=c.un;have d:=d.un;jW (oq e) B1 c d f⟩
def DN(e:X.A.units+64<cLine)(c:ZC X a fa)(d:ZC X b fb)(f:behindInMarks .In b=false:=by with_unfolding_all rfl):ZT X (.Compare a [.In] [b] pos) (b2 fa fb (cN false)):=⟨have c:=c.un;have d:=d.un;eQ (oq e) B1 c d f⟩
def DO(e:X.A.units+64<cLine)(c:ZC X a fa)(d:ZC X b fb)(f:behindInMarks .NotIn b=false:=by with_unfolding_all rfl):ZT X (.Compare a [.NotIn] [b] pos) (b2 fa fb (cN true)):=⟨have c:=c.un;have d:=d.un;eQ (SF e) B1 c d f⟩
theorem DP(hu:X.A.units+64<cLine)(i:Nat){p2 m:Pos}(E:ZC X ie fb)(L:ZE X e f)(hN:X.N[i]?=some x:=by rfl)(hv:eW X.env.scope x:=by trivial)(hd:cu x:=by decide)(N:fS x:=by decide)(A:∀v,assign (.Subscript (.Name x p2) ie m) X.env v=(do
 let w <-holding [v] (eval (.Name x p2) X.env)
 let B <-holding [v,w] (eval ie X.env)
 standAt m
 holding [v,w,B] (setItem w B v)
 release [v,w,B] []):=by intro _;rfl)(hs:swapsWithSole [.Subscript (.Name x p2) ie m] e pos.line X.env=pure false:=by rfl)(S:swappedStores [.Subscript (.Name x p2) ie m] e X.env=pure none:=by rfl)(M:(assignEach [.Subscript (.Name x p2) ie m] X.env).map (·.2)=[assign (.Subscript (.Name x p2) ie m) X.env]:=by rfl):ZS X (.Assign [.Subscript (.Name x p2) ie m] e pos) (ij i fb f):=⟨have E:=E.un;have L:=L.un;
 PS.imp (m3 L (mY (gC hN hv hd N) E (BZ hu) A) hs S M) λF σ H I=>by
  obtain⟨ρ,out,H0,G0,G,e,s,h⟩:=I;obtain⟨d,M,e⟩:=qa e;obtain⟨l,h2,e⟩:=qa e;obtain⟨k,Z,e⟩:=qa e;obtain⟨l',c,rfl⟩:=qc e;obtain⟨kn,h5,c⟩:=qa c;obtain⟨z,O,c⟩:=qa c
  split at c
  case isFalse=>cases c
  rename_i t;have j:=SH h2;refine tOf.at M s λv H1 G1 g1 r1 Q=>?_;obtain⟨a0,_,_,o,_⟩:=Q.od i _ _ _ j;refine⟨_,o,tCof.at Z Q λu H2 U g2 R D=>?_⟩;obtain⟨a,kxs,vxs,A,hG,hH0,Y,C,J⟩:=D.od i _ _ _ j;rw[o]at A;cases A;obtain⟨g,q,rfl,hk⟩:=kg D.seen Y;obtain⟨b,T,rfl,b1,b2',n⟩:=oi O R;have e:=uB h5 C hk
  have K:vxs.length<ax:=by rw[J.length];exact t
  refine⟨a0,b,g,vxs,T,z,rfl,rfl,q,b1,n,K,λep=>?_⟩;have r:=r1.mono g2.g;injection c with c;subst e;refine h _ _ U (D.mutd j o (kxs:=(cy g vxs z b v).1.map (λp=>V.ref p.2)) (vxs:=(cy g vxs z b v).2) ?_ ?_ ?_)
  .refine .inr ⟨rfl,(cy g vxs z b v).1,ep,Yg,?_,?_,rfl,?_⟩
   .unfold cy
    split
    .rw[og];exact q.len
    .simp[q.len]
   .unfold cy
    split
    .exact q.nd
    .rw[wu,List.nodup_append]
     refine⟨q.nd,by simp,λx hx y hy z'=>?_⟩;grind
   .unfold cy
    grind
  .rw[<-c]
   unfold cy
   split
   .exact C
   .rw[wu]
    refine RpL.snoc ?_ C
    cases k with
    | tup l=>
      rw[Ct]at R;rw[Rp]
      ext
    | _=>cases O
  .rw[<-c]
   unfold cy
   split
   .exact t_ z r J
   .exact RpL.snoc r J⟩
theorem DR(O:X.A.units+64<cLine)(i:Nat){pos' dpos:Pos}(U:X.N.Nodup)(l:ZE X ke fk)(g:ZE X ve C)(K:X.N[i]?=some x:=by rfl)(L:c9 X.env.scope x:=by trivial)(hs:swapsWith (.Dict [some ke] [ve] dpos) (some (.Name x pos')) pos.line X.env=pure false:=by rfl)(B:aae X x:=by trivial):ZS X (.Assign [.Name x pos'] (.Dict [some ke] [ve] dpos) pos) (ki i fk C):=⟨have l:=l.un;have g:=g.un;
 PS.imp (jI U K L (B5 O (KI l g KH)) hs B) λF V H j=>by
  obtain⟨ρ,Q,H0,G0,G,e,s,h⟩:=j;obtain⟨k,J,e⟩:=qa e;obtain⟨v,N,e⟩:=qa e;obtain⟨n,M,rfl⟩:=qc e;intro p E f;have r:Gr H G (upd H p (d6 p [] [] E)) G:=.hid s.seen f _;refine tOf.at J (s.grow r) λY Z G1 m y A=>tOf.at N A λu R t c z s2=>?_;have o:=tV (m.trans c) Yg (s.seen.free f);have d:=y.mono c.g;obtain⟨b,D,rfl,b1,S,I⟩:=oi M (.of c.s d);refine⟨(m.trans c).h _ _ Yg,b,D,n,u,rfl,b1,I,λa=>?_⟩;have T:Gr H G (upd R p (d6 p [(n,b)] [u] a)) t:=(r.trans (m.trans c)).updHid f o _;refine h _ _ t (s.set_od i T f o (.inr ⟨rfl,[(n,b)],a,Yg,rfl,by simp,rfl,λq hq=>?_⟩) (.cons d .nil) (.cons z .nil))
  ext⟩
def DS(X:Cx)(pos' pos g p2:Pos)(x:Str)(i:Nat)(es:AK)(b:Expr)(fb:AU)(ns:AF)(c:X.N.Nodup)(h:ou es=some ns)(d:X.N[i]?=some x)(e:c9 X.env.scope x)(f:X.fn x=true\/X.env.scope.names.lookup x=some .local)(hs:jO b)(a:ZC X b fb):ZS X (.Assign [.Name x pos'] (.Subscript (.List es g) b p2) pos) (aq i (b2 (lF (kj ns)) fb ao)):=⟨have a:=a.un;
 n0 i c (Ls (ME.mc (MF.me (B6 ns h))) a hs) d e rfl f⟩
end
section
variable {a b c e:Expr}{fb fc:AU}
theorem TK(N:br X (compareOp E) r)(J:eu X.K r g)(A:br X (compareOp i) T)(p:eu X.K T g')(t:ZC X a fa)(l:ZC X b fb)(q:ZC X c fc)(R:lastMarks [E,i] [b,c]=false:=by with_unfolding_all rfl):ZE X (.Compare a [E,i] [b,c] pos) (mB (uD fa fb fc g g')):=⟨have t:=t.un;have l:=l.un;have q:=q.un;
 PE.imp (Q6 N A t l q R) λσ H Q h=>by
  obtain⟨ρ,d,H0,G0,G,e,s,h⟩:=h;obtain⟨k,U,rfl⟩:=tZ e;obtain⟨x,y,M,Z,f⟩:=B7 U;refine tCof.at M s λv H1 G1 K F L=>tCof.at Z L λu B m j n o=>?_;rcases f with⟨f,rfl⟩|⟨f,z,S,O⟩
  .exact J v u x y _ B m _ f o.seen (F.grow j) n ⟨false,rfl,h _ B m (K.trans j) (by rw[Rp])⟩
  .exact J v u x y _ B m _ f o.seen (F.grow j) n ⟨true,rfl,tCof.at S o λw D I C r3 Y=>p u w y z k D I _ O Y.seen (n.grow C) r3 (h _ D I ((K.trans j).trans C) (by rw[Rp]))⟩⟩
def TL :ZS X st nS:=⟨B8⟩
end
section
variable {e a b:Expr}{f fb:AU}{fc:AT}
def DT(b:AE)(h:ZE X e f):ZE X e (oy b f):=⟨have h:=h.un;PE.imp h λp H Q a=>by
 obtain⟨l,d,i,n,G,e,s,h⟩:=a;obtain⟨q,o,e⟩:=qa e;unfold M.scal at e
 split at e
 .rename_i k
  cases e;obtain⟨m,j⟩:=SR.frz b s;exact⟨frz b l,_,i,n,m,o,j,λv c t g r=>h v c G (.back s.seen g) (r.scal k)⟩
 .cases e⟩
theorem TM(c:AE)(h:ZE X e f):ZE X e (gH c f):=⟨have h:=h.un;PE.imp h λC H Q t=>by
 obtain⟨y,d,n,l,G,e,s,h⟩:=t;unfold gH at e;obtain⟨D,p,e⟩:=qa e
 split at e
 case isFalse=>cases e
 rename_i x;cases e;obtain⟨i,m,w⟩:=SR.frzT c s;refine⟨frz c y,_,n,l,i,p,m,λv u j g r=>?_⟩;refine h v u (λa=>if H a=none then j a else G a) ⟨g.h,λa o e=>?_,λa o e=>?_,λa h A=>?_⟩ (r.plain (λb k e=>?_) x)
 .have B:H a≠none:=λz=>by rw[s.seen _ _ e]at z;cases z
  grind
 .by_cases z:H a=none
  .rw[if_pos z]at e;exact g.s _ _ e
  .rw[if_neg z]at e;exact g.h _ _ (s.seen _ _ e)
 .grind
 .show(if H b=none then j b else G b)=some (HO.tup k)
  by_cases z:H b=none
  .grind
  .rw[if_neg z]
   refine w b k ?_
   cases q:i b with
   | none=>exact absurd (g.n b q (by grind)) z
   | some o=>
     have:=g.g _ _ q
     grind⟩
def DU(g:X.A.units+64<cLine)(d:ZC X a fa)(c:ZC X b fb)(hs:jO b:=by intro _ _;rfl):ZE X (.Subscript a b pos) (b2 fa fb cO):=⟨have d:=d.un;have c:=c.un;jX (Cc g) Ca d c hs⟩
def DV(e:X.A.units+64<cLine)(c:ZC X a fa)(d:ZC X b fb)(f:behindInMarks .In b=false:=by with_unfolding_all rfl):ZE X (.Compare a [.In] [b] pos) (mB (b2 fa fb (dn false))):=⟨have c:=c.un;have d:=d.un;jW (oJ e) Cb c d f⟩
def DW(e:X.A.units+64<cLine)(c:ZC X a fa)(d:ZC X b fb)(f:behindInMarks .NotIn b=false:=by with_unfolding_all rfl):ZT X (.Compare a [.NotIn] [b] pos) (b2 fa fb (dn true)):=⟨have c:=c.un;have d:=d.un;eQ (L0 e) Cb c d f⟩
theorem DX(i:Nat){b a:Pos}(k:X.N.Nodup)(l:X.N[i]?=some x:=by rfl)(f:c9 X.env.scope x:=by trivial)(hs:swapsWith (.Dict [] [] a) (some (.Name x b)) pos.line X.env=pure false:=by rfl)(g:aae X x:=by trivial):ZS X (.Assign [.Name x b] (.Dict [] [] a) pos) (lX i):=⟨
 PS.imp (jI k l f Rq hs g) λF o H d=>by
  obtain⟨m,j,n,q,G,e,s,h⟩:=d;cases e;intro p c
  exact h _ _ G (s.set_od i (.hid s.seen c _) c (s.seen.free c) (kxs:=[]) (oG (ns:=[]) Yg .nil rfl) .nil .nil)⟩
theorem DY(hu:X.A.units+64<cLine)(i:Nat){g o:Pos}(E:ZC X m fb)(J:ZE X e f)(hN:X.N[i]?=some x:=by rfl)(hv:eW X.env.scope x:=by trivial)(hd:cu x:=by decide)(K:fS x:=by decide)(w:∀v,assign (.Subscript (.Name x g) m o) X.env v=(do
 let z <-holding [v] (eval (.Name x g) X.env)
 let D <-holding [v,z] (eval m X.env)
 standAt o
 holding [v,z,D] (setItem z D v)
 release [v,z,D] []):=by intro _;rfl)(hs:swapsWithSole [.Subscript (.Name x g) m o] e pos.line X.env=pure false:=by rfl)(T:swappedStores [.Subscript (.Name x g) m o] e X.env=pure none:=by rfl)(B:(assignEach [.Subscript (.Name x g) m o] X.env).map (·.2)=[assign (.Subscript (.Name x g) m o) X.env]:=by rfl):ZS X (.Assign [.Subscript (.Name x g) m o] e pos) (oN i fb f):=⟨have E:=E.un;have J:=J.un;
 PS.imp (m3 J (mY (gC hN hv hd K) E (Ce hu) w) hs T B) λF σ H C=>by
  obtain⟨ρ,O,H0,G0,G,e,s,h⟩:=C;obtain⟨d,B,e⟩:=qa e;obtain⟨l,h2,e⟩:=qa e;obtain⟨k,h3,e⟩:=qa e;obtain⟨l',b,rfl⟩:=qc e;obtain⟨ns,R,b⟩:=qa b
  obtain⟨j,rfl⟩:∃j,k=.int j:=by
   symm
  dsimp only at b
  split at b
  case isFalse=>cases b
  rename_i p;have c:=L1 h2;refine tOf.at B s λv H1 G1 g1 r1 L=>?_;obtain⟨Y,_,_,n,_⟩:=L.od i _ _ _ c;refine⟨_,n,tCof.at h3 L λu H2 G2 N r2 M=>?_⟩;obtain⟨a,S,t,w,hG,Z,dc,y,A⟩:=M.od i _ _ _ c;rw[n]at w;cases w;obtain⟨Q,e2,r,V⟩:=gI R dc y;subst r2
  have U:t.length<ax:=by rw[A.length];exact p
  have I:(zK ns t).length<sizeLine:=by
   rw[B9 _ _ r,r,jh];have:ax=1000000:=rfl;ac_nf
  refine⟨Y,_,rfl,DPut.k (k:=Sum.inl j) Q I,?_⟩;have q:=r1.mono N.g;injection b with b;rw[oE r e2];refine h _ _ G2 (M.mutd c n (oG Yg ?_ ?_) ?_ ?_)
  .unfold dj
   symm
  .unfold dj
   split
   .rw[og];exact r
   .simp[r]
  .rw[<-b]
   unfold dj;rw[V]at y
   split
   .exact y
   .rw[wu]
    exact .snoc (by rw[Rp]) y
  .rw[<-b]
   unfold dj
   split
   .exact t_ j q A
   .exact .snoc q A⟩
theorem TN(hu:X.A.units+64<cLine)(t:ZC X o fa)(B:ZC X e1 fb)(g:ZE X e2 fz)(m:M2 X o "get" n e1 e2 j):ZE X (.Call (.Attribute o "get" n) [e1,e2] [] j) (b3 fa fb fz i6):=⟨have t:=t.un;have B:=B.un;have g:=g.un;
 PE.imp (Rr ∅ t B g m) λσ H Q p=>by
  obtain⟨ρ,d,H0,K,G,e,s,h⟩:=p;obtain⟨x,M,e⟩:=qa e;obtain⟨y,Y,e⟩:=qa e;obtain⟨z,T,e⟩:=qa e;obtain⟨ks,f,i,b,rfl,rfl,J,rfl⟩:=SM e;refine tCof.at M s λv H1 G1 V I L=>?_;have q:=I;obtain⟨a,c,D,rfl,O,N,rv⟩:=q;refine⟨a,rfl,.inl ⟨_,.inl (gI J O N).1⟩,tCof.at Y L λu H2 G2 E R P=>tOf.at T P λw W U F Z s3=>?_⟩;subst R;obtain⟨a',C,l,S,r,A,k⟩:=I.grow (E.trans F);cases S;obtain⟨e1,e2,e3,e4⟩:=gI J r A;refine⟨Yn b l i,?_,h _ W U ((V.trans E).trans F) ?_⟩
  .have:=DGet.k (k:=.inl i) e1
   rwa [uE]at this
  .cases g:Yn b f i with
   | none=>
     rwa [(lW i k).2 g]
   | some d=>
     obtain⟨v,f1,f2⟩:=(lW i k).1 d g
     symm⟩
def DZ(c:ZC X a fa)(d:ZC X b fb):ZE X (.BinOp a .RShift b pos) (b2 fa fb eE):=⟨have c:=c.un;have d:=d.un;lO yY (t4 (λ_ _ h=>wt h)) c d⟩
def D0(d:ZC X a fa)(c:ZC X b fb):ZT X (.Compare a [.IsNot] [b] pos) (b2 fa fb (oT true)):=⟨have d:=d.un;have c:=c.un;eQ Cm Co d c (fV _)⟩
theorem D1(y:X.calm=true)(i:Nat){c t b:Pos}(hN:X.N.Nodup)(U:Gl X "dict")(E:X.mg "dict"=none)(m:ZC X e f)(z:X.N[i]?=some x:=by rfl)(R:c9 X.env.scope x:=by trivial)(j:aad X e:=by rfl)(n:(backTo b (starEach [] X.env)).any (·.1)=false:=by rfl)(hs:swapsWith (.Call (.Name "dict" t) [e] [] b) (some (.Name x c)) pos.line X.env=pure false:=by rfl)(K:aae X x:=by trivial):ZS X (.Assign [.Name x c] (.Call (.Name "dict" t) [e] [] b) pos) (fw i f):=⟨have m:=m.un;
 PS.imp (jI hN z R (iW (L_ y) U E (by decide +kernel) (i4 m i3 j) (by decide) (by decide) j n) hs K) λF σ H q=>by
  obtain⟨Z,Y,H0,G0,G,e,s,h⟩:=q;obtain⟨ps,Q,e⟩:=qa e;obtain⟨d,T,u⟩:=qa Q
  split at e
  case isFalse=>cases e
  rename_i g;cases e;refine tCAof.at (show Yb f _ Z=some [d] by simp[Yb,ae,T]) s λvs H1 S g1 M k=>?_;obtain⟨v,rfl,L⟩:=eR M
  cases d with
  | lst l=>
    obtain⟨a,I,rfl,w,V⟩:=L;obtain⟨O,N,r⟩:=Cw k.seen (u) V;refine⟨a,I,O,rfl,.inl w,N,by rw[r.length];exact g,λp o=>?_⟩;obtain⟨C,B,J,A,D⟩:=uH r List.nodup_nil rfl .nil;exact h _ _ S (k.set_od i (.hid k.seen o _) o (k.seen.free o) (oG (by rw[<-B];exact Yg) J A) (.ints _) D)
  | _=>cases u⟩
def D2(e:X.A.units+64<cLine)(c:ZC X a fa)(d:ZC X b fb)(f:behindInMarks .In b=false:=by with_unfolding_all rfl):ZT X (.Compare a [.In] [b] pos) (b2 fa fb (cP false)):=⟨have c:=c.un;have d:=d.un;eQ (CA e) Md c d f⟩
def D3(g:X.A.units+64<cLine)(d:ZC X a fa)(c:ZC X b fb)(h:behindInMarks .NotIn b=false:=by with_unfolding_all rfl):ZT X (.Compare a [.NotIn] [b] pos) (b2 fa fb (cP true)):=⟨have d:=d.un;have c:=c.un;eQ (CB g) Md d c h⟩
def TQ{lo u:Option Expr}(r:ZC X a fa)(m:ZO X lo fl)(t:ZO X u fh):ZE X (.Subscript a (.Slice lo u none O) pos) (oV fa fl fh):=⟨have r:=r.un;have m:=m.un;have t:=t.un;
 PE.imp (KU (.or KZ (.or zR CI)) r m t) λY H Q o=>by
  obtain⟨V,d,R,Z,G,e,s,h⟩:=o;obtain⟨M,A,e⟩:=qa e;obtain⟨i,J,e⟩:=qa e;obtain⟨j,C,e⟩:=qa e;refine tCof.at A s λv T S I B z=>h8 J z λN U y K=>h8 C K λE D x l=>?_;have w:=(B.grow y).grow x;have n:=(I.trans y).trans x;unfold ir at e
  split at e
  .cases e
   obtain⟨p,b,rfl,g,c⟩:=w;refine .inl ⟨p,b,rfl,.inl g,λq f=>h _ _ _ (n.trans (.new l.seen f _)) (⟨q,_,rfl,.inl Yg,?_⟩)⟩;unfold bN el;rw[c.length];exact((c.drop _).take _).mono (Gr.new l.seen f _).g
  .cases e
   obtain⟨p,b,rfl,⟨g,F⟩,c⟩:=w;by_cases k:HT.sIx b.length 0 i=0/\HT.sIx b.length b.length j=b.length
   .refine .inr (.inr ⟨p,b,rfl,.of g,k.1,k.2,h _ E D n (⟨p,b,rfl,F,?_⟩)⟩)
    unfold bN
    rwa [<-c.length,k.1,k.2,List.drop_zero,Nat.sub_zero,c.length,List.take_length]
   .refine .inr (.inl ⟨p,b,rfl,.of g,k,λq f=>h _ _ _ (n.trans (.new l.seen f _)) (⟨q,_,rfl,Yg,?_⟩)⟩)
    unfold bN el;rw[c.length];exact((c.drop _).take _).mono (Gr.new l.seen f _).g
  .cases e⟩
end
def D4(h:ZT X c f):gg X X.K [c] f:=⟨have h:=h.un;λb s d H Q I a=>wpAny_tests_one (h _ s d H Q I a)⟩
def D5(h:ZW X e f):ZT X e f:=⟨PW.pt h.un⟩
section
variable {e e2:Expr}{f:AU}{p:Pos}
theorem TR(A:X.calm=true)(V:Gl X "sorted")(E:X.mg "sorted"=none)(k:Gl X "set")(i:X.mg "set"=none)(t:ZC X e f)(hs:aad X e:=by rfl)(y:starEach [.Call (.Name "set" p2) [e] [] pos2] X.env=[(false,eval (.Call (.Name "set" p2) [e] [] pos2) X.env)]:=by rfl)(g:(backTo pos2 (starEach [] X.env)).any (·.1)=false:=by rfl)(a:(backTo pos (starEach [] X.env)).any (·.1)=false:=by rfl):ZF X (.Call (.Name "sorted" p) [.Call (.Name "set" p2) [e] [] pos2] [] pos) (CQ f):=⟨have t:=t.un;
 PE.imp (nk (Mi A) V E boot_sorted (fX (iW (CO A) k i boot_set (i4 t i3 hs) (by decide) (by decide) hs g) fW y) (by decide) (by decide) y a) λZ H Q b=>by
  obtain⟨D,l,S,T,G,e,s,h⟩:=b;obtain⟨R,I,e⟩:=qa e;obtain⟨d,N,P⟩:=dU I;refine tCAof.at (show Yb f _ D=some [d] by simp[Yb,ae,N]) s λY U O B L u=>?_;obtain⟨v,rfl,J⟩:=eR L;obtain⟨q,xs,rfl,F,K⟩:=nX P J;unfold oY at e
  split at e
  .rename_i M n
   split at e
   .rename_i z
    cases e;cases j5 n;cases j6 K;refine⟨q,M,rfl,F,z.1,λm w j C=>?_⟩;have c:=Gr.hid u.seen j (dq X.prog X.w m w);have x:=u.grow c;refine⟨m,w,rfl,Yg,by rw[C.length_eq];exact z.2,λr o=>?_⟩;rw[Mj C];refine h r _ _ O ((B.trans c).trans (.hid x.seen o _)) ((B.trans c).h.free o) (x.seen.free o) Yg (.ints _)
   .cases e
  .cases e⟩
theorem TU(B:X.calm=true)(hg:Gl X "sorted")(hm:X.mg "sorted"=none)(o:Gl X "set")(t:X.mg "set"=none)(C:ZC X e f)(g:ZC X e2 f2)(hs:starEach [e] X.env=[(false,eval e X.env)]:=by rfl)(u:starEach [e2] X.env=[(false,eval e2 X.env)]:=by rfl)(W:starEach [.BinOp (.Call (.Name "set" p2) [e] [] pos2) .BitXor (.Call (.Name "set" p3) [e2] [] pos3) pos4] X.env=[(false,eval (.BinOp (.Call (.Name "set" p2) [e] [] pos2) .BitXor (.Call (.Name "set" p3) [e2] [] pos3) pos4) X.env)]:=by rfl)(N:(backTo pos2 (starEach [] X.env)).any (·.1)=false:=by rfl)(i:(backTo pos3 (starEach [] X.env)).any (·.1)=false:=by rfl)(j:(backTo pos (starEach [] X.env)).any (·.1)=false:=by rfl):ZF X (.Call (.Name "sorted" p) [.BinOp (.Call (.Name "set" p2) [e] [] pos2) .BitXor (.Call (.Name "set" p3) [e2] [] pos3) pos4] [] pos) (uO f f2):=⟨have C:=C.un;have g:=g.un;
 PE.imp (nk (Mi B) hg hm boot_sorted (fX (tB op_xor (iW (CO B) o t boot_set (i4 C i3 hs) (by decide) (by decide) hs N) (iW (CO B) o t boot_set (i4 g i3 u) (by decide) (by decide) u i)) fW W) (by decide) (by decide) W j) λσ H Q T=>by
  obtain⟨ρ,l,H0,G0,G,e,s,h⟩:=T;obtain⟨l1,h1,e⟩:=qa e;obtain⟨l2,h2,e⟩:=qa e;obtain⟨d1,i1,j1⟩:=dU h1;obtain⟨d2,i2,j2⟩:=dU h2;obtain⟨a,ea,e⟩:=qa e;obtain⟨b,eb,e⟩:=qa e
  split at e
  case isFalse=>cases e
  rename_i hl;obtain⟨R,S,b3,b4,b5,b6⟩:=hl;cases e;cases j5 ea;cases j5 eb;refine tCAof.at (show Yb f ae ρ=some [d1] by simp[Yb,ae,i1]) s λvs H1 G1 g1 r1 U=>?_;obtain⟨v,rfl,rv⟩:=eR r1;obtain⟨q,xs,rfl,T,rl⟩:=nX j1 rv;cases j6 rl;refine⟨q,a,rfl,T,R,λm ns K hp=>?_⟩;have M:=Gr.hid U.seen K (dq X.prog X.w m ns);have s2:=U.grow M;refine tCAof.at (show Yb f2 ae ρ=some [d2] by simp[Yb,ae,i2]) s2 λvs2 H3 G3 D r3 Y=>?_;obtain⟨v2,rfl,A⟩:=eR r3;obtain⟨q2,xs2,rfl,E,I⟩:=nX j2 A;cases j6 I;refine⟨q2,b,rfl,E,S,λm2 ms n d=>?_⟩;have y:=Gr.hid Y.seen n (dq X.prog X.w m2 ms);have V:=Y.grow y;have O:=y.h _ _ (D.h _ _ Yg);refine⟨m,m2,ns,ms,rfl,rfl,O,Yg,λk hk=>?_,by rw[d.length_eq];exact b4,by rw[hp.length_eq];exact b3,λr Z hr L w=>?_⟩
  .have hk':k∈b:=by
    have:=d.mem_iff.mp hk;rw[eF]at this;grind
   ext
  have F:=Gr.hid V.seen hr (dq X.prog X.w r Z);have s5:=V.grow F
  have c:=(List.perm_ext_iff_of_nodup L (C6 a b)).mpr λx=>by
   rw[w,Mr,hp.mem_iff,d.mem_iff,eF,eF];simp
  refine⟨r,Z,rfl,Yg,by rw[c.length_eq];exact b6,λz J=>?_⟩;rw[Mj c]
  exact h z _ _ G3 (((((g1.trans M).trans D).trans y).trans F).trans (.hid s5.seen J _)) (((((g1.trans M).trans D).trans y).trans F).h.free J) (s5.seen.free J) Yg (.ints _)⟩
def D6(a:ZE X e f)(b:swapsWith e none pos.line X.env=pure false:=by rfl):ZS X (.Expr e pos) (kA f):=⟨have a:=a.un;PS.imp (lG a b) λF p H c=>by
 obtain⟨r,q,m,o,G,e,s,h⟩:=c;obtain⟨d,i,rfl⟩:=qc e
 exact tOf.at i s λv k g n l j=>h p k g j⟩
theorem D7(f:ZC X a F)(n:ZC X b fb):ZE X (.BinOp a .Add b pos) (b2 F fb o7):=⟨have f:=f.un;have n:=n.un;PE.imp (tB Da f n) λS H Q g=>by
 obtain⟨T,l,L,U,G,e,s,h⟩:=g;obtain⟨V,O,J,I,c⟩:=nL e;refine tCof.at J s λv N R j x w=>tCof.at I w λu M r d z t=>?_;unfold o7 at c
 split at c
 .split at c
  .rename_i y
   cases c;obtain⟨p,E,rfl,C,k⟩:=x.grow d;obtain⟨q,K,rfl,D,i⟩:=z;refine⟨p,q,E,K,rfl,rfl,.of C.1,.of D.1,by rw[k.length,i.length];exact f7 y,λA=>?_,λ_ B=>?_,λ_ _ m o=>h _ _ _ ((j.trans d).trans (.new t.seen o _)) ?_⟩
   .subst A
    have:=List.eq_nil_of_length_eq_zero (by rw[<-k.length];rfl);refine h _ _ r (j.trans d) ?_;rw[Rp]
    ext
   .subst B
    have:=List.eq_nil_of_length_eq_zero (by rw[<-i.length];rfl);refine h _ _ r (j.trans d) ?_;rw[Rp]
    ext
   .exact⟨m,_,rfl,Yg,(k.append i).mono (Gr.new t.seen o _).g⟩
  .cases c
 .cases c⟩
end
noncomputable def wo(H:Hp)(p:Addr):Hp:=λa=>if a=p then none else H a
def D8(K:W7)(j:Nat)(x:Option (Option V))(b a:Hp)(F:dH):eY->Prop
 | .nx d=>∀c e f,SR K b a c e f d->c[j]?=x->F.nx c e
 | .rt _=>False
 | .bk d=>∀c e f,SR K b a c e f d->c[j]?=x->F.bk c e
 | .ct d=>∀c e f,SR K b a c e f d->c[j]?=x->F.ct c e
def pf(K:W7)(j:Nat)(f:AR):TS:=λF d H=>∃e c b a G,f e=some c/\SR K b a d H G e/\D8 K j d[j]? b a F c
structure KS(j:Nat)(X:Cx)(st:Stmt)(f:AR):Prop where
 un:PS X st (pf X.K j f)
structure KB(j:Nat)(X:Cx)(sts:List Stmt)(f:AR):Prop where
 un:PSs X sts (pf X.K j f)
def D9(K:W7)(j r:Nat)(fb:AR):TS:=λF h H=>∃f c l d b a G,fb f=some (.nx c)/\de j c=some l/\ab r (frz [r] c)=some d/\SR K b a h H G f/\
 ∀v e g i,SR K b a e g i (frz [r] c)->e[j]?=h[j]?->Rp K i d v->F.rt v g
structure KR(j r:Nat)(X:Cx)(sts:List Stmt)(f:AR):Prop where
 un:PSs X sts (D9 X.K j r f)
def D_(K:W7)(c:AV)(fb:AR):TS:=λF i H=>∃g d l a b G,fb g=some (.nx d)/\c d=some l/\SR K a b i H G g/\
 ∀p h e f,Gr a b e f->a p=none->f p=none->e p=some (.lst h)->RpL K f l h->F.rt (.ref p) e
structure KL(gl:AV)(X:Cx)(sts:List Stmt)(f:AR):Prop where
 un:PSs X sts (D_ X.K gl f)
def iv{us:AC}(h:us.length=1):∃a,us=[a]:=List.length_eq_one_iff.mp h
theorem gi{us:AC}(h:us.length=2):∃c b,us=[c,b]:=by
 cases us with
 | nil=>cases h
 | cons a us=>
   obtain⟨d,rfl⟩:=iv (Nat.succ.inj h);grind
theorem fA{us:AC}(h:us.length=3):∃c b d,us=[c,b,d]:=by
 cases us with
 | nil=>cases h
 | cons a us=>
   obtain⟨e,b1,rfl⟩:=gi (Nat.succ.inj h);grind
theorem pj{us:AC}(h:us.length=4):∃c b e d,us=[c,b,e,d]:=by
 cases us with
 | nil=>cases h
 | cons a us=>
   obtain⟨f,b1,b2,rfl⟩:=fA (Nat.succ.inj h);grind
def pk{us:AC}(h:us.length=5):∃a0 a1 a2 a3 a4,us=[a0,a1,a2,a3,a4]:=by
 cases us with
 | nil=>cases h
 | cons a us=>
   obtain⟨b0,b1,b2,b3,rfl⟩:=pj (Nat.succ.inj h);exact⟨a,b0,b1,b2,b3,rfl⟩
theorem pq{us:AC}(h:us.length=6):∃e d g f b c,us=[e,d,g,f,b,c]:=by
 cases us with
 | nil=>cases h
 | cons a us=>
   obtain⟨j,b1,b2,b3,i,rfl⟩:=pk (Nat.succ.inj h);grind
theorem Ea{us:AC}(h:us.length=7):∃c g i f b e d,us=[c,g,i,f,b,e,d]:=by
 cases us with
 | nil=>cases h
 | cons a us=>
   obtain⟨l,b1,b2,b3,k,j,rfl⟩:=pq (Nat.succ.inj h);grind
end M
namespace M
variable {prog:P7}{fp wr:List Addr}{K:W7}{X:Cx}{es rest ifs elts:AK}{fa fk fz f2 fo:AU}{pos pos' p2 pos2 px dpos p3 pos3 pos4 apos p1 cpos:Pos}{pins:AB}{gl:AV}{st:Stmt}{sts:List Stmt}{tg elt iter ie ke f':Expr}{scope:Scope}{mg:AD}{base:Heap}{x1:Nat}
open PySem L2
def nr{c:Sort _}{a b:c}(h:a=b):a=b:=h
section
variable {ρ:Ro}
@[simp] def Eb(a fb:AU)(g:D->D->Option b):b2 a fb g ρ=(a ρ).bind λx=>(fb ρ).bind λy=>g x y:=nr rfl
@[simp] def Ec(a:AU)(g:D->Option b):b1 a g ρ=(a ρ).bind g:=nr rfl
@[simp] def ML(d:D):kD d ρ=some d:=nr rfl
@[simp] def MM(f:AT):mB f ρ=(f ρ).map D.bl:=nr rfl
@[simp] def uV(f g:AT):b_ f g ρ=(f ρ).bind λk=>if k=true then g ρ else some false:=nr rfl
@[simp] def Ed(f g:AT):f6 f g ρ=(f ρ).bind λk=>if k=true then some true else g ρ:=nr rfl
@[simp] def uW(f:AT):d8 f ρ=(f ρ).map (!·):=nr rfl
@[simp] def uX(f g:AU):ey f g ρ=((f ρ).bind j0).bind λk=>if k=true then g ρ else some (.bl false):=nr rfl
@[simp] def uY(f:AU):hY f ρ=((f ρ).bind j0).map λk=>.bl (!k):=nr rfl
@[simp] def Ee(c:AT)(f g:AU):i0 c f g ρ=(c ρ).bind λk=>if k=true then f ρ else g ρ:=nr rfl
@[simp] def MN(f:AV):lF f ρ=(f ρ).map D.lst:=nr rfl
@[simp] def uZ:ae ρ=some []:=nr rfl
@[simp] def pv(f:AU)(g:AV):Yb f g ρ=(f ρ).bind λd=>(g ρ).map (d::·):=nr rfl
@[simp] def u3(f:AV):ar f ρ=(f ρ).bind λl=>if l.length<=ax then some (.tup l)else none:=nr rfl
@[simp] def u4(f:AV):bE f ρ=(f ρ).bind λl=>if l.length<=ax then some l else none:=nr rfl
@[simp] def MO(f:AV)(g:AN->Option D):cC f g ρ=(f ρ).bind g:=nr rfl
@[simp] def MQ(f:AV)(g:AN->Option AN):cF f g ρ=(f ρ).bind g:=nr rfl
@[simp] def Ef(f:AU)(a b:Option AU):t6 f a b ρ=((f ρ).bind e_).bind λl=>(cV a ρ).bind λi=>(cV b ρ).bind λj=>some (bN l i j):=nr rfl
@[simp] def u5:cV none ρ=some none:=nr rfl
@[simp] def u6(f:AU):cV (some f) ρ=((f ρ).bind hZ).map some:=nr rfl
@[simp] def u7:aw ρ=some (.nx ρ):=nr rfl
@[simp] def MR(i:Nat)(f:AU):aq i f ρ=(f ρ).map λd=>.nx (ρ.set i (↑d)):=nr rfl
@[simp] def u9(i:Nat)(f:AV):bb i f ρ=(f ρ).map λl=>.nx (ρ.set i (some (.ow l))):=nr rfl
@[simp] def u_(f:AU):ah f ρ=(f ρ).map .rt:=nr rfl
@[simp] def Eg(c:AT)(f g:AR):aV c f g ρ=(c ρ).bind λk=>if k=true then f ρ else g ρ:=nr rfl
@[simp] def Eh(i:Nat)(f:AU)(g:AN->D->Option AN):cW i f g ρ=(de i ρ).bind λl=>(f ρ).bind λd=>(g l d).map λa=>.nx (ρ.set i (some (.ow a))):=nr rfl
@[simp] def va(a:AV)(gt:AS)(fb:AR):a_ a gt fb ρ=(a ρ).bind λb=>forM gt fb b ρ:=nr rfl
@[simp] def pz(a:AV)(b:List AL)(gt:AS)(fc:AT)(fe:AU):bu a b gt fc fe ρ=(a ρ).bind λc=>cT gt fc fe (ak b ρ) c:=nr rfl
@[simp] def kE(a:AE)(f:AR):wF a f ρ=f (frz a ρ):=nr rfl
@[simp] def MU:tY ρ=some true:=nr rfl
@[simp] def vc(i:Nat)(d:D):ai i d ρ=some (ρ.set i (↑d)):=nr rfl
noncomputable def kF(g:AR):eY->Option eY
 | .nx a=>g a
 | o=>some o
@[simp] def l_(g:AR)(ρ':Ro):kF g (.nx ρ')=g ρ':=nr rfl
@[simp] def pA(g:AR)(d:D):kF g (.rt d)=some (.rt d):=nr rfl
@[simp] def eh(f g:AR):ag f g ρ=(f ρ).bind (kF g):=nr rfl
noncomputable def endB:eY->Option D
 | .rt d=>some d
 | .nx _=>some .non
 | _=>none
@[simp] def vf(d:D):endB (.rt d)=some d:=nr rfl
@[simp] def vg(ρ:Ro):endB (.nx ρ)=some .non:=nr rfl
def Yj(h:a.length=k):aj k n fb a=(fb (Yd n a)).bind endB:=by
 unfold aj;rw[if_pos h];rfl
@[simp] def pB(a:AE)(f:AU):oy a f ρ=(f (frz a ρ)).bind scal:=nr rfl
@[simp] def Ei(b fb fc:AU)(g a:D->D->Option Bool):uD b fb fc g a ρ=(b ρ).bind λx=>(fb ρ).bind λy=>(g x y).bind λk=>if k=true then (fc ρ).bind λz=>a y z else some false:=nr rfl
@[simp] def pC(i:Int):scal (.int i)=some (.int i):=nr rfl
@[simp] def pD:scal .non=some .non:=nr rfl
@[simp] def vh:frz [] ρ=ρ:=nr rfl
@[simp] def pE(i:Nat)(a:AE):frz (i::a) ρ=frz a (frz1 i ρ):=nr rfl
end
@[simp] def Ej(C:Int->Int->Bool)(g:Int->Int->Int)(i j:Int):i2 C g (.int i) (.int j)=if C i j=true then some (.int (g i j))else none:=nr rfl
@[simp] def pF(i j:Int):cM (.int i) (.int j)=some (.int (i+j)):=nr rfl
@[simp] def pG(i j:Int):eZ (.int i) (.int j)=some (.int (i-j)):=nr rfl
def Ek(h:-(2^64)<i/\i<2^64):fZ (.int i) (.int j)=some (.int (i*j)):=by
 simp only[fZ,i2];rw[if_pos];simp only[Bool.or_eq_true,Qe,wm];exact .inl h
@[simp] theorem El(h:0<j)(a:j<1073741824):dg (.int i) (.int j)=some (.int (i/j)):=by
 simp only[dg,i2];rw[if_pos];simp [wm];exact⟨h,a⟩
@[simp] theorem TV(h:0<j):a8 (.int i) (.int j)=some (.int (i%j)):=by
 simp only[a8,i2];rw[if_pos];simp [wm];exact h
@[simp] def vi(i j:Int):gE (.int i) (.int j)=some (decide (i<j)):=nr rfl
@[simp] def vj(i j:Int):Lo (.int i) (.int j)=some (decide (i<=j)):=nr rfl
@[simp] def vk(i j:Int):AI (.int i) (.int j)=some (decide (j<i)):=nr rfl
@[simp] def vl(i j:Int):AO (.int i) (.int j)=some (decide (j<=i)):=nr rfl
@[simp] def Em(b:Bool):j0 (.bl b)=some b:=nr rfl
@[simp] def vm(b:Bool):aQ (.bl b)=some b:=nr rfl
@[simp] def pH(l:AN):aQ (.lst l)=some (!l.isEmpty):=nr rfl
@[simp] def pI(l:AN):aQ (.tup l)=some (!l.isEmpty):=nr rfl
@[simp] def jm(l:AN):Yc (.tup l)=some l:=nr rfl
@[simp] def jn(l:AN):Yc (.lst l)=some l:=nr rfl
@[simp] def jo(ns:AF):Yc (.scr ns)=some (ns.map D.int):=nr rfl
@[simp] def pJ(c:D):aU [c]=(Yc c).map λl=>.int l.length:=nr rfl
@[simp] def pK(c:D):a9 [c]=(Yc c).map D.tup:=nr rfl
@[simp] def ma(c:D):nY [c]=Yc c:=nr rfl
@[simp] def En(c:D)(i:Int):ao c (.int i)=(Yc c).bind λl=>bD l i:=nr rfl
@[simp] def pL(l:AN):e_ (.lst l)=some l:=nr rfl
@[simp] def pM(ns:AF):e_ (.scr ns)=some (ns.map D.int):=nr rfl
@[simp] def pN(i:Int):hZ (.int i)=some i:=nr rfl
@[simp] def pO(i:Int):di (.int i)=some (.int (-i)):=nr rfl
@[simp] theorem Eo(i j:Int):bQ (.int i) (.int j)=(i==j):=by simp[bQ,aE,PyData.eqv]
@[simp] theorem Ep(i j:Bool):bQ (.bl i) (.bl j)=(i==j):=by simp[bQ,aE,PyData.eqv]
@[simp] theorem vn(i j:Str):bQ (.str i) (.str j)=(i==j):=by simp[bQ,aE,PyData.eqv]
@[simp] theorem vo(l m:AN):bQ (.tup l) (.tup m)=g_ l m:=by simp[bQ,g_,aE,PyData.eqv]
@[simp] theorem vp:g_ [] []=true:=by simp[g_,da,PyData.eqvAll]
@[simp] theorem pP(a b:D)(l m:AN):g_ (a::l) (b::m)=(bQ a b&&g_ l m):=by simp[g_,bQ,da,PyData.eqvAll]
@[simp] theorem Er(b:D)(m:AN):g_ (b::m) []=false:=by simp[g_,da,PyData.eqvAll]
@[simp] theorem vq(i:Int):bo (.int i)=0:=by simp[bo]
@[simp] theorem Es(i:Bool):bo (.bl i)=0:=by simp[bo]
@[simp] theorem vr(i:Str):bo (.str i)=0:=by simp[bo]
@[simp] theorem vt:bo .non=0:=by simp[bo]
@[simp] theorem vu(l:AN):bo (.tup l)=bR l+1:=by simp[bo]
@[simp] theorem pQ:bR []=0:=by simp[bR]
@[simp] theorem md(d:D)(l:AN):bR (d::l)=max (bo d) (bR l):=by simp[bR]
theorem pR(h:bo d<=60)(b:bo e<=60):aI a d e=some (if a then !bQ d e else bQ d e):=by
 unfold aI;grind
theorem pS(b:Yc c=some l)(h:bo d<=60)(e:bR l<=60):dV a d c=some (if a then !hV d l else hV d l):=by
 unfold dV
 ext
theorem vv{d:Type}(enc:d->D)(p:d->Bool)(f:d->D):∀(l:List d),(∀a∈l,∃c,gt (enc a) ρ=some c/\fc c=some (p a)/\(p a=true->fe c=some (f a)))->
 cT gt fc fe ρ (l.map enc)=some ((l.filter p).map f)
 | [],_=>rfl
 | a::l,h=>by
   obtain⟨c,e,i,g⟩:=h a qh;have j:=vv enc p f l λb k=>h b (qg _ k);rw[Qd,cT];grind
@[simp] theorem pT(a:b)(l:List b):bD (a::l) 0=some a:=by
 have:=lM (xs:=a::l) (j:=0) rfl;simpa using this
@[simp] theorem vw(a b:c)(l:List c):bD (a::b::l) 1=some b:=by
 have:=lM (xs:=a::b::l) (j:=1) rfl;simpa using this
def pU{j:Nat}(a:i=(j:Int))(h:l[j]?=some v):bD l i=some v:=by
 subst a;exact lM h
theorem gM{g:Type}(enc:g->D)(I:List g->Ro->Prop):∀(l c:List g) (ρ:Ro),I c ρ->
 (∀q a r ρ,c++l=q++a::r->I q ρ->∃f d,gt (enc a) ρ=some f/\fb f=some (.nx d)/\I (q++[a]) d)->∃ρ',M.forM gt fb (l.map enc) ρ=some (.nx ρ')/\I (c++l) ρ'
 | [],c,ρ,n,_=>⟨ρ,rfl,by ext⟩
 | a::l,c,ρ,n,m=>by
   obtain⟨f,d,o,p,j⟩:=m c a l ρ rfl n;obtain⟨ρ',h,k⟩:=gM enc I l _ d j λq b r ρ e i=>m q b r ρ (by ext) i;refine⟨ρ',?_,by ext⟩
   rwa [Qd,M.forM,o,qd,p]
def mf(a n:Int):cX a n=(List.range (n-a).toNat).map λi=>D.int (a+(i:Nat)):=rfl
theorem pV(h:-1000000<=n)(b:n<=1000000):dh [.int n]=some (cX 0 n):=by
 have a:ax=1000000:=by decide
 simp only[dh];rw[if_pos];simp only[Qe]
 ext
theorem Et(h:-1000000<=n)(e:n<=1000000)(d:-1000000<=a)(c:a<=1000000):fg [.int a,.int n]=some (cX a n):=by
 have b:ax=1000000:=by decide
 simp only[fg]
 ext
theorem Eu(h0:0<=i)(h:i<(l.length:Int)):∃v,v∈l/\bD l i=some v:=by
 have a:i.toNat<l.length:=by ext
 exact⟨l[i.toNat],List.getElem_mem a,pU (by ext<;>lia) (qr a)⟩
def mh{i:Nat}(h:i<l.length):bD l (i:Int)=some l[i]:=lM (qr h)
theorem gN(f:a->b)(l:List a)(i:Int):bD (l.map f) i=(bD l i).map f:=by
 unfold bD;rw[qf]
 cases iZ _ i with
 | none=>rfl
 | some j=>
   ext
@[simp] theorem kG(x b:Nat):((x:Int)=(b:Int))↔x=b:=by ac_nf
@[simp] theorem vy(a:Bool)(i j:Int):aI a (.int i) (.int j)=some (if a then !decide (i=j)else decide (i=j)):=by
 rfl
@[simp] theorem Ew(a:Bool)(i j:Bool):aI a (.bl i) (.bl j)=some (if a then !(i==j)else i==j):=by
 rw[pR nofun nofun,Ep]
@[simp] theorem vz(a:Bool):bU a .non .non=some (if a then false else true):=by cases a<;>rfl
@[simp] theorem vA(a:Bool)(i:Int):bU a (.int i) .non=some (if a then true else false):=by cases a<;>rfl
@[simp] theorem vB(a:Bool)(l:AN):bU a (.tup l) .non=some (if a then true else false):=by cases a<;>rfl
@[simp] theorem Ex(a:Bool)(l:Bool):bU a (.bl l) .non=some (if a then true else false):=by cases a<;>rfl
@[simp] theorem MV{b:Type}(f:b->Bool):∀l:List b,bO (l.map λa=>.bl (f a))=some (l.map f)
 | []=>rfl
 | a::l=>by rw[Qd,bO,MV f l];rfl
@[simp] theorem vC{b:Type}(f:b->Int):∀l:List b,intsD (l.map λa=>.int (f a))=some (l.map f)
 | []=>rfl
 | a::l=>by rw[Qd,intsD,vC f l];rfl
@[simp] theorem mi(l:AF):intsD (l.map D.int)=some l:=by simpa using vC id l
@[simp] def pW(l:AN):eB [.lst l]=(bO l).map λa=>.bl (a.any id):=nr rfl
@[simp] def pX(l:AN):gc [.lst l]=(bO l).map λa=>.bl (a.all id):=nr rfl
@[simp] def vD(i:Nat)(f:AU):j4 i f ρ=(ab i ρ).bind λx=>(f ρ).bind λy=>(i2 (λ_ _=>true) (λa b=>a+b) x y).map λz=>.nx (ρ.set i (↑z)):=nr rfl
@[simp] def pY(c:D):fH c=(Yc c).map fi:=nr rfl
@[simp] def Ey:ax=1000000:=nr rfl
@[simp] def TX(d:D)(r:Ro):ab 0 (some (.sh d)::r)=some d:=nr rfl
@[simp] def TY(d:D)(r:Ro):aa 0 (some (.sh d)::r)=some d:=nr rfl
@[simp] def TZ(l:AN)(r:Ro):aa 0 (some (.ow l)::r)=some (.lst l):=nr rfl
@[simp] def gO0(l:AN)(r:Ro):de 0 (some (.ow l)::r)=some l:=nr rfl
@[simp] theorem T1(n:Nat)(b:AQ)(r:Ro):ab (n+1) (b::r)=ab n r:=by simp[ab]
@[simp] theorem T2(n:Nat)(b:AQ)(r:Ro):aa (n+1) (b::r)=aa n r:=by simp[aa]
@[simp] theorem gOs(n:Nat)(b:AQ)(r:Ro):de (n+1) (b::r)=de n r:=by simp[de]
@[simp] def MX(l:AN)(r:Ro):frz1 0 (some (.ow l)::r)=some (.sh (.lst l))::r:=nr rfl
@[simp] def MY(d:D)(r:Ro):frz1 0 (some (.sh d)::r)=some (.sh d)::r:=nr rfl
@[simp] theorem MZ(n:Nat)(b:AQ)(r:Ro):frz1 (n+1) (b::r)=b::frz1 n r:=by
 unfold frz1;rw[List.getElem?_cons_succ]
 cases h:r[n]? with
 | none=>rfl
 | some o=>
   cases o with
   | none=>rfl
   | some b=>cases b<;>rfl
def M0(h:a.length+b.length<=1000000):cY (.lst a) (.lst b)=some (a++b):=if_pos h
def vE(h:l.length<1000000):cb l d=some (l++[d]):=if_pos h
def dD{r:Ro}{b:Type}{enc:b->D}(f:b->D){l:List b}(h:∀a∈l,fe (some (.sh (enc a))::r)=some (f a)):cT (ai 0) tY fe (none::r) (l.map enc)=some (l.map f):=by
 have:=vv (gt:=ai 0) (fc:=tY) (ρ:=none::r) enc _ f l λa c=>⟨_,rfl,rfl,λ_=>h a c⟩
 rwa [List.filter_eq_self.mpr (λ_ _=>rfl)]at this
def gO{r:Ro}{b:Type}{enc:b->D}(p:b->Bool)(f:b->D){l:List b}(e:∀a∈l,fc (some (.sh (enc a))::r)=some (p a))(d:∀a∈l,p a=true->fe (some (.sh (enc a))::r)=some (f a)):
 cT (ai 0) fc fe (none::r) (l.map enc)=some ((l.filter p).map f):=
 vv enc p f l λa c=>⟨_,rfl,e a c,d a c⟩
def Ez{fc:AT}{fe:AU}{r:Ro}{b:Type}{e1 e2:b->D}(p:b->Bool)(f:b->D){l:List b}(e:∀a∈l,fc (some (.sh (e1 a))::some (.sh (e2 a))::r)=some (p a))(d:∀a∈l,p a=true->fe (some (.sh (e1 a))::some (.sh (e2 a))::r)=some (f a)):
 cT (ez 0 1) fc fe (none::none::r) (l.map λa=>.tup [e1 a,e2 a])=some ((l.filter p).map f):=
 vv _ p f l λa c=>⟨_,rfl,e a c,d a c⟩
def EA{a:Type}(enc:a->D)(d:a)(l:List a):fi (l.map enc)=(List.range l.length).map λi=>.tup [.int i,enc (l.getD i d)]:=by
 unfold fi;rw[qf];refine Qq λi b=>?_;simp[Qb b]
end M
namespace Bk
open PySem L2 M
abbrev aC:=Nat×Bool
abbrev AX:=List aC
abbrev AW:=List AX
inductive Kd where
 | e|s|i|n
 deriving DecidableEq
inductive Rl where
 | ei (l:AX)
 | su (b:AE) (o:Bool)
 | im (b:AE) (h:AL)
 deriving DecidableEq
noncomputable def kS:Kd->Str
 | .e=>.ofString "eithers"
 | .s=>.ofString "sums"
 | .i=>.ofString "ifs"
 | .n=>.ofString "nots"
def bf(k:Kd):D:=.str (kS k)
noncomputable abbrev nD(n:Nat):D:=.int n
noncomputable def af(s:aC):D:=.tup [.int s.1,.bl s.2]
noncomputable def av:AL->D
 | none=>.non
 | some n=>.int n
def aK:Rl->D
 | .ei l=>.tup (l.map af)
 | .su b o=>.tup [.tup (b.map nD),.bl o]
 | .im b h=>.tup [.tup (b.map nD),av h]
def Yl(k:Kd)(R:List Rl):D:=.tup [bf k,.tup (R.map aK)]
@[simp] theorem EB(k:Kd):bo (bf k)=0:=by simp[bf]
@[simp] theorem vF(s:aC):bo (af s)=1:=by simp[af]
@[simp] theorem vG(h:AL):bo (av h)=0:=by cases h<;>simp[av]
def EC:∀{k j:Kd},kS k=kS j->k=j:=by
 intro k j
 cases k<;>cases j<;>first|(intro _;rfl)|(exact λh=>absurd h (by decide +kernel))
@[simp] theorem ED(k j:Kd):bQ (bf k) (bf j)=decide (k=j):=by
 rw[bf,bf];by_cases h:k=j
 .simp[h]
 .have a:¬_:=λe=>h (EC e)
  simp[h,a]
def vH(a:Bool)(k j:Kd):aI a (bf k) (bf j)=some (if a then !decide (k=j)else decide (k=j)):=by
 rw[pR nofun nofun,ED]
@[simp] theorem M3(a:Bool)(k:Kd):aI a (bf k) (.str (Str.ofString "eithers"))=some (if a then !decide (k=.e)else decide (k=.e)):=vH a k .e
@[simp] theorem M4(a:Bool)(k:Kd):aI a (bf k) (.str (Str.ofString "sums"))=some (if a then !decide (k=.s)else decide (k=.s)):=vH a k .s
@[simp] theorem M5(a:Bool)(k:Kd):aI a (bf k) (.str (Str.ofString "ifs"))=some (if a then !decide (k=.i)else decide (k=.i)):=vH a k .i
@[simp] theorem M6(a:Bool)(k:Kd):aI a (bf k) (.str (Str.ofString "nots"))=some (if a then !decide (k=.n)else decide (k=.n)):=vH a k .n
@[simp] theorem pZ(a b:Nat):bQ (nD a) (nD b)=decide (a=b):=by
 rw[Eo];grind
@[simp] theorem M7(s t:aC):bQ (af s) (af t)=decide (s=t):=by
 obtain⟨a,p⟩:=s;obtain⟨b,q⟩:=t;have:=pZ a b;simp [af,this];by_cases d:a=b<;>by_cases c:p=q<;>simp[c]
theorem EE{c:Type}[DecidableEq c]{enc:c->D}(e:∀a b,bQ (enc a) (enc b)=decide (a=b))(s:c):∀l:List c,hV (enc s) (l.map enc)=decide (s∈l)
 | []=>by simp[hV]
 | t::l=>by
   have d:=EE e s l;unfold hV at d ⊢;grind
theorem EF:∀{l:AN},(∀d∈l,bo d<=n)->bR l<=n
 | [],_=>by simp
 | d::l,h=>Nat.max_le.mpr ⟨h d qh,EF λe a=>h e (qg _ a)⟩
theorem p_(s:aC)(l:AX)(a:Bool)(e:Yc c=some (l.map af)):dV a (af s) c=some (if a then !decide (s∈l)else decide (s∈l)):=by
 rw[pS e nofun (EF λd b=>by obtain⟨x,_,rfl⟩:=qy b;simp),EE M7];symm
def eG(s:Nat)(l:AE)(a:Bool)(e:Yc c=some (l.map nD)):dV a (nD s) c=some (if a then !decide (s∈l)else decide (s∈l)):=by
 rw[pS e nofun (EF λd b=>by obtain⟨x,_,rfl⟩:=qy b;simp),EE pZ]
@[simp] theorem vI(s:aC):(Yc (af s)).bind (λl=>bD l 0)=some (.int s.1):=by simp[af]
@[simp] theorem vJ(s:aC):(Yc (af s)).bind (λl=>bD l 1)=some (.bl s.2):=by simp[af]
@[simp] def qb(l:AX):Yc (aK (.ei l))=some (l.map af):=nr rfl
@[simp] def qq(b:AE)(o:Bool):Yc (aK (.su b o))=some [.tup (b.map nD),.bl o]:=nr rfl
@[simp] def qA(b:AE)(h:AL):Yc (aK (.im b h))=some [.tup (b.map nD),av h]:=nr rfl
@[simp] def kH(k:Kd)(R:List Rl):Yc (Yl k R)=some [bf k,.tup (R.map aK)]:=nr rfl
noncomputable def at'(ev:AG)(n:Nat):Bool:=ev.getD n false
def iw{ev:AG}(h:n<ev.length):bD (ev.map D.bl) (n:Int)=some (.bl (at' ev n)):=by
 rw[gN,mh h];simp[at',h]
def In(k:Kd)(n:Nat):Rl->Prop
 | .ei l=>k=.e/\∀s∈l,s.1<n
 | .su b _=>k=.s/\∀x∈b,x<n
 | .im b h=>(k=.i\/k=.n)/\(∀x∈b,x<n)/\∀x,h=some x->x<n
def vK(s t:aC):Prop:=s.1<t.1\/(s.1=t.1/\s.2=false/\t.2=true)
def gj:Rl->Prop
 | .ei l=>l.length<=2/\l.Pairwise vK
 | .su b _=>b.Pairwise (·<·)
 | .im b _=>b.Pairwise (·<·)
def hd(ev:AG)(w:Bool):AL->Bool
 | none=>false
 | some x=>at' ev x==w
noncomputable def ix(R:List Rl)(i:Nat):Rl:=R.getD i (.ei [])
def M8{R:List Rl}{i:Nat}(h:i<R.length):ix R i∈R:=by simp[ix,h]
def EG(R:List Rl):fi (R.map aK)=(List.range R.length).map λi:Nat=>.tup [.int (i:Int),aK (ix R i)]:=EA aK _ R
def so(k:Kd)(ev:AG):Rl->Bool
 | .ei l=>l.any λs=>at' ev s.1==s.2
 | .su b o=>decide ((b.filter (at' ev)).length%2=1)==o
 | .im b h=>(b.any λx=>at' ev x != decide (k=.i))||hd ev (decide (k=.i)) h
end Bk
namespace Bk
def brk(k:Kd)(ev:AG)(R:List Rl):AE:=(List.range R.length).filter λi=>!so k ev (ix R i)
end Bk
namespace Bk
open PySem L2 M
noncomputable def wo(b:Nat)(l:AE):AE:=l.filter λx=>!decide (x=b)
noncomputable def qC(b:Nat)(l:AX):AX:=l.filter λs=>!decide (s.1=b)
def T3(k:Kd)(R:List Rl):D.tup [bf k,.tup (R.map aK)]=Yl k R:=rfl
def M9(l:AX):D.tup (l.map af)=aK (.ei l):=rfl
def M_(l:AE)(h:AL):D.tup [.tup (l.map nD),av h]=aK (.im l h):=rfl
def EH(l:AE):D.tup [.tup (l.map nD),.non]=aK (.im l none):=rfl
def bC(k:Kd)(b:Nat)(a:Bool):Rl->Option Rl
 | .ei l=>if (b,a)∈l then none else some (.ei (qC b l))
 | .su l o=>if b∈l then (if wo b l=[]/\o=a then none else some (.su (wo b l) (o != a)))else some (.su l o)
 | .im l h=>if (h=some b/\a=decide (k=.i))\/(b∈l/\¬a=decide (k=.i))then none else some (.im (wo b l) (if h=some b then none else h))
def bS:Option Rl->D
 | none=>.non
 | some r=>aK r
@[simp] theorem EI(a:Bool)(r:Rl):bU a (aK r) .non=some (if a then true else false):=by cases r<;>cases a<;>rfl
@[simp] theorem vL(a:Bool)(h:AL)(b:Nat):aI a (av h) (.int (b:Int))=some (if a then !decide (h=some b)else decide (h=some b)):=by
 cases h with
 | none=>
   rw[pR nofun nofun]
   have:bQ (av none) (.int b)=false:=by simp[av,bQ,aE,PyData.eqv]
   rw[this];simp
 | some x=>
   show aI a (.int x) _=_;simp
theorem kI:∀Q:List (Option Rl),((Q.filter λo=>o.isSome).map bS)=(Q.filterMap id).map aK
 | []=>rfl
 | none::Q=>by
   have:=kI Q;simpa using this
 | some r::Q=>by
   have:=kI Q;simp[this,bS]
noncomputable def sz:Rl->Nat
 | .ei l=>l.length
 | .su b _=>b.length
 | .im b _=>b.length
theorem Na{n:Nat}:∀{l:AE}{a:Nat},l.Pairwise (·<·)->(∀x∈l,a<=x/\x<n)->l.length<=n-a
 | [],_,_,_=>Qh _
 | x::l,a,h,d=>by
   have e:=d x qh;have c:=List.pairwise_cons.mp h
   have f:=Na c.2 λy b=>⟨c.1 y b,(d y (qg _ b)).2⟩
   rw[qt];ac_nf
def EJ{n:Nat}{l:AE}(h:l.Pairwise (·<·))(a:∀x∈l,x<n):l.length<=n:=Na h λx b=>⟨Qh _,a x b⟩
theorem iy{k:Kd}{n:Nat}{r:Rl}(a:In k n r)(hs:gj r):sz r<=n+2:=by
 cases r with
 | ei l=>exact Qg hs.1 (by lia)
 | su b o=>exact Qg (EJ hs a.2) (by lia)
 | im b o=>exact Qg (EJ hs a.2.1) (by lia)
end Bk
namespace Bk
noncomputable def bZ:Rl->AE
 | .ei l=>l.map (·.1)
 | .su b _=>b
 | .im b none=>b
 | .im b (some x)=>b++[x]
def EL{b:Nat}{l:AE}(h:b∉l):wo b l=l:=List.filter_eq_self.mpr λx a=>by
 have:¬x=b:=λe=>h (e ▸ a);simp[this]
theorem T4{k:Kd}{b:Nat}{d:Bool}{r:Rl}(h:b∉bZ r):bC k b d r=some r:=by
 cases r with
 | ei l=>
   have a:_∉l:=λe=>h (List.mem_map.mpr ⟨(b,d),e,rfl⟩)
   have c:qC b l=l:=List.filter_eq_self.mpr λs f=>by
    have:¬_:=λe=>h (List.mem_map.mpr ⟨s,f,e⟩);simp[this]
   simp[bC,a,c]
 | su l o=>simp[bC,show b∉l from h]
 | im l o=>
   cases o with
   | none=>
     have a:b∉l:=h;simp[bC,a,EL a]
   | some x=>
     have a:b∉l:=λe=>h (by simp[bZ,e]);have c:¬x=b:=λe=>h (by simp[bZ,e]);simp[bC,a,c,EL a]
end Bk
namespace Bk
open PySem L2 M
def mem_wo{b x:Nat}{l:AE}:x∈wo b l↔x∈l/\x≠b:=by simp[wo]
def mem_woS{b:Nat}{s:aC}{l:AX}:s∈qC b l↔s∈l/\s.1≠b:=by simp[qC]
def qD{k:Kd}{n:Nat}{r:Rl}(h:In k n r):∀x∈bZ r,x<n:=by
 cases r with
 | ei l=>
   intro x a;obtain⟨s,c,rfl⟩:=qy a;exact h.2 s c
 | su b o=>exact h.2
 | im b o=>
   intro x a
   cases o with
   | none=>exact h.2.1 x a
   | some y=>
     rcases qw a with a|a
     .exact h.2.1 x a
     .rw[List.mem_singleton.mp a];exact h.2.2 y rfl
theorem T5{k:Kd}{n:Nat}{ev:AG}{b:Nat}{r:Rl}(v:In k n r)(hs:gj r)(h:bC k b (at' ev b) r=none):so k ev r=true:=by
 cases r with
 | ei l=>
   rw[bC]at h
   split at h
   .rename_i f
    rw[so,List.any_eq_true];exact⟨_,f,by simp⟩
   .cases h
 | su l o=>
   rw[bC]at h
   split at h
   .rename_i f
    split at h
    .rename_i j
     obtain⟨g,q⟩:=j
     have d:=λx t=>Classical.byContradiction λi=>by
      have:x∈wo b l:=mem_wo.mpr ⟨t,i⟩;rw[g]at this;cases this
     have s:l=[b]:=by
      have p:=hs
      match l,d,p,f with
      | [],_,_,f=>cases f
      | [a],d,_,_=>rw[d a qh]
      | a::c::l,d,p,_=>
        have u:=d a qh;have w:=d c (qg _ qh);have:=(List.pairwise_cons.mp p).1 c qh
        ext
     subst s;rw[so,q];cases m:at' ev b<;>simp[m]
    .cases h
   .cases h
 | im l o=>
   rw[bC]at h
   split at h
   .rename_i j
    rcases j with⟨rfl,g⟩|⟨f,g⟩
    .rw[so,hd,g]
     simp
    .rw[so]
     have:(l.any λx=>at' ev x != decide (k=.i))=true:=by
      rw[List.any_eq_true];exact⟨b,f,by simpa [bne_iff_ne]using g⟩
     rw[this];rfl
   .cases h
theorem qE{b:Nat}{ev:AG}:∀{l:AE},l.Pairwise (·<·)->b∈l->(l.filter (at' ev)).length=((wo b l).filter (at' ev)).length+if at' ev b=true then 1 else 0
 | [],_,h=>by cases h
 | a::l,i,h=>by
   have d:=List.pairwise_cons.mp i;by_cases e:a=b
   .subst e
    have g:wo a (a::l)=l:=by
     have:=EL (λf=>Nat.lt_irrefl _ (d.1 a f));simpa [wo]using this
    rw[g];cases c:at' ev a<;>simp[c]
   .have f:b∈l:=by
     rcases qu h with z|z
     .exact absurd z.symm e
     .exact z
    have g:wo b (a::l)=a::wo b l:=by simp[wo,e]
    rw[g];cases c:at' ev a<;>simp[c,qE d.2 f];lia
theorem vM{k:Kd}{n:Nat}{ev:AG}{b:Nat}{r q:Rl}(i:In k n r)(hs:gj r)(h:bC k b (at' ev b) r=some q):
 so k ev q=so k ev r/\(∀x∈bZ q,x∈bZ r/\x≠b)/\(r≠.su [] false->q≠.su [] false)/\In k n q/\gj q/\sz q<=sz r:=by
 cases r with
 | ei l=>
   rw[bC]at h
   split at h
   .cases h
   .rename_i t
    cases h;refine⟨?_,λx a=>?_,λ_ z=>(by cases z),⟨i.1,λs g=>i.2 s (mem_woS.mp g).1⟩,⟨Qg (Qn _ _) hs.1,hs.2.filter _⟩,Qn _ _⟩
    .rw[so,so,Bool.eq_iff_iff,List.any_eq_true,List.any_eq_true]
     refine⟨λ⟨s,f,c⟩=>⟨s,(mem_woS.mp f).1,c⟩,λ⟨s,f,c⟩=>⟨s,mem_woS.mpr ⟨f,λe=>t ?_⟩,c⟩⟩
     have:at' ev b=s.2:=by rw[<-e];simpa using c
     rw[this,<-e];exact f
    .obtain⟨s,g,rfl⟩:=qy a
     exact⟨List.mem_map.mpr ⟨s,(mem_woS.mp g).1,rfl⟩,(mem_woS.mp g).2⟩
 | su l o=>
   rw[bC]at h
   split at h
   .rename_i t
    split at h
    .cases h
    .rename_i u
     cases h;have v:l.Pairwise (·<·):=hs;have p:=qE (ev:=ev) v t;refine⟨?_,λx a=>mem_wo.mp a,λ_ z=>u ?_,⟨i.1,λx a=>i.2 x (mem_wo.mp a).1⟩,v.filter _,Qn _ _⟩
     .rw[so,so,p]
      generalize ((wo b l).filter (at' ev)).length=m
      cases at' ev b with
      | false=>cases o<;>simp
      | true=>
        by_cases C:m%2=1
        .have c:¬(m+1)%2=1:=by lia
         cases o<;>simp[C,c]
        .have c:(m+1)%2=1:=by lia
         have E:m%2=0:=by ext
         cases o<;>simp[E,c]
     .injection z with D F
      exact⟨D,by cases o<;>cases w:at' ev b<;>simp[w]at F ⊢⟩
   .rename_i t
    cases h;exact⟨rfl,λx a=>⟨a,λe=>t (e ▸ a)⟩,λz=>z,i,hs,qv _⟩
 | im l o=>
   rw[bC]at h
   split at h
   .cases h
   .rename_i u
    cases h;have v:l.Pairwise (·<·):=hs;have A:=λe z=>u (.inl ⟨e,z⟩);have B:=λe=>Classical.byContradiction λz=>u (.inr ⟨e,z⟩);refine⟨?_,λx a=>?_,λ_ z=>(by cases z),⟨i.1,λx a=>i.2.1 x (mem_wo.mp a).1,λx a=>?_⟩,v.filter _,Qn _ _⟩
    .rw[so,so]
     have H:((wo b l).any λx=>at' ev x != decide (k=.i))=l.any λx=>at' ev x != decide (k=.i):=by
      rw[Bool.eq_iff_iff,List.any_eq_true,List.any_eq_true];refine⟨λ⟨x,f,c⟩=>⟨x,(mem_wo.mp f).1,c⟩,λ⟨x,f,c⟩=>⟨x,mem_wo.mpr ⟨f,λe=>?_⟩,c⟩⟩;rw[e]at f c;rw[B f]at c;simp at c
     rw[H];by_cases d:o=some b
     .have:=A d
      rw[if_pos d,d,hd,hd]
      have:(at' ev b==decide (k=.i))=false:=by simpa using this
      rw[this]
     .rw[if_neg d]
    .have G:x∈wo b l\/(o≠some b/\o=some x):=by
      by_cases d:o=some b
      .rw[if_pos d]at a
       exact .inl a
      .rw[if_neg d]at a
       cases o with
       | none=>exact .inl a
       | some y=>
         rcases qw a with a|a
         .exact .inl a
         .rw[List.mem_singleton.mp a];exact .inr ⟨d,rfl⟩
     rcases G with a|⟨d,a⟩
     .have:=mem_wo.mp a
      refine⟨?_,this.2⟩
      cases o with
      | none=>exact this.1
      | some y=>exact List.mem_append_left _ this.1
     .subst a
      exact⟨Qr _ qh,λe=>d (by rw[e])⟩
    .split at a
     .cases a
     .exact i.2.2 x a
noncomputable def vd:Kd->Rl
 | .e=>.ei []
 | .s=>.su [] true
 | _=>.im [] none
end Bk
namespace M
variable {prog:P7}{fp wr:List Addr}{K:W7}{X:Cx}{es rest ifs elts:AK}{fa fk fz f2 fo:AU}{pos pos' p2 pos2 px dpos p3 pos3 pos4 apos p1 cpos:Pos}{pins:AB}{gl:AV}{st:Stmt}{sts:List Stmt}{tg elt iter ie ke f':Expr}{scope:Scope}{mg:AD}{base:Heap}{x1:Nat}
open PySem PySem.Spec PyProof.Rows L2
section
variable {w:World}{A:Around}{E:AA}{s:Shared}{a e:Expr}{f:AU}
theorem T6(u:s.heap.IsList l vs.toArray)(b:IntsAre vs ns)(x:ns.length<=2^24)(o:k∈ns)(h:Q (.int (ns.idxOf k:Nat) s.toks) {s with toks:=s.toks+1}):
 wpAny (mZ prog w) A (call (.builtin "list.index") [.ref l,.int k t]) Q E s:=by
 obtain⟨⟨v,q,d,r⟩,g,f,n,e⟩:=id u;simp at f e;subst f e;have i:=b.length;have p:=List.idxOf_lt_length_iff.mpr o
 refine call_meets PySem.F.slot_list_index ⟨_,g,rfl⟩ PySem.F.entry_list_index (PySem.F.args_list_index_2 _ _)
  (PySem.SeqAt.list_indexAt l _ n q r _ _ _ (by ext) (by lia) ?_ ?_) ⟨g,λy z=>(eq_isInt k t b y (by grind)).at _ _,h⟩
 .show isInt k vs[ns.idxOf k]=true
  rw[isInt_at k b _ (by ext) p];grind
 .intro j m c
  show isInt k vs[j]=_;rw[isInt_at k b j (by omega) (by ext)];exact ne_of_lt_idxOf c _
def EM(K:W7):V->AM->Hp->VK->Prop:=λx b H Q=>∃(l:Addr) (a:AF) (k:Int),x=.ref l/\b=[.int k]/\SqL K H l (a.map .int)/\k∈a/\Q (.int (a.idxOf k)) H
def EN:tM X "list.index" (EM X.K):=by
 intro a s m H x n v o Q I i f h;obtain⟨l,j,k,rfl,rfl,d,b,q⟩:=h;cases i;obtain⟨u,rfl,⟨t,rfl⟩⟩:=ef f;obtain⟨g,r,e,c⟩:=I.list d;exact T6 e.isList (tJ r) (by rwa [qf]at c) b ⟨.int _,H,I.tok _,⟨_,rfl⟩,q⟩
def iA:D->D->Option D
 | .lst l,.int k=>(intsD l).bind λa=>if k∈a then some (.int (a.idxOf k))else none
 | _,_=>none
theorem T7{i b:Pos}(w:ZC X a fa)(t:ZE X e f)(hs:aad X e:=by rfl)(m:pe X b [e]:=by rfl)(l:(i.endLine==b.line)=true:=by rfl)(j:attributeBase a "index" X.env (eval a X.env)=eval a X.env:=by rfl):
 ZE X (.Call (.Attribute a "index" i) [e] [] b) (b2 fa f iA):=⟨have w:=w.un;have t:=t.un;
 PE.imp (nB PySem.F.plainAttrs_list PySem.F.slot_list_index PySem.F.type_list_index EN w (fX t fW hs) j m l hs rfl) λU H Q n=>by
  obtain⟨Z,d,S,G0,G,e,s,h⟩:=n;obtain⟨C,L,e⟩:=qa e;obtain⟨E,O,y⟩:=qa e
  cases C<;>try cases y
  cases E<;>try cases y
  rename_i k;obtain⟨B,M,A⟩:=qa y;by_cases z:k∈B
  .rw[if_pos z]at A
   cases A;have:=j5 M;subst this;refine tCof.at L s λv T Y N K R=>?_;obtain⟨p,V,rfl,g,J⟩:=K;have:=j6 J;subst this;refine⟨.inl ⟨rfl,_,.inl g⟩,tOf.at O R λu I D r F s2=>?_⟩;subst F;exact⟨p,B,k,rfl,rfl,.inl (g.imp (r.h _ _) λq=>q.imp λo q=>r.h _ _ q),z,h _ I D (N.trans r) (by rw[Rp])⟩
  ext⟩
def qF(f g:AU):AU:=λa=>(f a).or (g a)
def EO(i:ZE X e f)(b:ZE X e g):ZE X e (qF f g):=⟨have i:=i.un;have b:=b.un;λl s n H Q I h=>by
 obtain⟨j,d,m,k,G,a,o,q⟩:=h;unfold qF at a
 cases c:f j with
 | some p=>
   rw[c]at a;cases a;exact i _ s n H Q I ⟨j,_,m,k,G,c,o,q⟩
 | none=>
   rw[c]at a
   exact b _ s n H Q I ⟨j,d,m,k,G,a,o,q⟩⟩
@[simp] theorem ER(f g:AU):qF f g ρ=(f ρ).or (g ρ):=c7 rfl
@[simp] theorem ES(l:AF)(k:Int):iA (.lst (l.map D.int)) (.int k)=if k∈l then some (.int (l.idxOf k:Nat))else none:=by
 show(intsD _).bind _=_;rw[mi];rfl
end
section
variable {w:World}{A:Around}{E:AA}{s:Shared}
abbrev kJ:=List Int×Addr×Value
def ET(h:Heap)(u:Value)(p:kJ):Prop:=∃t o n,u=.ref t/\h.get? t=some o/\o.cls=.type "tuple"/\o.data=.seq #[.ref p.2.1,p.2.2] n
def vN(h:Heap):AC->List kJ->Prop
 | [],[]=>True
 | u::us,p::ps=>ET h u p/\vN h us ps
 | _,_=>False
def T8{xs:List kJ}(h:k∉xs.map (·.1)):atKey xs k=none:=atKey_none_of_get λj p e=>h (List.mem_map.mpr ⟨(k,p),List.mem_of_getElem? e,rfl⟩)
theorem EU{a:AC}(hu:A.units+8<cLine)(hh:A.handled=none)(hd0:h0.get? d=none)(V:h0.get? it=none)(C:d≠it)(hL:h0.IsList L a.toArray):
 ∀(ps:List kJ) (i:Nat) (c:Int) (f:List kJ) (s:Shared),vN h0 (a.drop i) ps->f.length+ps.length<=sizeLine->((f++ps).map (·.1)).Nodup->(∀h',OldH h0 h'->∀x∈f++ps,(tupleKind (dN prog w)).is h' x.1 x.2.1)->
 s.heap.IsListIter it L i->OldH h0 s.heap->s.heap.DictOfH (tupleKind (dN prog w)) d f->
 (∀h' tk,OldH h0 h'->h'.DictOfH (tupleKind (dN prog w)) d (f++ps)->R (.ok (.ret .none)) {s with heap:=h',toks:=tk})->
 codeAny (mZ prog w) A (.builtin "dict.update.loop" ⟨[.ref d,.ref it,.int c 0,.none],[]⟩) R s:=by
 intro ps
 induction ps with
 | nil=>
   intro i c f s k hz hnd h B D hd O;have v:s.heap.IsList L a.toArray:=let ⟨o,e,r⟩:=hL;⟨o,D _ _ e,r⟩
   have y:a.toArray[i]?=none:=by
    cases g:a.drop i with
    | nil=>simpa using g
    | cons u us=>rw[g]at k;exact k.elim
   refine wz uF ?_;rw[jd l4 _];show wpAny _ A.in1 (pyNext (.ref it)>>=_) _ _ s;refine wa (wpAny_pyNext_list_end (A:=A.in1) hh B v y λh' hs=>?_);show wpAny _ A.in1 (Builtin.Dict.addKeywords d []>>=_) _ _ _;have l:OldH h0 h':=λb N q=>hs b N (λz=>by grind) (D b N q);obtain⟨o,S,Z,g1,g2,g3,Q,g5,g6⟩:=hd;rw[w9]at O h;refine wa (wc (wc (O h' s.toks l ⟨o,S,Z,hs _ _ C g1,g2,g3,Q,λx y=>h h' l x y,g6⟩)))
 | cons p ps ih=>
   intro i c f s k hz hnd h B D hd O;have v:s.heap.IsList L a.toArray:=let ⟨o,e,r⟩:=hL;⟨o,D _ _ e,r⟩
   cases g:a.drop i with
   | nil=>rw[g]at k;exact k.elim
   | cons u us=>
     rw[g]at k;obtain⟨⟨t,N,n,rfl,ht,hc,F⟩,k⟩:=k
     have y:a.toArray[i]?=some (.ref t):=by
      have:=congrArg List.head? g;simpa [List.head?_drop]using this
     have hus:us=a.drop (i+1):=by
      have:=congrArg List.tail g;simpa using this.symm
     refine wz uF ?_;rw[jd l4 _];show wpAny _ A.in1 (pyNext (.ref it)>>=_) _ _ s;refine wa (wpAny_pyNext_list_item B v y λI Y J=>?_);have j:=OldH.but V D J;obtain⟨o,S,Z,g1,g2,g3,Q,g5,g6⟩:=hd
     have T:I.DictOfH (tupleKind (dN prog w)) d f:=⟨o,S,Z,by rw[J.2 d C];exact g1,g2,g3,Q,λx y=>h I j x (List.mem_append.mpr (.inl y)),g6⟩
     have H:=j _ _ ht
     have hT:(Shared.TypeIs {s with heap:=I} (.ref t) "tuple"):=⟨N,H,hc⟩
     refine wa (we (wa (wpAny_tryCatch ?_)));unfold Builtin.Dict.pairItems;refine wa (wpAny_typeOf hT ?_);rw[if_pos (by decide)];refine wa (wpAny_seqItems H F (wc ?_));have hlen:=qt (a:=p) (as:=ps)
     have K:p.1∉f.map (·.1):=λz=>by
      grind
     refine we (wpAny_dictSet_heap (s:={s with heap:=I}) (knd:=tupleKind (dN prog w)) (k:=p.1) (a:=p.2.1) (xs:=f) (hsz:=by lia) (by show A.in1.units<cLine;grind) (h I j p nofun) T λh2 G M=>?_);rw[storedH_new (T8 K)]at G;refine wc ⟨jc l4 _,?_⟩;refine ih (i+1) (c+1) _ _ (by grind) (by ext<;>lia) (by ext) (λh' o'=>by grind) (IsListIter.but Y M (Ne.symm C)) (OldH.but hd0 j M) G λh' U o' d'=>O h' U o' (by ext)
theorem T9(hu:A.units+64<cLine)(z:A.handled=none)(K:PlainL s.heap L its.toArray)(hp:vN s.heap its ps)(Y:ps.length<=sizeLine)(C:(ps.map (·.1)).Nodup)(D:∀h',OldH s.heap h'->∀x∈ps,(tupleKind (dN prog w)).is h' x.1 x.2.1)(hQ:∀h' tk,OldH s.heap h'->h'.DictOfH (tupleKind (dN prog w)) (~~~s) ps->Q (.ref (~~~s)) {s with heap:=h',toks:=tk}):
 wpAny (mZ prog w) A (call (.type "dict") [.ref L]) Q E s:=by
 generalize u:({cls:=.type "dict",data:=.dict #[]}:Obj)=l;refine callType_codes (Q₁:=λi d=>i=.ref _/\d={s with heap:=s.heap.push l}) F.kt_called_dict (F.kt_typeCall_dict_1 _) F.entry_dict_init (kt_code_dict_new _ ⟨rfl,by rw[u]⟩) ?_;rintro i d ⟨rfl,rfl⟩
 have a:(s.heap.push l).DictOfH (tupleKind (dN prog w)) (~~~s) []:=by rw[<-u];exact .new s.heap
 refine⟨a.typeIs,F.args_dict_init_2 _ _,?_⟩;refine wa ?_;refine wa (wpAny_notOrdered_dict a.typeIs ?_);refine wc ?_;show wpAny _ _ (Builtin.Dict.updateFrom "dict.__init__" _ (.ref L) [] .none) _ _ _;obtain⟨o,n,e,k,B,m⟩:=K;have t:(s.heap.push l).get? L=some o:=qe _ e
 have N:Shared.TypeIs {s with heap:=s.heap.push l} (.ref L) "list":=⟨o,t,k⟩
 refine wa (wpAny_typeOf N ?_);refine wa (L7 t k B m (by simp[z]) λh' tk c=>?_);refine wa (wpAny_rule (wa ?_))
 have r:h'.IsList L its.toArray:=⟨o,c _ _ t,k,n,m⟩
 refine wpAny_pyIter_list (s:={s with heap:=h',toks:=tk}) r ?_;have j:OldH s.heap h':=λb v q=>c _ _ (qe _ q);obtain⟨T,R,I,p,f⟩:=id a;have h:=c _ _ p;have g:=ql h;generalize y:({cls:=.type "list_iterator",data:=.fields _}:Obj)=G;refine wc ⟨jc l4 _,?_⟩;refine EU (h0:=s.heap) ?_ (by simp[z]) (Heap.get?_none_of_le (qv _)) (Heap.get?_none_of_le (Nat.le_of_lt g)) (qm g) ⟨o,e,k,n,m⟩ ps 0 0 [] _ (by grind) (by ext) (by grind) (by grind) ?_ (λb v q=>qe _ (j b v q)) ?_ λB O V Z=>?_
 .grind
 .exact⟨G,qp _ (by rw[<-y];rfl),by rw[<-y],by grind⟩
 .obtain⟨J,H,U,_,M⟩:=f
  exact⟨T,R,I,qe _ h,J,H,U,λx S=>(nomatch S),M⟩
 grind
end
abbrev vO:=(List Int×Addr)×V
def vP(H:Hp):AM->List vO->Prop
 | [],[]=>True
 | x::xs,q::qs=>(∃b ys,x=.ref b/\H b=some (.tup [.ref q.1.2,q.2])/\H q.1.2=some (.tup ys)/\dS ys=some q.1.1)/\vP H xs qs
 | _,_=>False
theorem Nb:∀{a:List vO}{ps:List kJ},ps.map (λp=>(p.1,p.2.1))=a.map (·.1)->bc (a.map (·.1)) (ps.map (·.2.2))=ps
 | [],[],_=>rfl
 | q::a,p::ps,h=>by
   rw[Qd,Qd]at h;injection h with c d;have b:=Nb d;unfold bc at b ⊢;rw[Qd,Qd,List.zip_cons_cons,Qd,b,<-c]
 | [],_::_,h=>by cases h
 | _::_,[],h=>by cases h
theorem Nc{σ:L2.St}(I:Inv X pins σ H s):∀{ys:AM}{its:AC}{a:List vO},vP H ys a->Vals ys its->∃ps:List kJ,vN s.heap its ps/\ps.map (λp=>(p.1,p.2.1))=a.map (·.1)/\Vals (a.map (·.2)) (ps.map (·.2.2))/\∀p∈ps,∃c,H p.2.1=some (.tup c)/\dS c=some p.1
 | [],its,[],_,r=>by
   cases r;exact⟨[],trivial,rfl,.nil,λp f=>nomatch f⟩
 | y::ys,its,q::a,h,r=>by
   obtain⟨⟨b,c,rfl,v,D,A⟩,h⟩:=h
   cases r with
   | cons j z=>
     cases j;obtain⟨ps,m,B,g,C⟩:=Nc I h z;obtain⟨d,w,⟨o,e,k,n,u⟩,_⟩:=I.tuple (.of v)
     cases w with
     | cons t x=>
       cases x with
       | cons l i=>
         cases i;cases t;refine⟨(q.1.1,q.1.2,_)::ps,⟨⟨b,o,n,rfl,e,k,u⟩,m⟩,by ext,.cons l g,λp f=>?_⟩;grind
 | [],_,_::_,h,_=>h.elim
 | _::_,_,[],h,_=>h.elim
def EV(K:W7):AM->Hp->VK->Prop:=λe H Q=>∃a d b,e=[.ref a]/\SqL K H a d/\vP H d b/\b.length<ax/\(b.map (·.1.1)).Nodup/\∀p f,H p=none->Q (.ref p) (upd H p (d6 p (b.map (·.1)) (b.map (·.2)) f))
theorem T_(E:X.A.units+64<cLine)(t:X.calm=true):dA X (.type "dict") (EV X.K):=by
 intro l s T H U Z Q I r h;obtain⟨a,N,k,rfl,A,z,O,C,q⟩:=h;obtain⟨u,rfl,y⟩:=ef r;cases y;obtain⟨M,p,v,R⟩:=I.list A;obtain⟨f,F,g,G,D⟩:=Nc I z p;have m:ax=1000000:=rfl
 have n:f.length=k.length:=by
  have:=congrArg List.length g;grind
 have i:f.length<=sizeLine:=by rw[jh];lia
 have Y:f.map (·.1)=k.map (·.1.1):=by
  have:=congrArg (List.map Prod.fst) g
  rwa [Qf,Qf]at this
 refine T9 E (I.ok.hd t) v F i (by grind) (λw c x L=>?_) λw S c j=>?_
 .obtain⟨V,J,K⟩:=D x L
  exact j7 (I.kept (t':=s.toks) λb o e=>c b o e).hok J K
 .rw[<-Nb g]at j
  obtain⟨B,d⟩:=ot (beq_eq_false_iff_ne.mpr (.symm (qm I.big))) G j;exact⟨.ref _,_,I.laid (λb o e=>c b o e) (qv _) (d _),rfl,q _ B (I.hok.fresh (qv _))⟩
noncomputable def mj:AN->Option (List (D×D))
 | []=>some []
 | .tup [k,v]::l=>(mj l).map ((k,v)::·)
 | _=>none
def EW:D->Option (List (D×D))
 | .lst l=>mj l
 | _=>none
theorem Nd(s:Same G H):∀{l:AN}{ps:List (D×D)}{g:List AF}{xs:AM},mj l=some ps->fj (ps.map (·.1))=some g->RpL K G l xs->
 ∃a:List vO,vP H xs a/\a.map (·.1.1)=g/\RpL K G (ps.map (·.1)) (a.map λq=>V.ref q.1.2)/\RpL K G (ps.map (·.2)) (a.map (·.2))/\a.length=ps.length/\∀q∈a,∃ys,G q.1.2=some (.tup ys)/\dS ys=some q.1.1
 | [],ps,g,xs,e,f,r=>by
   cases e;cases f;subst r;exact⟨[],trivial,rfl,.nil,.nil,rfl,λq k=>nomatch k⟩
 | d::l,ps,g,xs,e,f,r=>by
   unfold mj at e
   split at e
   case h_1 he=>cases he
   case h_2 k v l' he=>
    injection he with j i;subst j i;obtain⟨o,y,rfl⟩:=qc e;obtain⟨x,R,rfl,p,t⟩:=r;obtain⟨n,L,f⟩:=qa f;obtain⟨A,h,rfl⟩:=qc f;obtain⟨a,F,Q,u,J,N,T⟩:=Nd s y h t;obtain⟨b,ys,rfl,I,c⟩:=p;obtain⟨O,v,rfl,m,c⟩:=c;obtain⟨C,v,rfl,B,c⟩:=c;subst c;obtain⟨z,M,rfl,E,S,w⟩:=oi L (.of s m);refine⟨((n,z),C)::a,⟨⟨b,M,rfl,s _ _ I,E,w⟩,F⟩,by grind,.cons m u,.cons B J,by ext,λq k=>?_⟩;grind
   ext
section
variable {e:Expr}{f:AU}
def iB(i:Nat)(f:AU):AR:=λb=>((f b).bind EW).bind λa=>(fj (a.map (·.1))).bind λc=>if a.length<ax/\c.Nodup then some (.nx (b.set i (some (.od true (a.map (·.1)) (a.map (·.2))))))else none
@[simp] theorem Nf(i:Nat):iB i f ρ=((f ρ).bind EW).bind λps=>(fj (ps.map (·.1))).bind λa=>if ps.length<ax/\a.Nodup then some (.nx (ρ.set i (some (.od true (ps.map (·.1)) (ps.map (·.2))))))else none:=c7 rfl
theorem EX(T:X.A.units+64<cLine)(J:X.calm=true)(i:Nat){c w b:Pos}(Y:X.N.Nodup)(U:Gl X "dict")(I:X.mg "dict"=none)(k:ZC X e f)(R:X.N[i]?=some x:=by rfl)(z:c9 X.env.scope x:=by trivial)(g:starEach [e] X.env=[(false,eval e X.env)]:=by rfl)(o:(backTo b (starEach [] X.env)).any (·.1)=false:=by rfl)(hs:swapsWith (.Call (.Name "dict" w) [e] [] b) (some (.Name x c)) pos.line X.env=pure false:=by rfl)(K:X.fn x=true\/X.env.scope.names.lookup x=some .local:=by trivial):ZS X (.Assign [.Name x c] (.Call (.Name "dict" w) [e] [] b) pos) (iB i f):=⟨have k:=k.un;
 PS.imp (jI Y R z (iW (T_ T J) U I (by decide +kernel) (i4 k i3 g) (by decide) (by decide) g o) hs K) λF σ H m=>by
  obtain⟨V,O,Z,G0,G,e,s,h⟩:=m;obtain⟨ps,Q,e⟩:=qa e;obtain⟨kn,n,e⟩:=qa e;obtain⟨d,h2,y⟩:=qa Q
  split at e
  case isFalse=>cases e
  cases e;refine tCAof.at (show Yb f _ V=some [d] by ext) s λvs H1 A g1 N j=>?_;obtain⟨v,rfl,L⟩:=eR N
  cases d with
  | lst l=>
    obtain⟨a,E,rfl,t,S⟩:=L;obtain⟨u,D,k2,C,B,k5,k6⟩:=Nd j.seen (y) n S;refine⟨a,E,u,rfl,.inl t,D,by ext,by symm,λp M r=>h _ _ A (j.set_od i (.hid j.seen r _) r (j.seen.free r) (.inr ⟨rfl,u.map _,M,Yg,by simp,by symm,by ext,λq t=>?_⟩) C B)⟩;symm
  | _=>cases y⟩
end
section
variable {w:World}{A:Around}{E:AA}{s:Shared}
def DRaw(h:Heap)(d:Addr)(b:Array DictEntry)(a:Nat):Prop:=∃o,h.get? d=some o/\o.ExactDict/\o.data=.dict b a
def DRaw.typeIs(b:DRaw s.heap d f e):s.TypeIs (.ref d) "dict":=by
 obtain⟨o,a,c,_⟩:=b;exact⟨o,a,c.1⟩
theorem Ng(j:(d==sysModules)=false)(e:DRaw s.heap d f h)(g:Q (.ref (~~~s)) {s with heap:=s.heap.push {cls:=.type "dict_keyiterator",data:=.fields #[.ref d,.int 0 0,.int f.size 0,.int h 0]} }):wpAny (mZ prog w) A (pyIter (.ref d)) Q E s:=by
 have b:=e.typeIs;obtain⟨o,c,i,a⟩:=e;refine wpAny_pyIter_slot b F.slot_dict_iter (wg F.slot_dict_iter b F.entry_dict_iter (wa (wa (wpAny_notOrdered_dict b ?_))) (F.args_dict_iter_1 _));show wpAny _ _ (pure (Value.ref d)) _ _ s;refine wc ?_;show wpAny _ _ (Builtin.Dict.showsAll d>>=_) _ _ s;unfold Builtin.Dict.showsAll;rw[if_neg (by grind)];refine wa (wc (wa (wpAny_dictEntries c a (wa (wpAny_dictEpoch c a (wa (wh (wc ⟨_,rfl,"dict_keyiterator",_,⟨_,qp _ rfl,rfl⟩,F.slot_dict_keyiterator_next.lookup,?_⟩))))))));simpa [rawInt]using g
theorem Nh(a:s.heap.IsKeyIter c d i f.size k)(q:DRaw s.heap d f k)(n:i<f.size)(m:∀h':Heap,h'.IsKeyIter c d (i+1) f.size k->Heap.SameBut c s.heap h'->Q (some f[i].key) {s with heap:=h' }):wpAny (mZ prog w) A (pyNext (.ref c)) Q E s:=by
 obtain⟨o,j,r,h⟩:=id a;obtain⟨t,g,p,e⟩:=q;unfold pyNext
 refine wa (jg (wpAny_callSpecial?_slot a.typeIs F.slot_dict_keyiterator_next
  (wg F.slot_dict_keyiterator_next a.typeIs F.entry_dict_keyiterator_next ?_ (F.args_dict_keyiterator_next_1 _))))
 refine wa (wc ?_);refine wa ?_;refine wa ?_
 first|refine wa (wpAny_typeNameOfWhole_keyiter a.typeIs (wc ?_))|refine wa (wpAny_typeNameOf_keyiter a.typeIs (wc ?_))
 refine wa (wpAny_fieldsOf j h ?_)
 have l:Builtin.Dict_items.ownsTuple "dict_keyiterator"=false:=by decide
 show wpAny _ _ _ _ _ s;refine wa (wc ?_);refine wa (wpAny_dictEntries g e ?_);rw[if_neg nofun];refine wa (wc ?_);refine wa (wpAny_dictEpoch g e ?_);rw[if_neg nofun];refine wc ?_;simp only[if_false,w6,Array.getElem?_eq_getElem n];refine wa ?_
 first|refine wa (wpAny_typeNameOfWhole_keyiter a.typeIs (wc ?_))|refine wa (wpAny_typeNameOf_keyiter a.typeIs (wc ?_))
 refine wa (wpAny_isOneOf_keyiter a.typeIs ?_);show wpAny _ _ (setField (.ref c) 1 _>>=_) _ _ s;refine wa (wpAny_setField j h nofun ?_)
 have b:(s.heap.update c (Obj.mapFields (·.setIfInBounds 1 (rawInt ((i:Int)+1))))).IsKeyIter c d (i+1) f.size k:=
  ⟨_,wy _ j (Obj.isFreed_of_fields (jf h _)),(Obj.cls_mapFields ..).trans r,by rw[jf h];simp[rawInt]⟩
 refine wa (we ?_);refine wa (wpAny_isOneOf_keyiter b.typeIs ?_);exact wc (wc ⟨_,rfl,wc (m _ b (ww ..))⟩)
theorem Ni(p:A.handled=none)(a:s.heap.IsKeyIter e d i h.size n)(q:DRaw s.heap d h n)(f:h.size<=i)(m:∀h',Heap.ExtBut e s.heap h'->Q none {s with heap:=h' }):wpAny (mZ prog w) A (pyNext (.ref e)) Q E s:=by
 obtain⟨o,k,r,j⟩:=id a;obtain⟨t,c,l,b⟩:=q;unfold pyNext
 refine wa (jg (wpAny_callSpecial?_slot a.typeIs F.slot_dict_keyiterator_next
  (wg F.slot_dict_keyiterator_next a.typeIs F.entry_dict_keyiterator_next ?_ (F.args_dict_keyiterator_next_1 _))))
 refine wa (wc ?_);refine wa ?_;refine wa ?_
 first|refine wa (wpAny_typeNameOfWhole_keyiter a.typeIs (wc ?_))|refine wa (wpAny_typeNameOf_keyiter a.typeIs (wc ?_))
 refine wa (wpAny_fieldsOf k j ?_)
 have g:Builtin.Dict_items.ownsTuple "dict_keyiterator"=false:=by decide
 show _;refine wa (wc ?_);refine wa (wpAny_dictEntries c b ?_);rw[if_neg nofun];refine wa (wc ?_);refine wa (wpAny_dictEpoch c b ?_);rw[if_neg nofun];refine wc ?_;simp only[show ¬((i:Int)<0) from by lia,if_false,w6,Array.getElem?_eq_none f];refine wa ?_
 first|refine wa (wpAny_typeNameOfWhole_keyiter a.typeIs (wc ?_))|refine wa (wpAny_typeNameOf_keyiter a.typeIs (wc ?_))
 show wpAny _ _ (setField (.ref e) 0 .none>>=_) _ _ s;refine wa (wpAny_setField k j nofun ?_);refine wa ?_;refine wa (m:=firstArgMember _ _) (wpAny_of_eq (a:=Value.none) (by first|rfl|(rfl)) ?_);refine wh ?_ (by size_fits);simp only[raiseNew];refine wa (wpAny_handled ?_);rw[p];refine wa (wc (wpAny_throw ?_));refine wa (wpAny_isInstance (T:="StopIteration") (b:=true) ⟨_,qp _ rfl,rfl⟩ isSubtype_stop ?_);exact wc (m _ (((ww ..).extBut.push _).push _))
end
def Nj(a:Addr)(nks:List (List Int×Addr))(vxs:AM)(b:Nat):It:=
 ⟨λi H=>H a=some (d6 a nks vxs b)/\i<nks.length,λi H x c=>c=H/\∃p,nks[i]?=some p/\x=.ref p.2,λi H=>H a=some (d6 a nks vxs b)/\nks.length<=i⟩
theorem vQ(g:HOk P w H h)(e:H a=some (d6 a nks vxs n))(s:nks.length=vxs.length):
 (a==sysModules)=false/\∃b:Array DictEntry,DRaw h a b n/\b.size=nks.length/\∀(i:Nat) (d:i<b.size) p,nks[i]?=some p->b[i].key=.ref p.2:=by
 obtain⟨⟨j,k,o,b,r,q,f,m,l⟩,_⟩:=g a _ e
 have t:k.length=nks.length:=by rw[s,r.length]
 have c:b.size=nks.length:=by
  have:=congrArg List.length l;grind
 refine⟨j,b,⟨o,q,f,m⟩,c,λi d p u=>?_⟩
 have v:b.toList[i]?=some b[i]:=by simp[d]
 grind
theorem Ua{K:W7}(L:nks.length=vxs.length)(a l:Addr):d4 P w K Z (Nj a nks vxs O) [l] l (λi h=>h.IsKeyIter l a i nks.length O) where
 mem:=by simp
 obj:=λi h st b m=>by
  obtain⟨o,e,c,d⟩:=st
  ext
 keep:=λi h J st k=>by
  obtain⟨o,e,r⟩:=st;exact⟨o,k l nofun o e,r⟩
 item:=by
  intro X S V Q F i n s R H E I p st y;obtain⟨x,G⟩:=y;obtain⟨u,U,C,f,g⟩:=vQ I.hok x L;obtain⟨q,t,Y,v,A,z⟩:=p l nofun;have D:=qr G;rw[<-f]at st;refine Nh st C ∅ λJ j M=>?_;have T:=I.turned (t':=s.toks) (λb o m e=>(M.2 b m).trans e) q t v A z;obtain⟨o,e,c,d⟩:=id j;rw[g i ∅ _ D];rw[f]at j;exact⟨.ref _,rfl,tr e c d (by decide) ⟨.ref _,H,T,rfl,⟨rfl,_,D,rfl⟩,j,λb m=>(p b m).1⟩⟩
 done:=by
  intro X S V Q F i n s R H E I p st y;obtain⟨x,G⟩:=y;obtain⟨u,U,C,f,g⟩:=vQ I.hok x L;obtain⟨q,t,Y,v,A,z⟩:=p l nofun;rw[<-f]at st
  exact Ni (I.ok.hd F) st C (by ext) λJ N=>⟨rfl,I.turned (λb o m e=>N b o m e) q t v A z⟩
 self:=λ_ _ _ _ _ st h=>wpAny_pyIter_keyiter st h
def EY(g:TE):TI:=λf H R=>g f H λx e=>∃a c b d,x=.ref a/\e a=some (d6 a c b d)/\c.length=b.length/\R (Nj a c b d) e
theorem EZ(r:PE X l u):PI X tg l (EY u):=by
 intro m s B H R I h;refine az (r _ s B H _ I h) λv j g=>?_;obtain⟨x,w,d,y,n⟩:=g;obtain⟨a,z,t,C,e,A,c,q⟩:=n;subst e;cases y;obtain⟨i,E,p,f,k⟩:=vQ d.hok A c;refine Ng i p ?_;rw[f];refine⟨j.heap.objs.size,[j.heap.objs.size],_,_,w,rfl,d.kept λb o e=>qe _ e,Ua c a _,⟨_,qp _ rfl,rfl,rfl⟩,λb D=>?_,q⟩
 have e:b=j.heap.objs.size:=by symm
 subst e;exact d.fpOk (qv _) (d.hok.fresh (qv _))
def qG:D->Option AN
 | .dct true a _=>if a.length<=ax then some a else none
 | _=>none
section
variable {f:AU}
theorem Ub(o:ZE X l f):ZI X tg l (b1 f qG):=⟨have o:=o.un;PI.imp (EZ o) λσ H R n=>by
 obtain⟨ρ,S,Z,G0,G,e,s,h⟩:=n;obtain⟨c,D,b⟩:=dU e;refine tOf.at D s λv F N O K L=>?_;unfold qG at b
 split at b
 case h_2=>cases b
 split at b
 case isFalse=>cases b
 rename_i g;cases b;obtain⟨a,I,t,rfl,Q,A,T⟩:=K;rcases Q with⟨z,_⟩|⟨_,j,J,r,M,Y,rfl,V⟩
 .cases z
 refine⟨a,j,t,J,rfl,L.seen _ _ r,M,h _ F N O (n4 (f7 g) λi H2 U m u=>⟨λd C=>?_,λhi=>⟨u _ _ (m _ _ r),?_⟩⟩)⟩
 .obtain⟨x,w,E⟩:=A.get C
  have k:i<j.length:=by
   grind
  refine⟨⟨u _ _ (m _ _ r),k⟩,λy H3 q=>⟨q.1,?_⟩⟩;obtain⟨p,B,rfl⟩:=q.2;rw[Qm,B]at w;cases w;exact E.mono m
 .have:=A.length
  ext⟩
@[simp] theorem Uc(ks vs:AN):qG (.dct true ks vs)=if ks.length<=ax then some ks else none:=c7 rfl
end
section
variable {w:World}{A:Around}{E:AA}{s:Shared}
def DRaw.keep(e:DRaw h d b c)(k:∀o,h.get? d=some o->h'.get? d=some o):DRaw h' d b c:=by
 obtain⟨o,a,r⟩:=e;exact⟨o,k o a,r⟩
def Ud{h h':Heap}(b:h.IsKeyIter a d i n c)(k:∀o,h.get? a=some o->h'.get? a=some o):h'.IsKeyIter a d i n c:=by
 obtain⟨o,e,r⟩:=b;exact⟨o,k o e,r⟩
theorem Ue(q:A.handled=none)(I d:Addr)(c:d≠I)(a:Array DictEntry)(p:Nat):
 Walks prog w A I [I,d] [I] a.size (λi v=>∃k:i<a.size,v=a[i].key) (λi h=>h.IsKeyIter I d i a.size p/\DRaw h d a p) where
 sub:=λb n=>by symm
 frame:=λ_ _ _ st l=>⟨Ud st.1 λo e=>l I nofun o e,st.2.keep λo e=>l d nofun o e⟩
 item:=λi s Q E k st g=>Nh st.1 st.2 k λj f m=>g _ j _ ⟨k,rfl⟩ ⟨f,st.2.keep λo e=>(m.2 d c).trans e⟩ λb o n e=>(m.2 b ⋯).trans e
 done:=λs Q E st g=>Ni q st.1 st.2 (qv _) λj r=>g j _ λb o n e=>r b o ⋯ e
 self:=λi s Q E st h=>wpAny_pyIter_keyiter st.1 h
def E1(lo:(d==sysModules)=false):W.KdlSrc prog w "dict" d d f.size (λi v=>∃m:i<f.size,v=f[i].key) (λh=>DRaw h d f j) where
 type:=λ_ a=>a.typeIs
 there:=λ_ a=>⟨let ⟨_,c,_⟩:=a;ql c,let ⟨_,c,_⟩:=a;ql c⟩
 keep:=λ_ _ a k=>a.keep λo e=>k d (.inl rfl) o e
 notList:=by decide
 notTuple:=by decide
 hint:=λ_ _ _ _ a g=>W.kdl_hint_dict a.typeIs g
 iter:=λ_ s l a=>⟨_,_,λ_ _ g=>Ng lo a g,Ue l _ d (by obtain⟨_,c,_⟩:=a;exact qm (ql c)) f j,⟨⟨_,qp _ rfl,rfl,rfl⟩,a.keep λo e=>qe _ e⟩⟩
def qH:AM->Hp->VK->Prop:=λd H Q=>∃a b c e,d=[.ref a]/\H a=some (d6 a b c e)/\b.length=c.length/\b.length<=sizeLine/\∀l,H l=none->Q (.ref l) (upd H l (.lst (b.map λp=>.ref p.2)))
theorem Ug(D:X.calm=true):dA X (.type "list") qH:=by
 intro v s J H K L Q I r h;obtain⟨a,b,w,N,rfl,t,o,B,q⟩:=h;obtain⟨u,rfl,E⟩:=ef r;cases E;obtain⟨k,F,z,m,j⟩:=vQ I.hok t o;refine W.kdl_call (E1 k) (I.ok.hd D) z (by ext) λC O d c y e g=>?_
 have A:Vals (b.map λp=>.ref p.2) d.toList:=by
  have f:d.toList=b.map λp=>.ref p.2:=by
   refine List.ext_getElem? λi=>?_;by_cases G:i<F.size
   .have l:i<d.size:=by rwa [g.1]
    obtain⟨_,M⟩:=g.2 i _ (Array.getElem?_eq_getElem l)
    ext
   .rw[List.getElem?_eq_none (by rw[qj,g.1];ext),List.getElem?_eq_none (by ext)]
  rw[f];clear f j t o B m q
  induction b with
  | nil=>exact .nil
  | cons p b x=>exact .cons rfl x
 exact⟨.ref _,_,I.laid y (qv _) (show ObjOk _ X.w _ C _ (.lst _) from⟨by ext,d.toList,c,A,by simpa using e⟩),rfl,q _ (I.hok.fresh (qv _))⟩
def iC:AN->Option AN
 | [.dct true a _]=>if a.length<=ax then some a else none
 | _=>none
def Uh:ew X.K qH iC:=by
 intro t w l H G Q h s r q;unfold iC at h
 split at h
 case h_2=>cases h
 split at h
 case isFalse=>cases h
 rename_i c;cases h;obtain⟨v,rfl,i⟩:=eR r;obtain⟨a,o,e,rfl,n,g,i⟩:=i;rcases n with⟨z,_⟩|⟨_,d,j,p,k,u,rfl,x⟩
 .cases z
 have b:=g.length;simp at b;exact⟨a,d,e,j,rfl,p,k,by rw[b];exact f7 c,λm f=>q m _ _ G (.hid s f _) f (s.free f) Yg g⟩
@[simp] theorem Ui(ks vs:AN):iC [.dct true ks vs]=if ks.length<=ax then some ks else none:=c7 rfl
end
theorem Nk:∀{c:AF}{d:AM}{b:List (aX×Value)}{a:List (aX×V)}{vs:List (aX×Value)},c.length=d.length->KV (zK c d) b->KV a vs->KV (fq a (c.zip d)) (merged vs b)
 | [],[],b,a,vs,_,h,r=>by
   cases h;exact r
 | m::c,x::d,b,a,vs,j,h,r=>by
   cases h with
   | cons g f=>
     rename_i q b;obtain⟨e,i⟩:=g;show KV (fq _ (c.zip d)) (merged (stored vs q.1 q.2) b);rw[e.symm];exact Nk (by ext) f (r.put _ i)
 | [],_::_,_,_,_,h,_,_=>by simp at h
 | _::_,[],_,_,_,h,_,_=>by simp at h
def E3:V->AM->Hp->VK->Prop:=λx e H Q=>∃(d o:Addr) (a:List _) (c:AF) (b:AM),x=.ref d/\e=[.ref o]/\d≠o/\H d=some (.dK a)/\H o=some (.dK (zK c b))/\c.length=b.length/\a.length+b.length<ax/\Q .non (upd H d (.dK (fq a (c.zip b))))
theorem Uj:tM X "dict.update" E3:=by
 intro k s J H x S v O Q I D A h;obtain⟨d,o,g,i,c,rfl,rfl,f,m,C,p,L,q⟩:=h;cases D;obtain⟨u,rfl,z⟩:=ef A;cases z;obtain⟨K,lo1,B,n,r⟩:=I.hok d _ m;obtain⟨M,e,t,l,y⟩:=I.hok o _ C;have N:=n.length.symm
 have G:t.length=c.length:=by
  have:=l.length;rw[B9 _ _ p]at this;lia
 have j:ax=1000000:=rfl
 have E:(i.zip c).length=c.length:=by grind
 refine call_meetsIn PySem.F.slot_dict_update r.typeIs PySem.F.entry_dict_update (PySem.F.args_dict_update_2 _ _) (meets_dict_update _ d o f e) ⟨B,t,r,y,by rw[jh];ext<;>lia,λR b _ same=>?_⟩;have F:=Cr (i.zip c) g;refine⟨.non,_,lK I (by rw[m];exact .intro) same (let ⟨q,_,_,w,_⟩:=b;⟨q,w⟩) (tI (by rw[jh];lia) lo1 (Nk p l n) b),rfl,q⟩
theorem qI:∀{b:AF}{ds:AN}{a:AM},b.length=a.length->RpL K G ds a->DQ K G (b.zip ds) (b.zip a)
 | [],ds,a,c,r=>trivial
 | m::b,ds,a,c,r=>by
   cases a with
   | nil=>simp at c
   | cons x a=>
     cases ds with
     | nil=>
       cases r
     | cons d ds=>
       obtain⟨y,q,e,i,f⟩:=r;injection e with g h;subst g h;exact⟨⟨rfl,i⟩,qI ⋯ f⟩
section
variable {e:Expr}{f:AU}
def iD(l:List D×AN):D->Option (List D×AN)
 | .dct false d a=>(intsD l.1).bind λb=>(intsD d).bind λc=>if l.2.length+a.length<ax then some ((ay b l.2 (c.zip a)).1.map .int,(ay b l.2 (c.zip a)).2)else none
 | _=>none
def gk(i:Nat)(f:AU):AR:=λa=>(fI i a).bind λl=>(f a).bind λd=>(iD l d).map λb=>.nx (a.set i (some (.od false b.1 b.2)))
theorem Uk(i:Nat){t g c:Pos}(I:ZE X e f)(hN:X.N[i]?=some x:=by rfl)(hv:eW X.env.scope x:=by trivial)(hd:cu x:=by decide)(E:fS x:=by decide)(A:swapsWith (.Call (.Attribute (.Name x t) "update" g) [e] [] c) none pos.line X.env=pure false:=by rfl)(hs:starEach [e] X.env=[(false,eval e X.env)]:=by rfl)(r:pe X c [e]:=by rfl)(p:(g.endLine==c.line)=true:=by rfl)(o:attributeBase (.Name x t) "update" X.env (eval (.Name x t) X.env)=eval (.Name x t) X.env:=by rfl):
 ZS X (.Expr (.Call (.Attribute (.Name x t) "update" g) [e] [] c) pos) (gk i f):=⟨have I:=I.un;
 PS.imp (lG (nB PySem.F.plainAttrs_dict PySem.F.slot_dict_update PySem.F.type_dict_update Uj (gC hN hv hd E) (fX I fW hs) o r p hs rfl) A) λF σ H w=>by
  obtain⟨ρ,out,H0,G0,G,e,s,h⟩:=w;obtain⟨l,h1,e⟩:=qa e;obtain⟨d,h2,e⟩:=qa e;obtain⟨l',k,rfl⟩:=qc e;unfold iD at k
  split at k
  case h_2=>cases k
  obtain⟨ns,O,k⟩:=qa k;obtain⟨ms,h5,k⟩:=qa k
  split at k
  case isFalse=>cases k
  cases k;have m:=L1 h1;obtain⟨a0,kx0,vx0,n,_,_,J,D,_⟩:=s.od i _ _ _ m;obtain⟨q1,_,_,_⟩:=gI O J D;refine⟨_,n,.inr (.inr (.inl ⟨rfl,.inl ⟨_,q1⟩⟩)),tOf.at h2 s λv H1 U g1 r1 u=>?_⟩;obtain⟨a,kxs,K,Q,hG,hH0,dc,rk,L⟩:=u.od i _ _ _ m;rw[n]at Q;cases Q;obtain⟨e1,Z,N,e4⟩:=gI O dc rk;obtain⟨b,kx2,y,rfl,C,B,q⟩:=r1;obtain⟨T,f2,M,f4⟩:=gI h5 C B;have hl1:=L.length;have hl2:=q.length;obtain⟨Y,S,k2,R,V⟩:=uH (qI M q) Z N L
  exact⟨a0,b,zK ns K,ms,y,rfl,rfl,λz=>by grind,e1,u.seen _ _ T,M,by rw[B9 _ _ N];ext,h σ _ U (u.mutd m n (oG (by rw[<-S];exact Yg) k2 R) (.ints _) V)⟩⟩
@[simp] theorem Nl(i:Nat):gk i f ρ=(fI i ρ).bind λl=>(f ρ).bind λd=>(iD l d).map λa=>.nx (ρ.set i (some (.od false a.1 a.2))):=c7 rfl
end
section
open Sem (wp)
end
structure kK(K:W7)(x:Str)(st:Stmt)(f:Addr)(fd:FuncData)(T:Addr):Prop where
 ex:∃(oc:Value) (od:Option Addr) (kV doc pm:Value) (an:Option Addr) (cdv ct:Value) (osl:Array (Option Value)),
  fd=W.fnOf x x (aGa st) (aFa st) (aDa st) (.ref T) kV doc pm an cdv ct/\K.lookup f=some ⟨oc,od,.func fd,osl⟩/\W.codeIn K cdv x=true
 kp:W.keepIn K (.ref f)=true
 df:∃(oc:Value) (od:Option Addr) (i:Int) (t n:Nat) (osl:Array (Option Value)),K.lookup T=some ⟨oc,od,.seq #[.int i t] n,osl⟩
section
variable {P:P7}{w:World}
theorem E4{st:Stmt}(F:kK K x st f fd T)(Z:mg x=some (.ref f))(S:dI N ps (aDa st))(hn:N.length=n)(L:ps.length=m)(p:∀(kV j I:Value) (D:Option Addr) (a ct:Value) (us:AC) (i:Int) (t:Nat),us.length=ps.length->∃c:Option (Array Value)->Sem (List (Str×Value)),bindArgs (W.fnOf x x (aGa st) (aFa st) (aDa st) (.ref T) kV j I D a ct) ⟨us,[]⟩=seqItems? (.ref T)>>=c/\c (some #[.int i t])=pure (ps.zip us))(hb:∀(a:Value) (A:Around) (b:List Env) (s:Shared) (H:Hp) (E:XK),Room k (A.deeper (envOfC x (aDa st) (~~~s) f a))->ZB (cm cJ P w K mg base N x (aDa st) f a A b s H E).nox (aFa st) fb):aN P w K mg base (k+1) m x ps (aj m n fb):=by
 obtain⟨oc,od,kV,j,I,D,a,ct,osl,rfl,O,B⟩:=F.ex;refine⟨f,_,nj O B S (λM H Q E h=>by rw[h.1,L]) λA b s H M Q E U h=>?_,λs us R y=>?_,F.kp,Z⟩
 .obtain⟨y,ds,d,G,sm,r,e,q⟩:=h
  refine⟨_,(hb a A _ s H E U).un.nox,?_⟩;unfold aj at e
  split at e
  .obtain⟨o,z,l⟩:=qa e
   refine⟨Yd n ds,o,H,G,G,z,by rw[<-hn];exact .start sm r,?_⟩
   cases o with
   | rt d'=>cases l;exact λv C u g V=>q v C u g V
   | nx J=>cases l;exact λσ' C u Y=>q _ C u Y.gr (by rw[Rp])
   | bk J=>cases l
   | ct J=>cases l
  .cases e
 .rw[w9]at y ⊢
  obtain⟨_,_,i,t,_,_,ho⟩:=F.df;obtain⟨c,z,l⟩:=p kV j I D a ct us i t y;exact .of_defaults rfl (R _ _ ho) rfl z l
end
noncomputable def cQ(c f:Str):D->Option D
 | .obj a d b=>if a=c then (d.zip b).lookup f else none
 | _=>none
def CF(K:W7)(c f:Str):Prop:=∀C,W.nsIn K mainGlobals c=some (some (.ref C))->Cls K C/\NoAttr K C f
theorem RpL.look{G:Hp}{f:Str}:∀{ks:AJ}{vs:AN}{xs:AM}{d:D},RpL K G vs xs->(ks.zip vs).lookup f=some d->∃v,(ks.zip xs).lookup f=some v/\Rp K G d v
 | [],_,_,_,_,e=>by simp at e
 | _::_,[],_,_,_,e=>by simp at e
 | k::ks,b::vs,xs,d,r,e=>by
   obtain⟨x,a,rfl,g,q⟩:=r;rw[List.zip_cons_cons,List.lookup_cons]at e ⊢
   cases h:(f==k)with
   | true=>
     rw[h]at e;cases e;exact⟨x,rfl,g⟩
   | false=>
     rw[h]at e;exact RpL.look q e
section
variable {e o:Expr}{c f:Str}
def gm(P:P7)(w:World)(K:W7)(d:AD)(a:Heap)(k:Nat)(c m:Str)(e:AJ)(sp:Sp):Prop:=
 ∃C f b,FnOk P w K d a cJ k f b e sp/\Binds K b e []/\W.nsIn K mainGlobals c=some (some (.ref C))/\Cls K C/\eX K C m f
noncomputable def cA(c m:Str)(b:AN->Option D):D->Option D
 | .obj a d e=>if a=c/\m∉d then b [.obj a d e]else none
 | _=>none
theorem E5{f:Str}:∀{ks:AJ}{xs:AM},f∉ks->(ks.zip xs).lookup f=none
 | [],_,_=>by simp
 | _::_,[],_=>by simp
 | k::ks,x::xs,h=>by
   rw[List.zip_cons_cons,List.lookup_cons]
   have a:(f==k)=false:=by
    rw[beq_eq_false_iff_ne];exact λz=>h (by rw[z];exact qh)
   rw[a];exact E5 λz=>h (qg _ z)
end
inductive cc (τ:Type) where
 | nx (ρ:Ro) (t:τ)|rt (d:D) (t:τ)|bk (ρ:Ro) (t:τ)|ct (ρ:Ro) (t:τ)
def vR(l:Addr)(H H':Hp):Prop:=∀a,a≠l->H' a=H a
structure WR(K:W7)(l:Addr)(o:HO)(H0 G0:Hp)(σ:L2.St)(H G:Hp)(ρ:Ro):Prop where
 sr:SR K H0 G0 σ H G ρ
 g0:G0 l=none
 h0:H0 l=some o
def E6{f:Type}(b:f->HO)(K:W7)(l:Addr)(c e:Hp)(F:dH):cc f->Prop
 | .nx i t=>∀g h j a,vR l c a->WR K l (b t) a e g h j i->F.nx g h
 | .rt d t=>∀v h j a,vR l c a->a l=some (b t)->Gr a e h j->Rp K j d v->F.rt v h
 | .bk i t=>∀g h j a,vR l c a->WR K l (b t) a e g h j i->F.bk g h
 | .ct i t=>∀g h j a,vR l c a->WR K l (b t) a e g h j i->F.ct g h
def qJ{b:Type}(a:b->HO)(K:W7)(l:Addr)(f:Ro->b->Option (cc b)):TS:=λF h H=>∃g t e c d G,f g t=some e/\WR K l (a t) c d h H G g/\E6 a K l c d F e
abbrev WS{b:Type}(a:b->HO)(X:Cx)(l:Addr)(st:Stmt)(f:Ro->b->Option (cc b)):Prop:=PS X st (qJ a X.K l f)
abbrev WB{b:Type}(a:b->HO)(X:Cx)(l:Addr)(c:List Stmt)(f:Ro->b->Option (cc b)):Prop:=PSs X c (qJ a X.K l f)
section
variable {τ:Type}{rep:τ->HO}{l:Addr}{fs gs:Ro->τ->Option (cc τ)}
def WT(rep:τ->HO)(X:Cx)(l:Addr)(c:Expr)(f:Ro->τ->Option Bool):Prop:=PT X c λg H Q=>∃d t k b a G,f d t=some k/\WR X.K l (rep t) b a g H G d/\∀e h,Gr H G e h->Q k e
end
noncomputable abbrev wl(t:AG):HO:=.lst (t.map .bl)
noncomputable abbrev qK:AJ:=["book","hands","truths"]
abbrev aY(b h x:D):D:=.obj "Watch" qK [b,h,x]
theorem Nm{G:Hp}:∀t:AG,RpL K G (t.map D.bl) (t.map V.bl)
 | []=>.nil
 | b::t=>.cons (by rw[Rp]) (Nm t)
def RpL.three{G:Hp}{a b c:D}{xs:AM}(r:RpL K G [a,b,c] xs):∃x y z,xs=[x,y,z]/\Rp K G a x/\Rp K G b y/\Rp K G c z:=by
 obtain⟨x,g,rfl,d,r⟩:=r;obtain⟨y,i,rfl,f,r⟩:=r;obtain⟨z,h,rfl,e,r⟩:=r;subst r;exact⟨x,y,z,rfl,d,f,e⟩
def vS(p:Prop)(a:Option eY):Option eY:=@ite _ p (Classical.propDecidable p) a none
def Nn{p:Prop}{a:Option eY}(h:p):vS p a=a:=@if_pos p _ h _ _ _
def E7{p:Prop}{a:Option eY}{o:eY}(e:vS p a=some o):p/\a=some o:=by
 by_cases h:p
 .rw[Nn h]at e
  exact⟨h,e⟩
 .have:vS p a=none:=@if_neg p _ h _ _ _
  rw[this]at e;cases e
abbrev Wm:=Ro->AG->Option (cc AG)
structure ZWS(X:Cx)(l:Addr)(st:Stmt)(f:Wm):Prop where
 un:WS wl X l st f
structure ZWB(X:Cx)(l:Addr)(sts:List Stmt)(f:Wm):Prop where
 un:WB wl X l sts f
structure ZWT(X:Cx)(l:Addr)(c:Expr)(f:Ro->AG->Option Bool):Prop where
 un:WT wl X l c f
section
variable {l:Addr}{fs gs:Wm}{e o:Expr}{f:AU}{c m:Str}
def E8{f:Str}(k:CF X.K c f)(j:ZE X e fa)(D:attributeBase e f X.env (eval e X.env)=eval e X.env:=by rfl):ZE X (.Attribute e f pos) (b1 fa (cQ c f)):=⟨have j:=j.un;
 PE.imp (nc j D) λL H Q p=>by
  obtain⟨K,d,I,J,G,e,s,h⟩:=p;obtain⟨x,F,b⟩:=dU e;refine tOf.at F s λv u t E A y=>?_
  cases x with
  | obj r m o=>
    change (if r=c then (m.zip o).lookup f else none)=some d at b
    by_cases i:r=c
    .rw[if_pos i]at b
     subst i;obtain⟨a,C,w,M,rfl,n,g,l,q⟩:=A;obtain⟨v,z,B⟩:=q.look b;exact⟨a,C,w,_,v,rfl,y.seen _ _ g,(k C n).1,(k C n).2,z,h v u t E B⟩
    .rw[if_neg i]at b
     cases b
  | _=>cases b⟩
theorem qL{j k:Nat}{ps:AJ}{u:AN->Option D}{pl:Sem Bool}(O:gm X.prog X.w X.K X.mg X.base j c m ps (cx X.K 1 u))(R:Room k X.A)(r:ZE X o fo)(K:j<=k:=by first|exact qv _|ac_nf)(V:eval (.Call (.Attribute o m apos) [] [] pos) X.env=(do
  let A <-eval o X.env
  standAt apos.atName
  let (f,first) <-holding [A] (getMethod A m pl)
  callWith pos f first (backTo pos (starEach [] X.env)) (backToKw pos (keywordEach [] X.env))):=by rfl):ZE X (.Call (.Attribute o m apos) [] [] pos) (b1 fo (cA c m u)):=⟨have r:=r.un;by
 intro pins s σ H Q I i;obtain⟨ρ,d,W,G0,G,e,P,h⟩:=i;obtain⟨x,J,b⟩:=dU e
 cases x with
 | obj t ks vs=>
   change (if t=c/\m∉ks then u _ else none)=some d at b
   by_cases p:t=c/\m∉ks
   .rw[if_pos p]at b
    obtain⟨rfl,B⟩:=p;obtain⟨C,f,Y,F,hb,z,L,M⟩:=O;refine Ri r L M F (R.mono K) hb .nil tN V _ s σ H Q I (tOf.at J P λv Z N U S w=>?_);obtain⟨a,C',y,xs,rfl,n,g,l,q⟩:=S;rw[z]at n;cases n;refine⟨a,y,_,rfl,w.seen _ _ g,E5 B,⟨rfl,[_],d,N,w.seen,.one ?_,b,λv H' G' E T=>h v H' G' (U.trans E) T⟩⟩;exact⟨a,C,y,xs,rfl,z,g,l,q⟩
   .rw[if_neg p]at b
    cases b
 | _=>cases b⟩
end
def Mq(K:W7)(c m q:Str)(st:Stmt):Prop:=∃C f b,W.nsIn K mainGlobals c=some (some (.ref C))/\Cls K C/\eX K C m f/\Fun K m q st f b
def mq_mk{K:W7}{c m q:Str}{st:Stmt}{C f:Addr}{o:Value}{s p:Option Addr}{e:Array (Option Value)}{kV g u d w:Value}(a:W.nsIn K mainGlobals c=some (some (.ref C)))(v:W.plainGet K C Str.empty=true)(r:W.hasDictIn K C=true)(j:W.plainOver K C=true)(t:W.findIn K (.ref C) "__setattr__"=some (some (.builtin "object.__setattr__")))(i:W.findIn K (.ref C) m=some (some (.ref f)))(n:W.isFn K (.ref f)=true)(l:K.lookup f=some ⟨o,s,.func (W.fnOf m q (aGa st) (aFa st) (aDa st) .none kV g u p d w),e⟩)(h:W.codeIn K d q=true)(k:W.keepIn K (.ref f)=true):Mq K c m q st:=
 ⟨C,f,_,a,⟨v,r,j,t⟩,⟨i,n,k⟩,nE l h k⟩
def Nq(K:W7)(c f:Str):Prop:=∃C,W.nsIn K mainGlobals c=some (some (.ref C))/\Cls K C/\NoAttr K C f
def nq_mk{K:W7}{c f:Str}{C:Addr}(a:W.nsIn K mainGlobals c=some (some (.ref C)))(g:W.plainGet K C Str.empty=true)(h:W.hasDictIn K C=true)(e:W.plainOver K C=true)(d:W.findIn K (.ref C) "__setattr__"=some (some (.builtin "object.__setattr__")))(n:W.findIn K (.ref C) f=some none):Nq K c f:=
 ⟨C,a,⟨g,h,e,d⟩,n⟩
def Nq.cf{K:W7}{c f:Str}(h:Nq K c f):CF K c f:=λC e=>by
 obtain⟨g,a,d,n⟩:=h;rw[a]at e;cases e;exact⟨d,n⟩
def E9(x q:Str)(st:Stmt)(h:AJ):Prop:=∀(kV a e:Value) (d:Option _) (c f:Value) (b:List _),b.length=h.length->bindArgs (W.fnOf x q (aGa st) (aFa st) (aDa st) .none kV a e d c f) ⟨b,[]⟩=pure (h.zip b)
section
variable {P:P7}{w:World}
theorem kL{c x q:Str}{st:Stmt}{k n m:Nat}{N r:AJ}{fb:AR}(F:Mq K c x q st)(S:dI N r (aDa st))(t:∀{f:Addr}{d:Value}{A:Around}{b:List Env}{s:Shared}{H:Hp}{E:XK},Room k (A.deeper (envOfC q (aDa st) (~~~s) f d))->ZB (cm cJ P w K mg base N q (aDa st) f d A b s H E).nox (aFa st) fb)(j:N.length=n:=by rfl)(h:r.length=m:=by rfl)(B:E9 x q st r:=by and_intros):gm P w K mg base (k+1) c x r (cx K m (aj m n fb)):=by
 obtain⟨C,f,o,a,p,i,g⟩:=F;exact⟨C,f,o,DF g S j h λ_ _ _ _ _ _ l=>t l,g.binds B,a,p,i⟩
end
section
variable {a:Expr}{x:Str}{ks:AJ}
theorem E_(r:X.A.units+64<cLine){p:Addr}{o:Obj}{its:Array Value}{n:Nat}(l:X.K.lookup p=some o)(d:o.cls=.type "tuple")(f:o.data=.seq its n)(hs:ku its.toList ks):br X (compareOp .In) (CG p ks false):=by
 intro b s z H x y v u Q I g m h;obtain⟨k,rfl,i,rfl,q⟩:=h;cases m;obtain⟨t,rfl⟩:=g;obtain⟨w,j,c⟩:=Mf hs;refine SeqAt.in_tuple_reads (.tuple (I.kIn p o l) d f j) (.str k t) (by simpa [PyData.canLay0]using c) (by simp[PyData.canLay0,i]) ?_ ⟨.bl _,H,I,rfl,?_⟩
 .have e:(PyData.str k).depth=0:=by simp[PyData.depth]
  ext<;>ac_nf
 .rw[Mg]
  have e:decide (k∈ks)=(decide (k∈ks)!=false):=by cases decide (k∈ks)<;>rfl
  rwa [e]
theorem Fb(E:X.A.units+64<cLine)(g:GT X.K X.mg x ks)(r:Gl X x)(u:ZC X a fa)(C:behindInMarks .In (.Name x px)=false:=by with_unfolding_all rfl)(t:cu x:=by decide):ZE X (.Compare a [.In] [.Name x px] pos) (mB (b1 fa (CD false ks))):=by
 obtain⟨p,o,D,n,j,z,q,f,K⟩:=g;refine⟨PE.imp (Ko (E_ E z q f K) u.un (Kb (v:=.ref p) r j rfl t) C) λM H Q i=>?_⟩;obtain⟨L,b,F,I,G,e,s,h⟩:=i;obtain⟨k,B,rfl⟩:=tZ e;obtain⟨d,w,c⟩:=dU B;refine tCof.at w s λv y m A l J=>?_;unfold CD at c
 split at c
 .rename_i k
  cases c;exact⟨k,l.1,l.2,rfl,h _ y m A (by rw[Rp])⟩
 .cases c
end
inductive HS where
 | bls (t:AG)
 | ins (c:Str) (C dx:Addr) (ks:AJ) (vs:AM) (ds:AN)
abbrev Hs:=Addr->Option HS
noncomputable def HS.ho:HS->HO
 | .bls t=>.lst (t.map .bl)
 | .ins _ C a c b _=>.ins C a (c.zip b)
noncomputable def HS.d:HS->D
 | .bls t=>.lst (t.map .bl)
 | .ins c _ _ b _ a=>.obj c b a
def HS.ok(K:W7)(G:Hp):HS->Prop
 | .bls _=>True
 | .ins c C _ b a d=>W.nsIn K mainGlobals c=some (some (.ref C))/\a.length=b.length/\RpL K G d a
theorem HS.ok.mono{G d:Hp}(h:Same G d):∀{s:HS},s.ok K G->s.ok K d
 | .bls _,_=>trivial
 | .ins ..,⟨a,b,c⟩=>⟨a,b,c.mono h⟩
noncomputable def pt(t:Hs)(a:Addr)(s:Option HS):Hs:=λb=>if b=a then s else t b
def du{t:Hs}{a:Addr}{s:Option HS}:pt t a s a=s:=if_pos rfl
def b7{t:Hs}{a b:Addr}{s:Option HS}(h:b≠a):pt t a s b=t b:=if_neg h
structure HW(K:W7)(t:Hs)(H G:Hp):Prop where
 g:∀a s,t a=some s->G a=none
 h:∀a s,t a=some s->H a=some s.ho
 ok:∀a s,t a=some s->s.ok K G
structure WH(K:W7)(t:Hs)(H0 G0:Hp)(σ:L2.St)(H G:Hp)(ρ:Ro):Prop where
 sr:SR K H0 G0 σ H G ρ
 h0:∀a s,t a=some s->H0 a=some s.ho
 g0:∀a s,t a=some s->G0 a=none
 ok:∀a s,t a=some s->s.ok K G
structure OffH(t t':Hs)(H0 H1:Hp):Prop where
 keep:∀a,t' a=none->H1 a=H0 a
 grow:∀a,t' a=none->t a=none
 new:∀a,t a=none->t' a≠none->H0 a=none
def OffH.refl{t:Hs}{H:Hp}:OffH t t H H:=⟨λ_ _=>rfl,λ_ h=>h,λ_ h a=>absurd h a⟩
def OffH.trans{t c f:Hs}{H e d:Hp}(a:OffH t c H e)(b:OffH c f e d):OffH t f H d:=
 ⟨λx h=>(b.keep x h).trans (a.keep x (b.grow x h)),λx h=>a.grow x (b.grow x h),λx h g=>by
  by_cases z:c x=none
  .rw[<-a.keep x z];exact b.new x z g
  .exact a.new x h z⟩
structure Aft(K:W7)(t t':Hs)(H G H' G':Hp):Prop where
 keep:∀a o,t a=none->H a=some o->H' a=some o
 grow:∀a,t' a=none->t a=none
 new:∀a,t a=none->t' a≠none->H a=none
 hw:HW K t' H' G'
 g:Same G G'
 s:Same G' H'
 n:∀a,G a=none->G' a≠none->H a=none
section
variable {t t':Hs}{H0 G0 H G H' G':Hp}{σ:L2.St}{ρ:Ro}
def WH.no(w:WH K t H0 G0 σ H G ρ){a:Addr}{s:HS}(e:t a=some s):G a=none:=by
 cases h:G a with
 | none=>rfl
 | some u=>
   have:=w.sr.gr.n a (w.g0 a s e) (by rw[h];exact λz=>nomatch z);rw[w.h0 a s e]at this;cases this
def WH.hw(w:WH K t H0 G0 σ H G ρ):HW K t H G:=⟨λ_ _ e=>w.no e,λa s e=>w.sr.gr.h _ _ (w.h0 a s e),w.ok⟩
def WH.grow(w:WH K t H0 G0 σ H G ρ)(g:Gr H G H' G'):WH K t H0 G0 σ H' G' ρ:=⟨w.sr.grow g,w.h0,w.g0,λa s e=>(w.ok a s e).mono g.g⟩
def WH.bare(w:WH K t H0 G0 σ H G ρ):WH K t H0 G0 [] H G []:=⟨.mkSh w.sr.gr rfl (λi d e=>by simp at e) (λi l e=>by simp at e) (λi t b a e=>by simp at e),w.h0,w.g0,w.ok⟩
theorem WH.after(w:WH K t H0 G0 σ H G ρ)(a:Aft K t t' H G H' G'):∃E,OffH t t' H0 E/\WH K t' E G0 σ H' G' ρ:=by
 have s:=w.sr
 have C:∀{b:Addr},H0 b=none->t b=none:=λ{b} h=>by
  cases z:t b with
  | none=>rfl
  | some x=>have:=w.h0 b x z;rw[h]at this;cases this
 have j:∀{b:Addr}{o:HO},_->_->_->_/\_/\_:=λ{b o} F q I=>by
  refine⟨?_,a.keep b o (C F) q,?_⟩
  .refine Classical.byContradiction λz=>?_
   have:=a.new b (C F) z;rw[q]at this;cases this
  .refine Classical.byContradiction λz=>?_
   have:=a.n b I z;rw[q]at this;cases this
 refine⟨λb=>if t' b=none then H0 b else H' b,⟨λb h=>if_pos h,a.grow,λb h N=>s.gr.h.free (a.new b h N)⟩,⟨⟨λb u e=>?_,s.gr.g.trans a.g,a.s,λb h N=>?_⟩,s.len,λi d e=>?_,λi l e=>?_,s.ap,λi J R S e=>?_,s.apd⟩,λb x e=>?_,λb x e=>(s.gr.g.trans a.g).free (a.hw.g b x e),a.hw.ok⟩
 .by_cases z:t' b=none
  .simp [if_pos z]at e
   exact a.keep b u (a.grow b z) (s.gr.h b u e)
  .simp [if_neg z]at e
   exact e
 .have z:t' b=none:=by
   cases z:t' b with
   | none=>rfl
   | some x=>exact absurd (a.hw.g b x z) N
  rw[if_pos z];by_cases y:G b=none
  .exact s.gr.h.free (a.n b y N)
  .exact s.gr.n b h y
 .obtain⟨v,g,k⟩:=s.sh i d e
  exact⟨v,g,k.mono a.g⟩
 .obtain⟨b,Q,g,k,f,m,r⟩:=s.ow i l e
  obtain⟨n,p,B⟩:=j f m k;exact⟨b,Q,g,B,by rwa [if_pos n],p,r.mono a.g⟩
 .obtain⟨b,A,O,g,k,f,m,r,L⟩:=s.od i J R S e
  obtain⟨o,D,_⟩:=m.some;obtain⟨n,p,B⟩:=j f D k;exact⟨b,A,O,g,B,by rwa [if_pos n],m.mono a.g λM z=>by rw[D]at z;rwa [p],r.mono a.g,L.mono a.g⟩
 .rw[if_neg (by rw[e];exact λz=>nomatch z)]
  exact a.hw.h b x e
def WH.aft(w:WH K t' H0 G0 σ H G ρ){c d:Hp}(o:OffH t t' c H0)(g:d=G0):Aft K t t' c d H G:=by
 subst g;refine⟨λa u h e=>?_,o.grow,o.new,w.hw,w.sr.gr.g,w.sr.gr.s,λa h i=>?_⟩
 .by_cases z:t' a=none
  .exact w.sr.gr.h a u (by rwa [o.keep a z])
  .have:=o.new a h z
   rw[e]at this;cases this
 .have b:=w.sr.gr.n a h i
  by_cases z:t' a=none
  .rwa [<-o.keep a z]
  .obtain⟨x,f⟩:=Option.ne_none_iff_exists'.mp z
   rw[w.h0 a x f]at b;cases b
theorem WH.rebase(w:WH K t H0 G0 σ H G ρ):∃J,WH K t J G σ H G ρ/\∀t' v σ' H' G' ρ',OffH t t' J v->WH K t' v G σ' H' G' ρ'->∃L,OffH t t' H0 L/\WH K t' L G0 σ' H' G' ρ':=by
 classical
 have s:=w.sr
 let d:=λa=>∃(i:Nat),((∃l:AN,ρ[i]?=some (some (.ow l)))\/(∃t N O,ρ[i]?=some (some (.od t N O))))/\σ[i]?=some (some (.ref a))
 have E:∀a,d a->_/\_:=λa M=>by
  obtain⟨i,R,T⟩:=M;rcases R with⟨l,R⟩|⟨t,N,O,R⟩
  .obtain⟨b,S,c,g,k,_⟩:=s.ow i l R
   rw[T]at c;cases c;exact⟨k,g⟩
  .obtain⟨b,m,B,c,g,k,_⟩:=s.od i t N O R
   rw[T]at c;cases c;exact⟨k,g⟩
 have n:∀a,(if d a then none else H a)=none->_:=λa h=>by
  by_cases o:d a
  .exact(E a o).1
  .rw[if_neg o]at h;exact s.gr.h.free h
 refine⟨λa=>if d a then none else H a,⟨⟨⟨λb o e=>?_,.refl _,s.gr.s,λ_ h Q=>absurd h Q⟩,s.len,s.sh,λi l e=>?_,s.ap,λi t N O e=>?_,s.apd⟩,λa x e=>?_,λa x e=>w.no e,w.ok⟩,λt' v σ' H' G' ρ' f A=>?_⟩
 .by_cases z:d b
  .simp only[if_pos z]at e;cases e
  .simp [if_neg z]at e;exact e
 .obtain⟨a,S,c,g,k,p,F⟩:=s.ow i l e
  exact⟨a,S,c,g,if_pos ⟨i,.inl ⟨l,e⟩,c⟩,p,F⟩
 .obtain⟨a,m,B,c,g,k,p⟩:=s.od i t N O e
  exact⟨a,m,B,c,g,if_pos ⟨i,.inr ⟨t,N,O,e⟩,c⟩,p⟩
 .have z:¬d a:=λz=>by
   have:=(E a z).1;rw[w.h0 a x e]at this;cases this
  rw[if_neg z];exact w.hw.h a x e
 .have j:=A.sr
  have r:∀a,v a=none->(if t' a=none then H0 a else v a)=none:=λa h=>by
   by_cases z:t' a=none
   .rw[if_pos z]
    rw[f.keep a z]at h;exact n a h
   .rw[if_neg z];exact h
  refine⟨λa=>if t' a=none then H0 a else v a,⟨λa h=>if_pos h,f.grow,λa h Q=>n a (f.new a h Q)⟩,⟨⟨λb u e=>?_,s.gr.g.trans j.gr.g,j.gr.s,λb h Q=>?_⟩,j.len,j.sh,λi l e=>?_,j.ap,λi C N O e=>?_,j.apd⟩,λa x e=>?_,λa x e=>s.gr.g.free (A.g0 a x e),A.ok⟩
  .refine j.gr.h b u ?_
   by_cases z:t' b=none
   .simp [if_pos z]at e
    rw[f.keep b z]
    have I:¬d b:=λq=>by rw[(E b q).1]at e;cases e
    rw[if_neg I];exact s.gr.h b u e
   .simp [if_neg z]at e;exact e
  .by_cases z:G b=none
   .exact r b (j.gr.n b z Q)
   .have q:=s.gr.n b h z
    have I:t' b=none:=by
     cases y:t' b with
     | none=>rfl
     | some x=>exact absurd (A.g0 b x y) z
    rw[if_pos I];exact q
  .obtain⟨a,S,c,g,k,p,F⟩:=j.ow i l e
   exact⟨a,S,c,g,r a k,p,F⟩
  .obtain⟨a,m,B,c,g,k,p⟩:=j.od i C N O e
   exact⟨a,m,B,c,g,r a k,p⟩
  .rw[if_neg (by rw[e];exact λz=>nomatch z)]
   exact A.h0 a x e
end
def ContH(K:W7)(t:Hs)(c b:Hp)(F:dH):cc Hs->Prop
 | .nx g h=>∀e f i a,OffH t h c a->WH K h a b e f i g->F.nx e f
 | .rt d h=>∀v f i a,OffH t h c a->WH K h a b [] f i []->Rp K i d v->F.rt v f
 | .bk g h=>∀e f i a,OffH t h c a->WH K h a b e f i g->F.bk e f
 | .ct g h=>∀e f i a,OffH t h c a->WH K h a b e f i g->F.ct e f
def ContH.off{t t':Hs}{i h e:Hp}{F:dH}{o:cc Hs}(f:OffH t t' i e)(c:ContH K t i h F o):ContH K t' e h F o:=by
 cases o with
 | nx m b=>exact λj k l a g w=>c j k l a (f.trans g) w
 | rt d b=>exact λv k l a g w=>c v k l a (f.trans g) w
 | bk m b=>exact λj k l a g w=>c j k l a (f.trans g) w
 | ct m b=>exact λj k l a g w=>c j k l a (f.trans g) w
abbrev Hm:=Ro->Hs->(cc Hs->Prop)->Prop
abbrev He:=Ro->Hs->(D->Hs->Prop)->Prop
abbrev Ha:=Ro->Hs->(AN->Hs->Prop)->Prop
def qM(K:W7)(f:Hm):TS:=λF d H=>∃c t b a G Q,WH K t b a d H G c/\f c t Q/\∀o,Q o->ContH K t b a F o
def Ul(K:W7)(f:He):TE:=λi H Q=>∃e t c a G R,WH K t c a i H G e/\f e t R/\∀d h,R d h->∀v j g b,OffH t h c b->WH K h b a i j g e->Same G g->Rp K g d v->Q v j
def Um(K:W7)(f:Ha):TA:=λk H Q=>∃g t c a G R,WH K t c a k H G g/\f g t R/\∀j e,R j e->∀h i d b,OffH t e c b->WH K e b a k i d g->Same G d->RpL K d j h->Q h i
def Uo(K:W7)(f:Ro->Hs->Option Bool):TT:=λe H Q=>∃c t k b a G,f c t=some k/\WH K t b a e H G c/\∀d g,Gr H G d g->Q k d
structure fL(X:Cx)(st:Stmt)(f:Hm):Prop where
 un:PS X st (qM X.K f)
structure fM(X:Cx)(sts:List Stmt)(f:Hm):Prop where
 un:PSs X sts (qM X.K f)
structure jq(X:Cx)(e:Expr)(f:He):Prop where
 un:PE X e (Ul X.K f)
structure ZHA(X:Cx)(es:AK)(f:Ha):Prop where
 un:PA X es (Um X.K f)
structure Fc(X:Cx)(e:Expr)(f:Ro->Hs->Option Bool):Prop where
 un:PT X e (Uo X.K f)
noncomputable def Fd(t:Hs):eY->cc Hs
 | .nx a=>.nx a t
 | .rt d=>.rt d t
 | .bk a=>.bk a t
 | .ct a=>.ct a t
def fN(f:AR):Hm:=λa t Q=>∃o,f a=some o/\Q (Fd t o)
def iE:Hm:=λa t Q=>Q (.nx a t)
def bB(f g:Hm):Hm:=λb t Q=>f b t fun
 | .nx a c=>g a c Q
 | o=>Q o
def vT(c:Ro->Hs->Option Bool)(f g:Hm):Hm:=λa t Q=>∃k,c a t=some k/\((k=true->f a t Q)/\(k=false->g a t Q))
def eH(gt:AS)(fb:Hm):AN->Hm
 | [],ρ,t,Q=>Q (.nx ρ t)
 | d::ds,ρ,t,Q=>∃c,gt d ρ=some c/\fb c t fun
   | .nx a b=>eH gt fb ds a b Q
   | .ct a b=>eH gt fb ds a b Q
   | .bk a b=>Q (.nx a b)
   | .rt d b=>Q (.rt d b)
def kM(a:AV)(gt:AS)(fb:Hm):Hm:=λb t Q=>∃c,a b=some c/\eH gt fb c b t Q
section
variable {fs gs:Hm}
theorem kO{f:AR}(h:ZS X st f):fL X st (fN f):=⟨PS.imp h.un λF E H z=>by
 obtain⟨B,t,I,D,G,Q,w,⟨o,C,q⟩,c⟩:=z;obtain⟨A,x,u⟩:=w.rebase;have c:=c _ q;refine⟨B,o,A,G,G,C,x.sr,?_⟩;have y:=λ{σ' b j ρ'} k=>u t A σ' b j ρ' .refl ⟨k,x.h0,x.g0,λa s e=>(x.ok a s e).mono k.gr.g⟩
 cases o with
 | nx ρ'=>
   exact λσ' b j k=>by
    obtain⟨p,m,n⟩:=y k;exact c σ' b j p m n
 | rt d=>
   exact λv b j g r=>by
    obtain⟨p,m,n⟩:=y (σ':=[]) (ρ':=[]) (.mkSh g rfl (λi d e=>by simp at e) (λi l e=>by simp at e) (λi t K J e=>by simp at e));exact c v b j p m n r
 | bk ρ'=>
   exact λσ' b j k=>by
    obtain⟨p,m,n⟩:=y k;exact c σ' b j p m n
 | ct ρ'=>
   exact λσ' b j k=>by
    obtain⟨p,m,n⟩:=y k
    exact c σ' b j p m n⟩
def Np:fM X [] iE:=⟨PSs.imp Ke λF e H a=>by
 obtain⟨f,t,b,d,G,Q,w,q,c⟩:=a
 exact c _ q e H G b .refl w⟩
def vU(h:fL X st fs):fM X [st] fs:=⟨Kg h.un⟩
def gP(h:fL X st fs)(l:fM X sts gs):fM X (st::sts) (bB fs gs):=⟨PSs.imp (Kf h.un l.un) λF u H b=>by
 obtain⟨p,t,j,e,G,Q,w,q,c⟩:=b;refine⟨p,t,j,e,G,_,w,q,λo a=>?_⟩
 cases o with
 | nx m n=>exact λr v s k f i=>⟨m,n,k,e,s,Q,i,a,λo g=>(c o g).off f⟩
 | rt d n=>exact c _ a
 | bk m n=>exact c _ a
 | ct m n=>exact c _ a⟩
def qN{c:Expr}{a b:List Stmt}{fc:Ro->Hs->Option Bool}(j:Fc X c fc)(n:fM X a fs)(q:fM X b gs):fL X (.If c a b pos) (vT fc fs gs):=⟨PS.imp (mV j.un n.un q.un) λF r H d=>by
 obtain⟨p,t,e,f,G,Q,w,⟨k,m,i,l⟩,c⟩:=d;refine⟨p,t,k,e,f,G,m,w,λo h g=>?_⟩
 cases k with
 | true=>exact z_ ⟨p,t,e,f,h,Q,w.grow g,i rfl,c⟩
 | false=>exact z4 ⟨p,t,e,f,h,Q,w.grow g,l rfl,c⟩⟩
theorem Fe{b:Expr}{g:List Stmt}{gt:AS}(hp:PassesOwn (mZ X.prog X.w) X.A X.env X.xe)(U:X.calm=true)(ua:ZI X tg b gl)(hg:ZG X tg gt)(hb:fM X g fs)(hs:∀x,foldedSetIterable b X.env x=pure x:=by intro _;rfl):fL X (.For tg b g [] pos) (kM gl gt fs):=
 ⟨PS.imp (m5 hp U ua.un hg.un hb.un hs) λF σ H M=>by
  obtain⟨ρ,t,H0,G0,G,Q,w,⟨ds,T,h2⟩,c⟩:=M;refine⟨ρ,ds,H0,G0,G,T,w.sr,λJ H1 A g1 S=>?_⟩;obtain⟨N,Z,a⟩:=(w.grow g1).rebase;refine⟨λi m σ' H'=>m=ds.length-i/\i<=ds.length/\∃K t' G' h,OffH t t' N h/\WH X.K t' h A σ' H' G' K/\eH gt fs (ds.drop i) K t' Q,⟨_,rfl,Qh _,ρ,t,A,N,.refl,Z,h2⟩,?_⟩;rintro i m σ' H' ⟨rfl,ua,K,t',G',h,fc,E,p⟩;have W:=S.2 i H' G' E.sr.gr.g E.sr.seen;by_cases e:i<ds.length
  .obtain⟨go,Y⟩:=W.1 _ (qr e)
   rw[List.drop_eq_getElem_cons e]at p;obtain⟨B,e1,p⟩:=p;refine .inr ⟨go,λσ' H'=>i+1<=ds.length/\∃K t' G' h,OffH t t' N h/\WH X.K t' h A σ' H' G' K/\eH gt fs _ K t' Q,λσ2 R q=>⟨ds.length-(i+1),by symm,rfl,q.1,q.2⟩,λx R y=>?_⟩;obtain⟨O,g2,V⟩:=Y x R y;have I:=E.grow g2;refine⟨_,K,B,h,A,O,e1,I.sr,V,λσ3 s3=>⟨B,t',h,A,O,_,⟨s3,I.h0,I.g0,I.ok⟩,p,λo L=>?_⟩⟩
   cases o with
   | nx f C=>exact λl z n r k j=>⟨e,f,C,n,r,fc.trans k,j,L⟩
   | ct f C=>exact λl z n r k j=>⟨e,f,C,n,r,fc.trans k,j,L⟩
   | bk f C=>
     exact λl z n r k j=>by
      obtain⟨He,u,s⟩:=a _ _ _ _ _ _ (fc.trans k) j;exact c _ L l z n He u s
   | rt d C=>
     exact λv z n r k j r4=>by
      obtain⟨He,u,s⟩:=a _ _ _ _ _ _ (fc.trans k) j;exact c _ L v z n He u s r4
  .have ei:i=ds.length:=by ac_nf
   subst ei;rw[List.drop_length]at p;obtain⟨He,u,s⟩:=a _ _ _ _ _ _ fc E
   exact .inl ⟨W.2 (qv _),c _ p σ' H' G' He u s⟩⟩
end
mutual
def aO(t:Hs):D->D
 | .non=>.non
 | .bl b=>.bl b
 | .int i=>.int i
 | .str x=>.str x
 | .tup l=>.tup (dw t l)
 | .lst l=>.lst (dw t l)
 | .scr ns=>.scr ns
 | .dct b ks vs=>.dct b ks vs
 | .obj c ks vs=>.obj c ks (dw t vs)
 | .adr a=>match t a with
   | some s=>s.d
   | none=>.adr a
def dw(t:Hs):AN->AN
 | []=>[]
 | d::l=>aO t d::dw t l
end
noncomputable def Nr(t:Hs):B->B
 | .sh d=>.sh (aO t d)
 | .ow l=>.ow l
 | .od b c a=>.od b c a
def d_(t:Hs)(ρ:Ro):Ro:=ρ.map (.map (Nr t))
def jr(t:Hs)(G:Hp):Hp:=λa=>match t a with
 | some s=>some s.ho
 | none=>G a
section
variable {t:Hs}{G:Hp}
def vV{a:Addr}{s:HS}(h:t a=some s):jr t G a=some s.ho:=by unfold jr;rw[h]
def kP{a:Addr}(h:t a=none):jr t G a=G a:=by unfold jr;rw[h]
def HW.same{H:Hp}(w:HW K t H G):Same G (jr t G):=λa o e=>by
 cases h:t a with
 | none=>rwa [kP h]
 | some s=>rw[w.g a s h]at e;cases e
mutual
theorem Rp.thaw{H:Hp}(w:HW K t H G):∀{d:D}{v:V},Rp K G d v->Rp K (jr t G) (aO t d) v
 | .non,_,r=>r.mono w.same
 | .bl _,_,r=>r.mono w.same
 | .int _,_,r=>r.mono w.same
 | .str _,_,r=>r.mono w.same
 | .tup l,_,r=>by
   obtain⟨a,xs,e,g,q⟩:=r;exact⟨a,xs,e,w.same _ _ g,RpL.thaw w q⟩
 | .lst l,_,r=>by
   obtain⟨a,xs,e,g,q⟩:=r;exact⟨a,xs,e,dJ w.same g,RpL.thaw w q⟩
 | .scr _,_,r=>r.mono w.same
 | .dct _ _ _,_,r=>r.mono w.same
 | .obj c ks vs,_,r=>by
   obtain⟨a,C,b,xs,e,n,g,l,q⟩:=r;exact⟨a,C,b,xs,e,n,w.same _ _ g,l,RpL.thaw w q⟩
 | .adr a,_,r=>by
   subst r;rw[aO]
   cases h:t a with
   | none=>rw[Rp]
   | some s=>
     cases s with
     | bls y=>
       exact⟨a,y.map V.bl,rfl,.inl (vV h),Nm y⟩
     | ins c C b ks vs ds=>
       obtain⟨i,f,j⟩:=w.ok a _ h;exact⟨a,C,b,vs,rfl,i,vV h,f,j.mono w.same⟩
theorem RpL.thaw{H:Hp}(w:HW K t H G):∀{l:AN}{xs:AM},RpL K G l xs->RpL K (jr t G) (dw t l) xs
 | [],_,r=>by subst r;exact .nil
 | d::l,_,r=>by
   obtain⟨x,xs,rfl,g,q⟩:=r;exact .cons (Rp.thaw w g) (RpL.thaw w q)
end
def kQ{ρ:Ro}{j:Nat}{b:B}(h:(d_ t ρ)[j]?=some (some b)):∃a,ρ[j]?=some (some a)/\Nr t a=b:=by
 unfold d_ at h;rw[Qm]at h;obtain⟨o,e,d⟩:=qc h;obtain⟨a,rfl,c⟩:=qc d;exact⟨a,e,c⟩
theorem WH.thaw{E J H:Hp}{σ:L2.St}{ρ:Ro}(w:WH K t E J σ H G ρ):∃P,SR K P J σ H (jr t G) (d_ t ρ):=by
 have s:=w.sr
 have p:∀{b:Addr},E b=none->t b=none:=λ{b} h=>by
  cases z:t b with
  | none=>rfl
  | some x=>have:=w.h0 b x z;rw[h]at this;cases this
 refine⟨λa=>if t a=none then E a else none,⟨⟨λb o e=>?_,s.gr.g.trans w.hw.same,λb o e=>?_,λb h h'=>?_⟩,by unfold d_;rw[qf];exact s.len,λj d e=>?_,λj l e=>?_,λj k l V a b f c D A I=>?_,λj M ks vs e=>?_,λj k R Y S U X T a b f c D A I=>?_⟩⟩
 .by_cases z:t b=none
  .simp [if_pos z]at e;exact s.gr.h b o e
  .simp only[if_neg z]at e;cases e
 .cases z:t b with
  | none=>rw[kP z]at e;exact s.gr.s b o e
  | some x=>rw[vV z]at e;rw[<-e];exact w.hw.h b x z
 .cases z:t b with
  | none=>
    rw[kP z]at h';exact s.gr.n b h h'
  | some x=>exact if_neg (λy=>nomatch y)
 .obtain⟨i,f,c⟩:=kQ e
  cases i with
  | sh C=>
    cases c;obtain⟨v,m,n⟩:=s.sh j C f;exact⟨v,m,n.thaw w.hw⟩
  | ow l=>cases c
  | od b ks vs=>cases c
 .obtain⟨i,f,c⟩:=kQ e
  cases i with
  | sh C=>cases c
  | ow L=>
    cases c;obtain⟨a,xs,m,n,g,u,B⟩:=s.ow j l f;exact⟨a,xs,m,by rwa [kP (p g)],by rwa [if_pos (p g)],u,B.mono w.hw.same⟩
  | od b ks vs=>cases c
 .obtain⟨b1,e1,e2⟩:=kQ f
  obtain⟨b2,r,F⟩:=kQ c;cases b1<;>cases e2;cases b2<;>cases F;exact s.ap j k _ _ a b e1 r D A I
 .obtain⟨i,f,c⟩:=kQ e
  cases i with
  | sh C=>cases c
  | ow L=>cases c
  | od i O N=>
    cases c;obtain⟨a,q,Z,m,n,g,u,B,Q⟩:=s.od j M ks vs f;exact⟨a,q,Z,m,by rwa [kP (p g)],by rwa [if_pos (p g)],u.mono w.hw.same λ_ z=>z,B.mono w.hw.same,Q.mono w.hw.same⟩
 .obtain⟨b1,e1,e2⟩:=kQ f
  obtain⟨b2,r,F⟩:=kQ c;cases b1<;>cases e2;cases b2<;>cases F;exact s.apd j k _ _ _ _ _ _ a b e1 r D A I
end
def vW(f:AU):He:=λa t Q=>∃d,f (d_ t a)=some d/\ik d=true/\Q d t
def vX(f:AT):Ro->Hs->Option Bool:=λa t=>f (d_ t a)
def iF(i:Nat)(f:He):Hm:=λa t Q=>f a t λd b=>Q (.nx (a.set i (↑d)) b)
def kR(f:He):Hm:=λa t Q=>f a t λd b=>Q (.rt d b)
def Nt(f:He):Hm:=λa t Q=>f a t λ_ b=>Q (.nx a b)
section
variable {e c:Expr}{f:AU}{fe:He}{ga:Ha}{fs:Hm}
def Nu(h:ZE X e f):jq X e (vW f):=⟨PE.imp h.un λp H Q a=>by
 obtain⟨o,t,j,b,G,R,w,⟨d,i,n,q⟩,k⟩:=a;obtain⟨m,l⟩:=w.thaw
 exact⟨_,d,m,b,_,i,l,λv c s g r=>k d t q v c G j .refl (w.grow (.back w.sr.seen g)) (.refl _) (r.scal n)⟩⟩
def Nv{fc:AT}(h:ZT X c fc):Fc X c (vX fc):=⟨PT.imp h.un λm H Q a=>by
 obtain⟨n,t,k,j,b,G,e,w,q⟩:=a;obtain⟨d,i⟩:=w.thaw
 exact⟨_,k,d,b,_,e,i,λf l g=>q f G (.back w.sr.seen g)⟩⟩
theorem Nw(i:Nat){y:Str}(j:X.N.Nodup)(h:jq X e fe)(m:X.N[i]?=some y:=by rfl)(r:c9 X.env.scope y:=by trivial)(b:swapsWith e (some (.Name y p1)) pos.line X.env=pure false:=by rfl)(o:aae X y:=by trivial):fL X (.Assign [.Name y p1] e pos) (iF i fe):=⟨PS.imp (jI j m r h.un b o) λF C H g=>by
 obtain⟨z,t,n,u,G,Q,w,q,c⟩:=g
 exact⟨z,t,n,u,G,_,w,q,λd B k v A f l s a x p=>c _ k _ A f l s ⟨a.sr.set_sh i p,a.h0,a.g0,a.ok⟩⟩⟩
def Nx(h:jq X e fe):fL X (.Return (some e) pos) (kR fe):=⟨PS.imp (mU h.un) λF s H a=>by
 obtain⟨o,t,j,m,G,Q,w,q,c⟩:=a
 exact⟨o,t,j,m,G,_,w,q,λd r g v p f i l k n b=>c _ g v p f i l k.bare b⟩⟩
def Ff(h:jq X e fe)(b:swapsWith e none pos.line X.env=pure false:=by rfl):fL X (.Expr e pos) (Nt fe):=⟨PS.imp (lG h.un b) λF p H a=>by
 obtain⟨f,t,j,g,G,Q,w,q,c⟩:=a
 exact⟨f,t,j,g,G,_,w,q,λd u l v s r i m k n o=>c _ l p s r i m k⟩⟩
end
def kT(K:W7)(n:Nat)(m:AN->Hs->(D->Hs->Prop)->Prop):Sp:=λa H Q _=>a.length=n/\∃c t G R,RpL K G c a/\Same G H/\HW K t H G/\m c t R/\∀d b,R d b->∀v e f,Aft K t b H G e f->Rp K f d v->Q v e
def eI(n:Nat)(g:Hm)(b:AN)(t:Hs)(R:D->Hs->Prop):Prop:=g (Yd n b) t fun
 | .rt d a=>R d a
 | .nx _ a=>R .non a
 | _=>False
section
variable {P:P7}{w:World}{k:Nat}{m:Str}{e o:Expr}{ta:TE}{t:TA}{ι:Type}{Cf:ι->Addr}{S:ι->Sp}
theorem Ny{x b:Str}{st:Stmt}{f:Addr}{r:FuncData}{N U:AJ}{k n m:Nat}{g:Hm}(F:Fun K x b st f r)(S:dI N U (aDa st))(I:N.length=n)(u:U.length=m)(Y:∀(c:Value) (A:Around) (a:List Env) (s:Shared) (H:Hp) (E:XK),Room k (A.deeper (envOfC b (aDa st) (~~~s) f c))->fM (cm cJ P w K mg base N b (aDa st) f c A a s H E).nox (aFa st) g):
 FnOk P w K mg base cJ (k+1) f r U (kT K m (eI n g)):=by
 refine F.ok S (λV H Q E h=>by rw[h.1,u]) λc A a s H V Q E z h=>?_;obtain⟨J,ds,t,G,R,D,C,j,e,q⟩:=h;refine⟨_,(Y c A a s H E z).un,?_⟩
 have s0:SR K H G (start N V) H G (Yd n ds):=by
  rw[<-I];exact .start C D
 refine⟨_,t,H,G,G,_,⟨s0,j.h,j.g,j.ok⟩,e,λo i=>?_⟩
 cases o with
 | rt d M=>exact λv T O B p l y=>q d M i v T O (l.aft p rfl) y
 | nx L M=>exact λZ T O B p l=>q _ M i _ T O (l.aft p rfl) (by rw[Rp])
 | bk L M=>exact i.elim
 | ct L M=>exact i.elim
theorem Fg{Z:Sem Bool}(J:PE X o ta)(C:∀i:ι,∃f j U,Cls X.K (Cf i)/\eX X.K (Cf i) m f/\FnOk X.prog X.w X.K X.mg X.base cJ k f j U (S i)/\Binds X.K j U [])(D:Room k X.A)(L:PA X (e::es) t)(p:aab X e es:=by rfl)(g:aac X pos es:=by rfl)(P:eval (.Call (.Attribute o m apos) (e::es) [] pos) X.env=(do
  let B <-eval o X.env
  standAt apos.atName
  let (f,first) <-holding [B] (getMethod B m Z)
  callWith pos f first (backTo pos (starEach (e::es) X.env)) (backToKw pos (keywordEach [] X.env))):=by rfl):
 PE X (.Call (.Attribute o m apos) (e::es) [] pos) (λσ H Q=>ta σ H λx b=>∃i a w n,x=.ref a/\b a=some (.ins (Cf i) w n)/\n.lookup m=none/\t σ b λvs z=>S i (x::vs) z Q E0):=by
 intro V s σ H Q I h;refine W.methodCall_KW (az (J _ s σ H _ I h) λu R c=>?_) P;obtain⟨x,b,A,M,i,a,w,n,G,O,l,q⟩:=c;subst G;obtain rfl:=M;obtain⟨f,j,U,E,y,F,Y⟩:=C i;refine Ku A O E y l (W.callWith_K I.ok.mod.kin y.kp (az (L pos _ R σ b _ A q) λus T d=>?_) p g);obtain⟨vs,z,v,r,N⟩:=d;refine⟨v.kIn,zw (vs:=.ref a::vs) F D Y .nil tN v (.cons rfl r) ?_⟩
 rwa [w9]
end
abbrev Hf:=AN->Hs->(D->Hs->Prop)->Prop
def OkTb(P:P7)(w:World)(K:W7)(d:AD)(a:Heap)(k:Nat)(m:Str){b:Type}(sp:b->Sp):List (Str×b)->Prop
 | []=>True
 | (c,e)::r=>(∃ps,gm P w K d a k c m ps (sp e))/\OkTb P w K d a k m sp r
theorem OkTb.look{P:P7}{w:World}{g:AD}{a:Heap}{k:Nat}{m:Str}{b:Type}{sp:b->Sp}{c:Str}{f:b}:∀{d:List (Str×b)},OkTb P w K g a k m sp d->d.lookup c=some f->∃n,gm P w K g a k c m n (sp f)
 | [],_,e=>by cases e
 | (l,i)::r,h,e=>by
   rw[List.lookup_cons]at e
   split at e
   .rename_i j
    cases e;rw[eq_of_beq j];exact h.1
   .exact OkTb.look h.2 e
noncomputable def qO(t:Hs):D->Option (Str×AJ)
 | .obj c b _=>some (c,b)
 | .adr a=>match t a with
   | some (.ins c _ _ b _ _)=>some (c,b)
   | _=>none
 | _=>none
def kU(m:Str)(e:List (Str×Hf))(f:AU)(b:AV):He:=λg t Q=>∃x j c i a R,f g=some x/\b g=some j/\qO t x=some (c,i)/\m∉i/\e.lookup c=some a/\a (x::j) t R/\∀d h,R d h->Q d h
section
variable {e o:Expr}{ga:AV}{p:Pos}{m:Str}
theorem Fh{j k n:Nat}{Z:List (Str×Hf)}{pl:Sem Bool}(T:OkTb X.prog X.w X.K X.mg X.base j m (kT X.K (n+1)) Z)(hr:Room k X.A)(ho:ZE X o fo)(y:ZA X (e::es) ga)(hl:∀ρ ds,ga ρ=some ds->ds.length=n)(hj:j<=k:=by first|exact qv _|ac_nf)(O:aab X e es:=by rfl)(hpl:aac X cpos es:=by rfl)(ht:eval (.Call (.Attribute o m apos) (e::es) [] cpos) X.env=(do
  let ov <-eval o X.env
  standAt apos.atName
  let (f,first) <-holding [ov] (getMethod ov m pl)
  callWith cpos f first (backTo cpos (starEach (e::es) X.env)) (backToKw cpos (keywordEach [] X.env))):=by rfl):jq X (.Call (.Attribute o m apos) (e::es) [] cpos) (kU m Z fo ga):=by
 have hm:∀i:{ p:Addr×Hf // ∃c K f b,FnOk X.prog X.w X.K X.mg X.base cJ j f b K (kT X.K (n+1) p.2)/\Binds X.K b K []/\W.nsIn X.K mainGlobals c=some (some (.ref p.1))/\Cls X.K p.1/\eX X.K p.1 m f},∃f b K,_/\_/\_/\_:=λi=>by
  obtain⟨c,K,f,b,F,hb,u,A,L⟩:=i.2;exact⟨f,b,K,A,L,F.mono hj,hb⟩
 refine⟨PE.imp (Fg ho.un hm hr y.un O hpl ht) λσ H Q I=>?_⟩;obtain⟨ρ,t,H0,G0,G,R,w,⟨x,ds,c,ks,fn,R',h1,Y,h,h4,h5,h6,h7⟩,kk⟩:=I;obtain⟨K,C,f,b,F,hb,u,A,L⟩:=T.look h5;refine tOf.at h1 w.sr λv H1 G1 D B M=>?_;have z:=w.grow D
 have E:∃a s xs,v=.ref a/\H1 a=some (.ins C s (ks.zip xs)):=by
  unfold qO at h
  split at h
  .cases h
   obtain⟨a,C',s,xs,rfl,S,g,l,q⟩:=B;rw[u]at S;cases S;exact⟨a,s,xs,rfl,M.seen _ _ g⟩
  .rename_i a
   split at h
   .rename_i c' C' s ks' vs ds' y
    cases h;subst B;obtain⟨o1,o2,o3⟩:=z.ok a _ y;rw[u]at o1;cases o1;exact⟨a,s,vs,rfl,z.hw.h a _ y⟩
   .cases h
  .cases h
 obtain⟨a,s,xs,rfl,N⟩:=E;refine⟨⟨(C,fn),c,K,f,b,F,hb,u,A,L⟩,a,s,_,rfl,N,E5 h4,tAof.at Y M λvs H2 G2 J U s2=>?_⟩;have w2:=z.grow J;refine⟨by rw[qt,U.length,hl ρ ds Y],x::ds,t,G2,R',.cons (B.mono J.g) U,s2.seen,w2.hw,h6,λd t' hd v H' G' V r=>?_⟩;obtain⟨H3,f3,w3⟩:=w2.after V;exact kk d t' (h7 d t' hd) v H' G' H3 f3 w3 ((D.g.trans J.g).trans V.g) r
end
noncomputable def qB:D->Bool
 | .adr _=>true
 | d=>dW d
def HS.pl:HS->Bool
 | .bls _=>true
 | .ins _ _ _ _ _ a=>a.all qB
def Rp.q{G e:Hp}(c:∀b ys,G b=some (HO.tup ys)->e b=some (HO.tup ys)){d:D}{v:V}(h:qB d=true)(r:Rp K G d v):Rp K e d v:=by
 cases d with
 | adr a=>exact r
 | _=>exact r.plain c h
theorem RpL.q{G c:Hp}(a:∀b ys,G b=some (HO.tup ys)->c b=some (HO.tup ys)):∀{l:AN}{xs:AM},l.all qB=true->RpL K G l xs->RpL K c l xs
 | [],_,_,r=>r
 | d::l,_,h,r=>by
   rw[List.all_cons,Qe]at h;obtain⟨x,xs,e,g,q⟩:=r;exact⟨x,xs,e,g.q a h.1,.q a h.2 q⟩
theorem HS.ok.q{G e:Hp}(d:∀b ys,G b=some (HO.tup ys)->e b=some (HO.tup ys)):∀{s:HS},s.pl=true->s.ok K G->s.ok K e
 | .bls _,_,_=>trivial
 | .ins ..,h,⟨a,b,c⟩=>⟨a,b,c.q d h⟩
def Fi(P:P7)(w:World)(K:W7)(b:AD)(a:Heap)(k n:Nat)(c:Str)(i:AJ)(e:AN)(m:Hf):Prop:=
 ∃C f d h g,W.nsIn K mainGlobals c=some (some (.ref C))/\b c=some (.ref C)/\Mk K C f/\FnOk P w K b a cJ k f d i (kT K n m)/\Binds K d i h/\Vals g h/\∀G,RpL K G e g
def kW(c:Str)(shown:Bool)(g:AE)(i:AN)(f:AV)(m:Hf):He:=λn t Q=>∃j,f (frz g n)=some j/\∀x C e,t x=none->∃R,m (.adr x::(j++i)) (pt t x (some (.ins c C e [] [] []))) R/\
 ∀d h,R d h->(∀a s,h a=some s->t a=some s\/s.pl=true)/\d=.non/\(shown=false->Q (.adr x) h)/\(shown=true->∃k l b,h x=some (.ins c C e k l b)/\Q (.obj c k b) (pt h x none))
section
variable {e:Expr}{ga:AV}{p:Pos}{m:Hf}
theorem Fj(shown:Bool)(is:AE){k k' n:Nat}{c:Str}{ps:AJ}{K:AN}(O:Fi X.prog X.w X.K X.mg X.base k (n+1) c ps K m)(hr:Room k' X.A)(hg:Gl X c)(ha:ZA X (e::es) ga)(hl:∀ρ ds,ga ρ=some ds->ds.length+K.length=n)(hk:k+1<=k':=by first|exact qv _|ac_nf)(hdb:(c==("__debug__":Str))=false:=by decide)(he:aab X e es:=by rfl)(T:aac X cpos es:=by rfl):
 jq X (.Call (.Name c p) (e::es) [] cpos) (kW c shown is K ga m):=by
 obtain⟨C,f,fd,dfs,dfv,hC,hm,mk,F,hb,hdv,hdd⟩:=O;refine⟨PE.imp (zy (E:=E0) mk F (hr.mono hk) hg hm hb hdv tN ha.un hdb he T) λσ H Q hx_=>?_⟩;obtain⟨ρ,t,H0,G0,G,R,w,⟨ds,h1,h2⟩,kk⟩:=hx_;obtain⟨Hb,wb,_⟩:=w.rebase;obtain⟨Gf,sf,ht⟩:=SR.frzT is wb.sr;have smf:Same G Gf:=sf.gr.g;refine tAof.at h1 sf λvs H1 V N r1 s1=>?_;intro x A hx0 W hne;have u:H x=none:=N.h.free hx0;have L:H A=none:=N.h.free W
 have hid1:=λa s e=>by
  have j:=w.hw.h a s e
  have h4:Gf a=none:=by
   refine Classical.byContradiction λz=>?_;have:=sf.gr.n a (w.no e) z;rw[wb.h0 a s e]at this;cases this
  refine Classical.byContradiction λz=>?_;have:=N.n a h4 z;rw[j]at this;cases this
 have tx:t x=none:=by
  cases z:t x with
  | none=>rfl
  | some s=>rw[w.hw.h x s z]at u;cases u
 have g1x:V x=none:=s1.seen.free hx0;have g1dx:V A=none:=s1.seen.free W;obtain⟨R',hi,hR⟩:=h2 x C A tx;refine⟨by rw[qt,qz,r1.length,(hdd V).length,hl _ ds h1],.adr x::(ds++K),_,V,R',.cons (by rw[Rp]) (r1.append (hdd V)),λa o g=>?_,⟨λa s e=>?_,λa s e=>?_,λa s e=>?_⟩,hi,λd t' hd v H' G' S rd=>?_⟩
 .have n1:a≠x:=λz=>by rw[z,g1x]at g;cases g
  have U:a≠A:=λz=>by rw[z,g1dx]at g;cases g
  rw[Yh n1,Yh U];exact s1.seen a o g
 .by_cases z:a=x
  .rw[z];exact g1x
  .rw[b7 z]at e;exact hid1 a s e
 .by_cases z:a=x
  .subst z
   rw[du]at e;cases e;rw[Yg];rfl
  .rw[b7 z]at e
   have j:=N.h _ _ (w.hw.h a s e)
   have U:a≠A:=λy=>by rw[y,W]at j;cases j
   rw[Yh z,Yh U];exact j
 .by_cases z:a=x
  .subst z
   rw[du]at e;cases e;exact⟨hC,rfl,.nil⟩
  .rw[b7 z]at e
   exact(w.ok a s e).mono (smf.trans N.g)
 obtain⟨T,rfl,hsf,hst⟩:=hR d t' hd;rw[Rp]at rd;subst rd;refine⟨rfl,?_⟩;have Z:∀a,a≠x->pt t x (some (HS.ins c C A [] [] [])) a=t a:=λa z=>b7 z
 have J:∀a,t a=none->t' a≠none->H a=none:=λa h h'=>by
  by_cases z:a=x
  .rw[z];exact u
  .have j:=S.new a (by rw[Z a z];exact h) h'
   rw[Yh z]at j;by_cases y:a=A
   .rw[y];exact L
   .rw[Yh y]at j;exact N.h.free j
 have E:∀a,t' a=none->t a=none:=λa h=>by
  have j:=S.grow a h;by_cases z:a=x
  .rw[z];exact tx
  .rw[Z a z]at j;exact j
 have l:=λa o h g=>by
  have j:=N.h a o g
  have n1:a≠x:=λz=>by rw[z,u]at g;cases g
  have U:a≠A:=λz=>by rw[z,L]at g;cases g
  exact S.keep a o (by rw[Z a n1];exact h) (by rw[Yh n1,Yh U];exact j)
 let M:Hp:=λa=>if H a=none then G' a else G a
 have Y:∀{a},H a=none->M a=G' a:=λh=>if_pos h;have B:∀{a},H a≠none->M a=G a:=λh=>if_neg h
 have I:Same G M:=λa o g=>by
  rw[B (by rw[w.sr.seen a o g];exact λy=>nomatch y)];exact g
 have hs2:Same M H':=λa o g=>by
  by_cases z:H a=none
  .rw[Y z]at g;exact S.s a o g
  .rw[B z]at g
   have tn:t a=none:=by
    cases y:t a with
    | none=>rfl
    | some s=>rw[w.no y]at g;cases g
   exact l a o tn (w.sr.seen a o g)
 have tup:∀b ys,G' b=some (HO.tup ys)->M b=some (HO.tup ys):=λb ys hb=>by
  by_cases z:H b=none
  .rw[Y z];exact hb
  .rw[B z]
   refine ht b ys ?_
   have hb1:V b=some (HO.tup ys):=by
    cases q:V b with
    | none=>
      have j:=S.n b q (by rw[hb];exact λy=>nomatch y);have n1:b≠x:=λy=>z (by rw[y];exact u);have U:b≠A:=λy=>z (by rw[y];exact L);rw[Yh n1,Yh U]at j;exact absurd (N.h.free j) z
    | some o=>
      have:=S.g _ _ q;rw[hb]at this;cases this;rfl
   cases q:Gf b with
   | none=>exact absurd (N.n b q (by rw[hb1];exact λy=>nomatch y)) z
   | some o=>
     have:=N.g _ _ q;rw[hb1]at this;cases this;rfl
 have r:HW X.K t' H' M:=⟨λa s e=>by
  by_cases z:H a=none
  .rw[Y z];exact S.hw.g a s e
  .rw[B z]
   cases y:t a with
   | none=>exact absurd (J a y (by rw[e];exact λq=>nomatch q)) z
   | some s'=>exact w.no y,S.hw.h,λa s e=>by
  rcases T a s e with h|h
  .exact(w.ok a s h).mono I
  .exact(S.hw.ok a s e).q tup h⟩
 have hn2:∀a,G a=none->M a≠none->H a=none:=λa h h'=>Classical.byContradiction λz=>h' (by rw[B z];exact h)
 cases shown with
 | false=>
   obtain⟨H3,f3,w3⟩:=w.after ⟨l,E,J,r,I,hs2,hn2⟩;exact kk _ _ (hsf rfl) _ H' M H3 f3 w3 I (by rw[Rp])
 | true=>
   obtain⟨ks,ws,es,hx,hq⟩:=hst rfl;have g2x:=r.g x _ hx
   have P:Same M (upd M x (.ins C A (ks.zip ws))):=λa o g=>by rw[Yh (Yk g g2x)];exact g
   obtain⟨o1,o2,o3⟩:=r.ok x _ hx
   obtain⟨H3,f3,w3⟩:=w.after (t':=pt t' x none) (H':=H') ⟨l,λa h=>by
    by_cases z:a=x
    .rw[z];exact tx
    .rw[b7 z]at h;exact E a h,λa h h'=>by
    by_cases z:a=x
    .rw[z];exact u
    .rw[b7 z]at h';exact J a h h',⟨λa s e=>by
    have z:a≠x:=λz=>by rw[z,du]at e;cases e
    rw[b7 z]at e
    rw[Yh z];exact r.g a s e,λa s e=>by
    have z:a≠x:=λz=>by rw[z,du]at e;cases e
    rw[b7 z]at e
    exact r.h a s e,λa s e=>by
    have z:a≠x:=λz=>by rw[z,du]at e;cases e
    rw[b7 z]at e
    exact(r.ok a s e).mono P⟩,I.trans P,λa o g=>by
    by_cases z:a=x
    .subst z
     rw[Yg]at g;rw[<-g];exact r.h a _ hx
    .rw[Yh z]at g;exact hs2 a o g,λa h h'=>by
    by_cases z:a=x
    .rw[z];exact u
    .rw[Yh z]at h';exact hn2 a h h'⟩
   refine kk _ _ hq _ H' _ H3 f3 w3 (I.trans P) ?_;rw[Rp];exact⟨x,C,A,ws,rfl,o1,Yg,o2,o3.mono P⟩
end
theorem Fl{f:Str}{y:V}:∀{ks:AJ}{vs:AM},f∉ks->vs.length=ks.length->bM f y (ks.zip vs)=(ks++[f]).zip (vs++[y])
 | [],[],_,_=>rfl
 | [],_::_,_,h=>nomatch h
 | _::_,[],_,h=>nomatch h
 | k::ks,v::vs,h,a=>by
   rw[List.zip_cons_cons,List.cons_append,List.cons_append,List.zip_cons_cons];show(if k=f then _ else _)=_;rw[if_neg λz=>h (by rw[z];exact qh),Fl (λz=>h (qg _ z)) (by simpa using a)]
def Aft.put{t:Hs}{H G:Hp}{x:Addr}{s s':HS}(w:HW K t H G)(g:Same G H)(e:t x=some s)(f:s'.ok K G):Aft K t (pt t x (some s')) H G (upd H x s'.ho) G:=by
 have d:=w.g x s e;refine⟨λa o h c=>?_,λa h=>?_,λa h i=>?_,⟨λa s b=>?_,λa s b=>?_,λa s b=>?_⟩,.refl _,λa o c=>?_,λa h i=>absurd h i⟩
 .have z:a≠x:=λz=>by rw[z,e]at h;cases h
  rwa [Yh z]
 .by_cases z:a=x
  .rw[z,du]at h;cases h
  .rwa [b7 z]at h
 .by_cases z:a=x
  .rw[z,e]at h;cases h
  .rw[b7 z]at i;exact absurd h i
 .by_cases z:a=x
  .rwa [z]
  .rw[b7 z]at b;exact w.g a s b
 .by_cases z:a=x
  .subst z;rw[du]at b;cases b;exact Yg
  .rw[b7 z]at b;rw[Yh z];exact w.h a s b
 .by_cases z:a=x
  .subst z;rw[du]at b;cases b;exact f
  .rw[b7 z]at b;exact w.ok a s b
 .rw[Yh (Yk c d)];exact g a o c
def kX(i:Nat)(f:Str)(j:AJ)(fe:AU):Hm:=λe t Q=>∃x c C a b g h d,e[i]?=some (↑(.adr x))/\t x=some (.ins c C a b g h)/\c∈j/\f∉b/\b.length<1000/\fe e=some d/\∀v,Q (.nx e (pt t x (some (.ins c C a (b++[f]) (g++[v]) (h++[d])))))
def qP(i:Nat)(f:Str)(h:AJ):Hm:=λe t Q=>∃x c C a b d g,e[i]?=some (↑(.adr x))/\t x=some (.ins c C a b d g)/\c∈h/\f∉b/\b.length<1000/\∀l,t l=none->Q (.nx e (pt (pt t l (some (.bls []))) x (some (.ins c C a (b++[f]) (d++[.ref l]) (g++[.adr l])))))
def qQ(i:Nat)(fe:AU):Hm:=λa t Q=>∃b h l y k,a[i]?=some (↑(aY b h (.adr l)))/\t l=some (.bls y)/\y.length<1000000/\fe a=some (.bl k)/\Q (.nx a (pt t l (some (.bls (y++[k])))))
section
variable {e:Expr}{fe:AU}{tpos:Pos}{f x:Str}{cs:AJ}
def qR{g b H G:Hp}{σ:L2.St}{ρ:Ro}{i:Nat}{a:Addr}(s:SR K g b σ H G ρ)(h:ρ[i]?=some (↑(.adr a))):σ[i]?=some (some (V.ref a)):=by
 obtain⟨v,c,d⟩:=s.sh i _ h;rw[c,d]
def Nz{ks:AJ}{vs:AM}(h:vs.length=ks.length):(ks.zip vs).length=ks.length:=by
 rw[List.length_zip,h,Nat.min_self]
theorem NA(i:Nat)(j:∀c∈cs,CF X.K c f)(s:ZE X e fe)(A:X.N[i]?=some x:=by rfl)(O:eW X.env.scope x:=by trivial)(N:cu x:=by decide)(k:fS x:=by decide)(hs:swapsWith e (some (.Attribute (.Name x p1) f tpos)) pos.line X.env=pure false:=by rfl):
 fL X (.Assign [.Attribute (.Name x p1) f tpos] e pos) (kX i f cs fe):=⟨PS.imp (ng (gC A O N k) s.un hs) λF Z H l=>by
 obtain⟨ρ,t,U,W,G,Q,w,⟨a,c,C,b,D,K,Y,d,q,m,B,p,T,u,M⟩,r⟩:=l;refine tOf.at u w.sr λy V z P R n=>?_;have g:=w.grow P;obtain⟨o,h,v⟩:=g.ok a _ m;obtain⟨J,E⟩:=j c B C o;refine⟨_,qR n q,a,C,b,_,rfl,g.hw.h a _ m,J,E,by rwa [Nz h],?_⟩
 have e1:.ins C b (bM f y (D.zip K))=HS.ho (.ins c C b (D++[f]) (K++[y]) (Y++[d])):=by rw[Fl p h];rfl
 rw[e1];obtain⟨L,I,S⟩:=g.after (.put g.hw n.seen m (s':=.ins c C b (D++[f]) _ _) ⟨o,by simp[h],v.append (.one R)⟩)
 exact r _ (M y) Z _ z L I S⟩
def Aft.add{t:Hs}{H G:Hp}{l:Addr}{s:HS}(w:HW K t H G)(g:Same G H)(h:H l=none)(j:s.ok K G):Aft K t (pt t l (some s)) H G (upd H l s.ho) G:=by
 have d:=g.free h
 have k:t l=none:=by
  cases z:t l with
  | none=>rfl
  | some x=>rw[w.h l x z]at h;cases h
 refine⟨λa o _ c=>?_,λa h=>?_,λa i e=>?_,⟨λa s b=>?_,λa s b=>?_,λa s b=>?_⟩,.refl _,λa o c=>?_,λa h e=>absurd h e⟩
 .rwa [Yh (Yk c h)]
 .by_cases z:a=l
  .rwa [z]
  .rwa [b7 z]at h
 .by_cases z:a=l
  .rwa [z]
  .rw[b7 z]at e;exact absurd i e
 .by_cases z:a=l
  .rwa [z]
  .rw[b7 z]at b;exact w.g a s b
 .by_cases z:a=l
  .subst z;rw[du]at b;cases b;exact Yg
  .rw[b7 z]at b;rw[Yh z];exact w.h a s b
 .by_cases z:a=l
  .subst z;rw[du]at b;cases b;exact j
  .rw[b7 z]at b;exact w.ok a s b
 .rw[Yh (Yk c d)];exact g a o c
theorem Fm(i:Nat){r:Pos}(k:∀c∈cs,CF X.K c f)(A:X.N[i]?=some x:=by rfl)(Z:eW X.env.scope x:=by trivial)(L:cu x:=by decide)(n:fS x:=by decide)(hs:swapsWith (.List [] r) (some (.Attribute (.Name x p1) f tpos)) pos.line X.env=pure false:=by rfl):
 fL X (.Assign [.Attribute (.Name x p1) f tpos] (.List [] r) pos) (qP i f cs):=⟨PS.imp (ng (gC A Z L n) (ni fW) hs) λF Y H j=>by
 obtain⟨ρ,t,U,V,G,Q,w,⟨a,c,C,d,e,K,D,s,h,B,O,S,R⟩,u⟩:=j;refine⟨Qh _,λl o=>?_⟩
 have p:t l=none:=by
  cases z:t l with
  | none=>rfl
  | some x=>rw[w.hw.h l x z]at o;cases o
 obtain⟨q,m,v⟩:=w.ok a _ h;obtain⟨I,N⟩:=k c B C q;obtain⟨T,E,b⟩:=w.after (Aft.add (s:=.bls []) w.hw w.sr.seen o trivial)
 have g:pt t l (some (.bls [])) a=some (.ins c C d e K D):=by rw[b7 (λz=>by rw[z,p]at h;cases h)];exact h
 refine⟨_,qR b.sr s,a,C,d,_,rfl,b.hw.h a _ g,I,N,by rw[Nz m];exact S,?_⟩
 have M:HO.ins C d (bM f (.ref l) (e.zip K))=HS.ho (.ins c C d (e++[f]) (K++[.ref l]) (D++[.adr l])):=by rw[Fl O m];rfl
 rw[M];obtain⟨y,J,P⟩:=b.after (Aft.put b.hw b.sr.seen g (s':=.ins c C d (e++[f]) _ (D++[.adr l])) ⟨q,by simp[m],v.append (.one (by rw[Rp]))⟩)
 exact u _ (R l p) Y _ G y (E.trans J) P⟩
theorem Fn(i:Nat){o d c:Pos}(k:CF X.K "Watch" "truths")(he:ZE X e fe)(hN:X.N[i]?=some x:=by rfl)(hv:eW X.env.scope x:=by trivial)(hd:cu x:=by decide)(A:fS x:=by decide)(r:swapsWith (.Call (.Attribute (.Attribute (.Name x p1) "truths" o) "append" d) [e] [] c) none pos.line X.env=pure false:=by rfl)(hs:aad X e:=by rfl)(p:pe X c [e]:=by rfl)(m:(d.endLine==c.line)=true:=by rfl)(j:attributeBase (.Attribute (.Name x p1) "truths" o) "append" X.env (eval (.Attribute (.Name x p1) "truths" o) X.env)=eval (.Attribute (.Name x p1) "truths" o) X.env:=by rfl)(B:attributeBase (.Name x p1) "truths" X.env (eval (.Name x p1) X.env)=eval (.Name x p1) X.env:=by rfl):
 fL X (.Expr (.Call (.Attribute (.Attribute (.Name x p1) "truths" o) "append" d) [e] [] c) pos) (qQ i fe):=
 ⟨PS.imp (lG (nB PySem.F.plainAttrs_list PySem.F.slot_list_append PySem.F.type_list_append z3 (nc (gC hN hv hd A) B) (fX he.un fW hs) j p m hs rfl) r) λF σ H z=>by
  obtain⟨ρ,t,H0,G0,G,Q,w,⟨b,h,l,y,D,U,s,Z,T,I⟩,R⟩:=z;obtain⟨v,L,J⟩:=w.sr.sh i _ U;obtain⟨a,C,N,xs,rfl,n,g,lx,q⟩:=J;obtain⟨y1,y2,y3,rfl,r1,r2,r3⟩:=q.three;subst r3;refine⟨_,L,a,C,N,_,.ref l,rfl,w.sr.seen _ _ g,(k C n).1,(k C n).2,rfl,.inl ⟨rfl,_,.of (w.hw.h l _ s)⟩,tOf.at T w.sr λv H1 K Y E s1=>?_⟩;subst E;have u:=w.grow Y;refine⟨l,y.map .bl,_,rfl,rfl,u.hw.h l _ s,?_,?_⟩
  .rw[qf]
   exact Qi Z (f7 (qv _))
  .obtain⟨S,f4,O⟩:=u.after (.put u.hw s1.seen s (s':=.bls _) trivial)
   have V:HS.ho (.bls (y++[D]))=.lst (y.map .bl++[.bl D]):=by
    show HO.lst _=_;rw[wu];rfl
   have:=R _ I σ _ K S f4 O;rw[V]at this
   exact this⟩
end
def qS(g:Hm):AR:=λa=>vS (g a (λ_=>none) fun
 | .rt (.bl true) _=>True
 | _=>False) (some (.rt (.bl true)))
section
variable {e:Expr}{fe:He}{a b:List Stmt}{fs gs g:Hm}{cp np:Pos}
def Fo(h:fM X sts g):ZB X sts (qS g):=⟨PSs.imp h.un λF x H f=>by
 obtain⟨b,u,n,k,G,i,s,c⟩:=f;obtain⟨p,i⟩:=E7 i;cases i;refine⟨b,λ_=>none,n,k,G,_,⟨s,λ_ _ e=>(nomatch (e)),λ_ _ e=>(nomatch (e)),λ_ _ e=>nomatch (e)⟩,p,λo j=>?_⟩
 split at j
 .exact λv w t r m q l=>by
   have d:=q.aft m rfl;exact c v w t ⟨λa o e=>d.keep a o rfl e,d.g,d.s,d.n⟩ l
 .exact j.elim⟩
end
def Up(K:W7)(d c:Str)(b:Bool):Prop:=∃C a,W.nsIn K mainGlobals c=some (some (.ref C))/\W.nsIn K mainGlobals d=some (some (.ref a))/\Cls K C/\W.findIn K (.ref C) "__class__"=some (some (.builtin "object.__class__"))/\
 W.specialIn K (.builtin "object.__class__") "__get__"=some (some (.builtin "getset_descriptor.__get__"))/\W.takesIn K (.builtin "object.__class__")=some true/\W.mroIn K C (.type "object")=some true/\W.kitOne K (.ref C) (.ref a)=some b
def isk_mk{h c:Str}{b:Bool}{C d:Addr}(a:W.nsIn K mainGlobals c=some (some (.ref C)))(j:W.nsIn K mainGlobals h=some (some (.ref d)))(n:W.plainGet K C Str.empty=true)(o:W.hasDictIn K C=true)(l:W.plainOver K C=true)(i:W.findIn K (.ref C) "__setattr__"=some (some (.builtin "object.__setattr__")))(e:W.findIn K (.ref C) "__class__"=some (some (.builtin "object.__class__")))(f:W.specialIn K (.builtin "object.__class__") "__get__"=some (some (.builtin "getset_descriptor.__get__")))(g:W.takesIn K (.builtin "object.__class__")=some true)(m:W.mroIn K C (.type "object")=some true)(k:W.kitOne K (.ref C) (.ref d)=some b):Up K h c b:=⟨C,d,a,j,⟨n,o,l,i⟩,e,f,g,m,k⟩
section
variable {a:Expr}{p:Pos}{c0:Str}
def Fp{P:P7}{w:World}{d:AD}{b:Heap}{j k:Nat}{c m:Str}{a:AJ}{sp:Sp}(O:gm P w K d b j c m a sp)(h:j<=k:=by decide):gm P w K d b k c m a sp:=by
 obtain⟨C,f,e,F,r⟩:=O;exact⟨C,f,e,F.mono h,r⟩
end
def vY(K:W7)(c q:Str)(st:Stmt):Prop:=∃C f a,W.nsIn K mainGlobals c=some (some (.ref C))/\Mk K C f/\Fun K "__init__" q st f a
def iqc_mk{c q:Str}{st:Stmt}{C f:Addr}{g:Value}{j h:Option Addr}{e:Array (Option Value)}{kV d p b r:Value}(a:W.nsIn K mainGlobals c=some (some (.ref C)))(m:W.makesIn K C=true)(o:W.keepIn K (.ref C)=true)(i:W.findIn K (.ref C) "__init__"=some (some (.ref f)))(n:W.isFn K (.ref f)=true)(l:K.lookup f=some ⟨g,j,.func (W.fnOf "__init__" q (aGa st) (aFa st) (aDa st) .none kV d p h b r),e⟩)(s:W.codeIn K b q=true)(k:W.keepIn K (.ref f)=true):vY K c q st:=
 ⟨C,f,_,a,⟨m,i,n,o⟩,nE l s k⟩
structure Ft(K:W7)(x q:Str)(st:Stmt)(f:Addr)(fd:FuncData)(T:Addr)(t:Tok):Prop where
 ex:∃(oc:Value) (od:Option Addr) (kV doc pm:Value) (an:Option Addr) (cdv ct:Value) (osl:Array (Option Value)),
  fd=W.fnOf x q (aGa st) (aFa st) (aDa st) (.ref T) kV doc pm an cdv ct/\K.lookup f=some ⟨oc,od,.func fd,osl⟩/\W.codeIn K cdv q=true
 df:∃(oc:Value) (od:Option Addr) (n:Nat) (osl:Array (Option Value)),K.lookup T=some ⟨oc,od,.seq #[.int 0 t] n,osl⟩
def Uq(K:W7)(c q:Str)(st:Stmt):Prop:=∃C f a T t,W.nsIn K mainGlobals c=some (some (.ref C))/\Mk K C f/\Ft K "__init__" q st f a T t
def iqz_mk{c q:Str}{st:Stmt}{C f T:Addr}{m h:Value}{s k o:Option Addr}{g b:Array (Option Value)}{kV j w e x:Value}{t:Tok}{u:Nat}(a:W.nsIn K mainGlobals c=some (some (.ref C)))(r:W.makesIn K C=true)(v:W.keepIn K (.ref C)=true)(i:W.findIn K (.ref C) "__init__"=some (some (.ref f)))(n:W.isFn K (.ref f)=true)(l:K.lookup f=some ⟨m,s,.func (W.fnOf "__init__" q (aGa st) (aFa st) (aDa st) (.ref T) kV j w o e x),g⟩)(p:W.codeIn K e q=true)(d:K.lookup T=some ⟨h,k,.seq #[.int 0 t] u,b⟩):Uq K c q st:=
 ⟨C,f,_,T,t,a,⟨r,i,n,v⟩,⟨_,_,_,_,_,_,_,_,_,rfl,l,p⟩,_,_,_,_,d⟩
section
variable {P:P7}{w:World}
theorem Fu{c x q:Str}{st:Stmt}{k n m:Nat}{N t:AJ}{g:Hm}(F:Mq K c x q st)(S:dI N t (aDa st))(u:∀{f:Addr}{d:Value}{A:Around}{b:List Env}{s:Shared}{H:Hp}{E:XK},Room k (A.deeper (envOfC q (aDa st) (~~~s) f d))->fM (cm cJ P w K mg base N q (aDa st) f d A b s H E).nox (aFa st) g)(l:N.length=n:=by rfl)(i:t.length=m:=by rfl)(B:E9 x q st t:=by and_intros):gm P w K mg base (k+1) c x t (kT K m (eI n g)):=by
 obtain⟨C,f,p,a,r,j,h⟩:=F;exact⟨C,f,p,Ny h S l i λ_ _ _ _ _ _ o=>u o,h.binds B,a,r,j⟩
theorem Fv{c q:Str}{st:Stmt}{k n m:Nat}{N t:AJ}{g:Hm}(F:vY K c q st)(l:∀C,W.nsIn K mainGlobals c=some (some (.ref C))->mg c=some (.ref C))(S:dI N t (aDa st))(u:∀{f:Addr}{d:Value}{A:Around}{b:List Env}{s:Shared}{H:Hp}{E:XK},Room k (A.deeper (envOfC q (aDa st) (~~~s) f d))->fM (cm cJ P w K mg base N q (aDa st) f d A b s H E).nox (aFa st) g)(j:N.length=n:=by rfl)(i:t.length=m:=by rfl)(B:E9 "__init__" q st t:=by and_intros):Fi P w K mg base (k+1) m c t [] (eI n g):=by
 obtain⟨C,f,o,a,p,e⟩:=F;exact⟨C,f,o,[],[],a,l C a,p,Ny e S j i λ_ _ _ _ _ _ r=>u r,e.binds B,.nil,λG=>.nil⟩
end
def Kq(K:W7)(c f q:Str)(st:Stmt):Prop:=∃C a b d,W.nsIn K mainGlobals c=some (some (.ref C))/\Fun K f q st a b/\W.specialIn K (.ref C) "__getattribute__"=some (some (.builtin "type.__getattribute__"))/\W.readsIn K C d=true/\W.findCls K (.ref C) d f=some (.val (.ref a))/\W.handedIn (.ref a)=true
def kq_mk{c f q:Str}{st:Stmt}{C a:Addr}{mc:Value}{m:Value}{o n:Option Addr}{j:Array (Option Value)}{kV d p b t:Value}(e:W.nsIn K mainGlobals c=some (some (.ref C)))(i:W.findIn K (.ref C) f=some (some (.ref a)))(l:K.lookup a=some ⟨m,o,.func (W.fnOf f q (aGa st) (aFa st) (aDa st) .none kV d p n b t),j⟩)(u:W.codeIn K b q=true)(k:W.keepIn K (.ref a)=true)(s:W.specialIn K (.ref C) "__getattribute__"=some (some (.builtin "type.__getattribute__")))(r:W.readsIn K C mc=true)(g:W.findCls K (.ref C) mc f=some (.val (.ref a)))(h:W.handedIn (.ref a)=true):Kq K c f q st:=⟨C,a,_,mc,e,nE l u k,s,r,g,h⟩
def NB(f:AU):He:=λa t Q=>∃d,f (d_ t a)=some d/\dW d=true/\Q d t
theorem Ur{X:Cx}{e:Expr}{f:AU}(h:ZE X e f):jq X e (NB f):=⟨PE.imp h.un λE H Q j=>by
 obtain⟨C,t,p,x,G,R,w,⟨d,i,A,q⟩,k⟩:=j;obtain⟨n,u⟩:=w.thaw;refine⟨_,d,n,x,_,i,u,λv y B g r=>?_⟩
 have m:Gr H G y (λa=>if t a=none then B a else none):=by
  refine⟨g.h,λa o e=>?_,λa o e=>?_,λa i c=>?_⟩
  .have l:t a=none:=by
    cases z:t a with
    | none=>rfl
    | some s=>rw[w.no z]at e;cases e
   rw[if_pos l];exact g.g a o (by rwa [kP l])
  .by_cases z:t a=none
   .simp [if_pos z]at e
    exact g.s a o e
   .simp only[if_neg z]at e;cases e
  .by_cases z:t a=none
   .simp [if_pos z]at c
    exact g.n a (by rwa [kP z]) c
   .simp only[if_neg z]at c;exact absurd rfl c
 refine k d t q v y _ p .refl (w.grow m) m.g (r.plain (λb F e=>?_) A);rw[if_pos ?_]
 .exact e
 .cases z:t b with
  | none=>rfl
  | some s=>
    have:=g.g b _ (vV z);rw[e]at this
    cases s<;>cases this⟩
section
variable {e:Expr}{f:AU}
def fB(f:AU):AU:=λb=>((f b).bind bV).bind λa=>if a.length<ax then some (.dct false ((ay [] [] a).1.map .int) (ay [] [] a).2)else none
@[simp] theorem vZ:fB f ρ=((f ρ).bind bV).bind λa=>if a.length<ax then some (.dct false ((ay [] [] a).1.map D.int) (ay [] [] a).2)else none:=c7 rfl
end
section
variable {e:Expr}{f:AU}
theorem Fw(B:X.calm=true){E b:Pos}(C:Gl X "dict")(w:X.mg "dict"=none)(j:ZC X e f)(g:aad X e:=by rfl)(n:(backTo b (starEach [] X.env)).any (·.1)=false:=by rfl):
 ZE X (.Call (.Name "dict" E) [e] [] b) (fB f):=⟨have j:=j.un;
 PE.imp (iW (L_ B) C w (by decide +kernel) (i4 j i3 g) (by decide) (by decide) g n) λσ H Q k=>by
  obtain⟨i,V,P,S,G,e,s,h⟩:=k;obtain⟨Y,O,e⟩:=qa e;obtain⟨d,T,o⟩:=qa O
  split at e
  case isFalse=>cases e
  rename_i c;cases e;refine tCAof.at (show Yb f _ i=some [d] by ext) s λZ U R K y u=>?_;obtain⟨v,rfl,x⟩:=eR y
  cases d with
  | lst l=>
    obtain⟨a,D,rfl,J,I⟩:=x;obtain⟨r,L,t⟩:=Cw u.seen (o) I;refine⟨a,D,r,rfl,.inl J,L,by rwa [t.length],λp M=>?_⟩;obtain⟨m,z,A,N,F⟩:=uH t List.nodup_nil rfl .nil;have q:=Gr.new u.seen M (.dK (fq [] r));exact h _ _ _ (K.trans q) (⟨p,(ay [] [] Y).1.map _,m,rfl,oG (by rw[<-z];exact Yg) A N,.ints _,F.mono q.g⟩)
  | _=>cases o⟩
end
end M
namespace Lw
open PySem PySem.Spec PyProof.Rows L2 M
noncomputable def top(i:Nat):Stmt:=PySem.Challenge.pw_duskbook_k67_whole_step_by_step.main.body.getD i (.Pass ⟨0,0,0,0⟩)
noncomputable def gt_EXCHANGED_KINDS:List (Str×Str):=[((.ofString "eithers"),.ofString "eithers"),((.ofString "sums"),.ofString "sums"),((.ofString "ifs"),.ofString "nots"),((.ofString "nots"),.ofString "ifs")]
noncomputable def NC:AJ:=[.ofString "keeper",.ofString "storm"]
set_option maxHeartbeats 4000000
def Fq(K:W7)(c:AD)(x:Str)(i:Nat):Prop:=∃a d,Fun K x x (top i) a d/\c x=some (.ref a)
def Fk(K:W7)(x:Str)(i:Nat):Prop:=∃a c,W.nsIn K mainGlobals x=some (some (.ref a))/\Fun K x x (top i) a c
def Fk.on{K:W7}(F:Fk K x i)(X:K.In h)(G:h.Ns mainGlobals c):Fq K c x i:=by
 obtain⟨a,d,n,f⟩:=F;exact⟨a,d,f,W.mg_of X G n⟩
def fk_mk{K:W7}{kV e h d j:Value}(a:W.nsIn K mainGlobals x=some (some (.ref f)))(l:K.lookup f=some ⟨m,n,.func (W.fnOf x x (aGa (top i)) (aFa (top i)) (aDa (top i)) .none kV e h o d j),g⟩)(c:W.codeIn K d x=true)(k:W.keepIn K (.ref f)=true):Fk K x i:=⟨_,_,a,nE l c k⟩
def Fx(K:W7)(c:AD)(x:Str)(i:Nat):Prop:=∃a d T,kK K x (top i) a d T/\c x=some (.ref a)
def FkD(K:W7)(x:Str)(i:Nat):Prop:=∃a c T,W.nsIn K mainGlobals x=some (some (.ref a))/\kK K x (top i) a c T
def FkD.on{K:W7}(F:FkD K x i)(X:K.In h)(G:h.Ns mainGlobals c):Fx K c x i:=by
 obtain⟨a,d,T,n,f⟩:=F;exact⟨a,d,T,f,W.mg_of X G n⟩
def fkd_mk{K:W7}{kV e q d h:Value}{t n:Nat}(a:W.nsIn K mainGlobals x=some (some (.ref f)))(l:K.lookup f=some ⟨r,s,.func (W.fnOf x x (aGa (top i)) (aFa (top i)) (aDa (top i)) (.ref T) kV e q u d h),p⟩)(c:W.codeIn K d x=true)(k:W.keepIn K (.ref f)=true)(t:K.lookup T=some ⟨o,m,.seq #[.int j t] n,g⟩):FkD K x i:=⟨_,_,_,a,⟨_,_,_,_,_,_,_,_,_,rfl,l,c⟩,k,_,_,_,_,_,_,t⟩
abbrev Fs(n i:Nat)(N:AJ):Prop:=dI N (N.take n) (aDa (top i))
noncomputable abbrev kq:Nat->NameKind
 | 0=>.local
 | 1=>.free
 | 2=>.globalImplicit
 | _=>.cell
abbrev Cs(A:AJ)(i:Nat)(L:AJ)(s:List AL)(n:List (Str×Nat)):Prop:=gD A (aDa (top i)) L s (J9 ((".0",.local)::n.map λp=>(p.1,kq p.2)))
def cg{A:AJ}{i:Nat}{L:AJ}{s:List AL}{n:List (Str×Nat)}(h:jQ A (aDa (top i)) L s (J9 ((".0",.local)::n.map λp=>(p.1,kq p.2)))=true:=by decide +kernel):Cs A i L s n:=RJ h
theorem aM{N h:AJ}{i:Scope}(a:i.kind=.function:=by rfl)(b:i.isCoroutine=false:=by rfl)(c:i.isGenerator=false:=by rfl)(d:N.Nodup:=by decide +kernel)(e:N.take h.length=h:=by rfl)(f:∀x∈h,i.names.lookup x=some .local\/i.names.lookup x=some .cell:=by decide +kernel)(g:∀y∈i.names,y.2≠.free:=by decide +kernel):dI N h i:=⟨a,b,c,d,e,f,g⟩
def Us(x:Str)(i:Nat)(h:AJ):Prop:=∀(kV a e:Value) (d:Option _) (c f:Value) (b:List _),b.length=h.length->bindArgs (W.fnOf x x (aGa (top i)) (aFa (top i)) (aDa (top i)) .none kV a e d c f) ⟨b,[]⟩=pure (h.zip b)
theorem cZ{K:W7}{i k n m:Nat}(F:Fq K j x i)(S:dI N r (aDa (top i)))(t:∀{f:Addr}{e:Value}{A:Around}{c:List Env}{s:Shared}{H:Hp}{E:XK},Room k (A.deeper (envOfC x (aDa (top i)) (~~~s) f e))->ZB (cm cJ P w K j d N x (aDa (top i)) f e A c s H E).nox (aFa (top i)) fb)(o:N.length=n:=by rfl)(l:r.length=m:=by rfl)(B:Us x i r:=by and_intros):aN P w K j d (k+1) m x r (aj m n fb):=by
 obtain⟨a,q,f,h⟩:=F;exact Br f (f.binds B) h (DF f S o l λ_ _ _ _ _ _ p=>t p)
def Fy{K:W7}(F:Fx K g "outcome" i)(S:dI N ["book","hands","start"] (aDa (top i)))(m:∀{f:Addr}{d:Value}{A:Around}{b:List Env}{s:Shared}{H:Hp}{E:XK},Room k (A.deeper (envOfC "outcome" (aDa (top i)) (~~~s) f d))->ZB (cm cJ P w K g c N "outcome" (aDa (top i)) f d A b s H E).nox (aFa (top i)) fb)(hn:N.length=n:=by rfl)(o:i=74:=by rfl):aN P w K g c (k+1) 3 "outcome" ["book","hands","start"] (aj 3 n fb):=by
 subst o;obtain⟨a,p,T,f,h⟩:=F;refine E4 f h S hn rfl (λ_ _ _ _ _ _ q _ _ l=>?_) λ_ _ _ _ _ _ j=>m j;obtain⟨_,_,_,rfl⟩:=fA l;exact⟨_,rfl,rfl⟩
def Fz:∀ρ l,Yb a ae ρ=some l->l.length=1:=t7 λ_ _ h=>Bd h
def v5:∀ρ l,Yb a (Yb b ae) ρ=some l->l.length=2:=t7 Fz
def jt:∀ρ l,Yb a (Yb c (Yb b ae)) ρ=some l->l.length=3:=t7 v5
def Ut:∀ρ l,Yb a (Yb d (Yb b (Yb c ae))) ρ=some l->l.length=4:=t7 jt
def kY{K:W7}{a f:Str}(h:CF K a f):∀c∈[a],CF K c f:=λc d=>by
 cases List.mem_singleton.mp d;exact h
def Uu{a b:AU}:∀ρ l,Yb a (Yb b ae) ρ=some l->l.length+([]:AN).length=2:=v5
structure Bl(K:W7)(w:World)(mg:AD):Prop where
 Len:mg "len"=none
 Range:mg "range"=none
 List:mg "list"=none
 Tuple:mg "tuple"=none
 Str:mg "str"=none
 Sorted:mg "sorted"=none
 Any:mg "any"=none
 All:mg "all"=none
 Isinstance:mg "isinstance"=none
 Enumerate:mg "enumerate"=none
 Reversed:mg "reversed"=none
 Set:mg "set"=none
 Min:mg "min"=none
 Dict:mg "dict"=none
 g_BEACON_COUNT:GI mg "BEACON_COUNT" 60
 g_EXCHANGED_KINDS:GD K w mg "EXCHANGED_KINDS" gt_EXCHANGED_KINDS
 g_HANDS:GT K mg "HANDS" NC
 f2:Fq K mg "contrary" 2
 f3:Fq K mg "led_to" 3
 f4:Fq K mg "traced" 4
 f5:Fq K mg "ways_from" 5
 f8:Fq K mg "exchanged_rule" 8
 f9:Fq K mg "exchanged" 9
 f12:Fq K mg "beacons_with" 12
 f14:Fq K mg "both_added" 14
 f15:Fq K mg "pairs_added" 15
 f16:Fq K mg "cleared" 16
 f17:Fq K mg "reduced" 17
 f25:Fq K mg "either_holds" 25
 f26:Fq K mg "sum_holds" 26
 f27:Fq K mg "if_holds" 27
 f28:Fq K mg "rule_holds" 28
 f29:Fq K mg "broken_rules" 29
 f30:Fq K mg "holds" 30
 f31:Fq K mg "beacons_in" 31
 f32:Fq K mg "beacons_of" 32
 f33:Fq K mg "is_void" 33
 f34:Fq K mg "without" 34
 f35:Fq K mg "either_left" 35
 f36:Fq K mg "sum_left" 36
 f37:Fq K mg "if_left" 37
 f38:Fq K mg "rule_left" 38
 f39:Fq K mg "left_behind" 39
 f41:Fq K mg "is_place" 41
 f42:Fq K mg "body_is_known" 42
 f43:Fq K mg "is_step" 43
 f44:Fq K mg "step_to_more" 44
 f45:Fq K mg "derived_in_full" 45
 f47:Fq K mg "is_broken" 47
 f49:Fq K mg "sayings_of" 49
 f50:Fq K mg "lead_to_one_another" 50
 f51:Fq K mg "clash_found" 51
 f52:Fq K mg "cross_found" 52
 f53:Fq K mg "late_found" 53
 f54:Fq K mg "storms_paper" 54
 f55:Fq K mg "free_saying" 55
 f56:Fq K mg "truths_made" 56
 f57:Fq K mg "plan_row" 57
 f58:Fq K mg "either_outcome" 58
 f60:Fq K mg "replaced" 60
 f61:Fq K mg "ahead_of" 61
 f63:Fq K mg "places_to_none" 63
 f64:Fq K mg "places_to_beacon" 64
 f65:Fq K mg "some_of" 65
 f66:Fq K mg "facts_beside" 66
 f67:Fq K mg "if_outcome" 67
 f69:Fq K mg "last_beacon" 69
 f70:Fq K mg "storms_places" 70
 f71:Fq K mg "sum_rows" 71
 f72:Fq K mg "sum_outcome" 72
 f74:Fx K mg "outcome" 74
 f76:Fq K mg "is_hand" 76
 f77:Fq K mg "check_hands" 77
 f80:Fq K mg "_law_cell" 80
 f81:Fq K mg "_law_mixed" 81
 f82:Fq K mg "_law_hands" 82
 f84:Fq K mg "_law_rule" 84
 f85:Fq K mg "_law_hand" 85
 f86:Fq K mg "_law_steps" 86
 r_Watch_left:Mq K "Watch" "left" "Watch.left" (inClass (top 78) 3)
 r_Watch_settle:Mq K "Watch" "settle" "Watch.settle" (inClass (top 78) 5)
 r_Watch_turn:Mq K "Watch" "turn" "Watch.turn" (inClass (top 78) 1)
 r_Watch_winner:Mq K "Watch" "winner" "Watch.winner" (inClass (top 78) 4)
 i_Watch:vY K "Watch" "Watch.__init__" (inClass (top 78) 0)
 n_Watch_book:Nq K "Watch" "book"
 n_Watch_hands:Nq K "Watch" "hands"
 n_Watch_truths:Nq K "Watch" "truths"
 c_Watch:∀C,W.nsIn K mainGlobals "Watch"=some (some (.ref C))->mg "Watch"=some (.ref C)
section
variable {P:P7}{w:World}{K:W7}{mg:AD}{base:Heap}
def Uv:Fs 1 2 ["saying"]:=aM
def Uw:AR:=ah (ar (Yb (b2 (aa 0) (aaa 0) ao) (Yb (hY (b2 (aa 0) (aaa 1) ao)) ae)))
def ju:AN->Option D:=aj 1 1 Uw
open Lean in
abbrev tUU:=TSyntax `Lean.Parser.Tactic.tacticSeq
open Lean in
def tVV(n:String):=mkIdent n.toName
open Lean in
def tA(h:Array Term)(s:List String):MacroM (Array tUU):=do
 let go (l:List String) (x:Term):MacroM tUU:=do
  let a <-l.tail.toArray.mapM λn=>if n=="q" then `(?_)else if n=="u" then `(_)else if n=="f" then `(λ_ _ _ _ _=>?_)else if n=="h" then pure x else pure (tVV n)
  `(tacticSeq| refine $(tVV l.head!) $a*)
 return (<-s.toArray.mapM λs=>do
  let l:=s.splitOn " "
  if l.contains "h" then h.mapM (go l)else return #[<-go l (<-`(_))]).flatten
set_option hygiene false in
open Lean in
local macro_rules | `(tactic| exists $xs,*)=>do
 let h:=xs.getElems
 let t <-("ZA/0 u|Ym q q|dX;ZC/1 Name|Yi u/0 u|Yo q;ZE/3 lF|kC q/4 gH|TM u q/4 oy|DT u q/4 qF|EO q q/1 Name|dB u|DI bl.g_BEACON_COUNT rfl/1 Constant|dC|i_|Ms|uQ/1 Subscript|kB q q|DL hr.units q q|DU hr.units q q|TQ q q q|TJ bl.g_EXCHANGED_KINDS rfl q/1 Call|jl h hr rfl q q|qL h hr q|ji tL t8 rfl bl.Len PySem.boot_len q|pd nA nZ rfl bl.Tuple boot_tuple q|ji q BC rfl bl.Any boot_any q|ji q BD rfl bl.All boot_all q|Fw rfl rfl bl.Dict q|TN hr.units q q q q|TF rfl rfl bl.Tuple rfl bl.Reversed q|T7 q q|MJ q rfl rfl bl.Isinstance bl.Str boot_str Bv|MJ q rfl rfl bl.Isinstance bl.Tuple boot_tuple R_|ji q L6 rfl bl.Min boot_min q/1 Tuple|pb q/1 Compare|o8 hr.units q q|Di hr.units q q|Dw q q|DM hr.units q q|TK y_ nP m7 nP q q q|Dk hr.units q q|DV hr.units q q|Fb hr.units bl.g_HANDS rfl q|Df q q/1 BinOp|gh q q|l9 q q|uS q q|D7 q q|De q q|DZ q q/1 IfExp|Dv q q q/1 UnaryOp|DG q|Du q/1 BoolOp|Ds q|Dt q q/1 Attribute|E8 bl.n_Watch_truths.cf q|E8 bl.n_Watch_hands.cf q|E8 bl.n_Watch_book.cf q/0 u|kC q;ZB/0 u|gK q|fJ q q|jj;ZS/4 wF|Mx u q/2 nS|TL/1 Return|l8 q/1 Assign|DE u q h rfl q f f f q|gL u q q|Dz u q q|DX u q|DY hr.units u q q|D1 rfl u q rfl bl.Dict q|DR hr.units u q q q|DP hr.units u q q|EX hr.units rfl u q rfl bl.Dict q/1 If|jk q q q/1 For|Mz je rfl q q q/1 Expr|My u q|TH u q|Uk u q|D6 q/1 While|Tz u je q q/1 AugAssign|DA u q q;i9/0 u|eS q q|fy;ZG/1 Name|uU u q/1 Tuple|DC u u rfl q;ZI/0 u|DB q|TC rfl bl.Enumerate q|Tx rfl bl.Range q|Ub q|uT rfl bl.Range q;ZT/1 Compare|gJ hr.units q q|Dy q q|Dl hr.units q q|Dj hr.units q q|Dg q q|Dx q q|Mt hr.units q q|DN hr.units q q|D0 q q|DO hr.units q q|D2 hr.units q q|D3 hr.units q q|DW hr.units q q|Dh q q/1 UnaryOp|Dq q/0 u|Dm q|D5 q;ZF/1 ListComp|MH h rfl q f f f q/1 List|Mv q/1 Call|Mw RA Be rfl bl.List boot_list q|TU rfl rfl bl.Sorted rfl bl.Set q q|l7 q SY rfl bl.Sorted boot_sorted q|Mw q Uh rfl bl.List boot_list q|l7 n8 n9 rfl bl.Sorted boot_sorted q|TR rfl rfl bl.Sorted rfl bl.Set q/1 BinOp|DH q q/1 Subscript|Mu q q q;gg/0 u|MD|D4 q;ZW/1 BoolOp|Dn q|Dp q q|Do q|o9 q q;fM/0 u|gP q q|vU q|Np;ZO/0 u|pa q|o_;fL/3 fN|kO q/1 Assign|NA u q q|NA u q q|Fm u q/1 If|qN q q q/1 Expr|Fn u bl.n_Watch_truths.cf q/1 Return|Nx q;Fc/3 vX|Nv q;jq/3 vW|Nu q".splitOn ";").toArray.mapM λj=>do
  let g:=j.splitOn "/"
  let J:=tVV g.head!
  let s <-g.tail.toArray.mapM λg=>do
   let r:=g.splitOn "|"
   let w:=r.head!.splitOn " "
   let c:=tVV w.tail.head!
   let k:=w.head!.toNat!
   let a <-tA h r.tail
   if k==0 then `(tacticSeq| first $[| $a]*)else if k==1 then `(tacticSeq| (with_reducible show $J _ (.$c ..) ..);first $[| $a]*)else
    let u <-(List.replicate (k-2) J).toArray.mapM λ_=>`(_)
    `(tacticSeq| (with_reducible show $J _ _ ($c $u*));first $[| $a]*)
  `(tacticSeq| (with_reducible show $J ..);first $[| $s]*)
 let r:Array Term:=("v5 jt Fz Ut".splitOn " ").toArray.map λn=>tVV n
 let b <-tA h ("Lz rfl|Bo rfl rfl|Sh rfl|Si rfl|Kr rfl|SW rfl|Ug rfl|kY bl.n_Watch_book.cf|kY bl.n_Watch_hands.cf|kY bl.n_Watch_truths.cf".splitOn "|")
 `(tactic| ((try refine cZ $(h[0]!) $(h[1]?.getD h[0]!) λhr=>?_);repeat' first $[| $t]* $[| with_reducible exact $r]* $[| exact($h).nd]* | exact⟨rfl,rfl,rfl,rfl⟩ $[| $b]* $[| exact $h]* | fail))
variable (bl:Bl K w mg)
def v7:aN P w K mg base 1 1 "contrary" ["saying"] ju:=by
 exists bl.f2,Uv
def ND:Fs 2 3 ["book","saying","against","led","rule","others"]:=aM
def Ux:Cs ["book","saying","against","led","rule","others"] 3 ["other","against"] [none,some 2] [("other",0),("against",1)]:=cg
def FB:AT:=b2 (aa 0) (aa 1) (aI true)
def FC:AU:=ab 0
def qT:AR:=aV (b2 (aa 2) (aa 4) (dV false)) (ag (bb 5 (bu (b1 (ab 4) Yc) [none,some 2] (ai 0) (FB) (FC))) (cW 3 (i0 (b1 (aa 5) aQ) (b2 (aa 5) (aaa 0) ao) (ab 2)) cb)) aw
@[simp] def NF:AR:=(wF [3] (ah (ab 3)))
@[simp] def NG:AR:=ag (a_ (b1 (b2 (aa 0) (aaa 1) ao) Yc) (ai 4) qT) NF
@[simp] def NH:AR:=ag (bb 3 (bE ae)) NG
def FD:AR:=ag (aq 2 (cC (Yb (ab 1) ae) ju)) NH
def v8:AN->Option D:=aj 2 6 FD
def Uy:aN P w K mg base 2 2 "led_to" ["book","saying"] v8:=by
 refine cZ bl.f3 ND λhr=>?_;unfold FD NH NG NF
 exists ND,v7 bl,Ux
def Uz:Fs 2 4 ["ahead","last","road","saying"]:=aM
def v9:AR:=ag (cW 2 (ab 3) cb) (aq 3 (b2 (aa 0) (aa 3) bA))
@[simp] def UA:AR:=ah (λa=>(j9 (aa 2) a).map .tup)
@[simp] def UB:AR:=ag (c5 (b2 (aa 3) (kD .non) (bU true)) v9 4000) UA
@[simp] def UC:AR:=ag (aq 3 (ab 1)) UB
def NI:AR:=ag (bb 2 (bE ae)) UC
def jv:AN->Option D:=aj 2 4 NI
def FE:aN P w K mg base 1 2 "traced" ["ahead","last"] jv:=by
 exists bl.f4,Uz
def NJ:Fs 2 5 ["book","saying","ahead","reached","place","led"]:=aM
def ml:AR:=aV (b2 (aa 5) (aa 2) (cN true)) (ag (ij 2 (aa 5) (b2 (aa 3) (aa 4) ao)) (cW 3 (ab 5) cb)) aw
def qU:AR:=ag (a_ (b1 (cC (Yb (ab 0) (Yb (b2 (aa 3) (aa 4) ao) ae)) v8) Yc) (ai 5) ml) (j4 4 (aaa 1))
@[simp] def v_:AR:=(wF [2] (ah (ab 2)))
@[simp] def NK:AR:=ag (c5 (b2 (aa 4) (cC (Yb (aa 3) ae) aU) gE) qU 4000) v_
@[simp] def NL:AR:=ag (aq 4 (aaa 0)) NK
@[simp] def NM:AR:=ag (bb 3 (bE (Yb (ab 1) ae))) NL
def FF:AR:=ag (ki 2 (ab 1) (kD .non)) NM
def mm:AN->Option D:=aj 2 6 FF
def UD:aN P w K mg base 3 2 "ways_from" ["book","saying"] mm:=by
 refine cZ bl.f5 NJ λhr=>?_;unfold FF NM NL NK v_
 exists NJ,Uy bl
def UE:Fs 2 8 ["kind","rule"]:=aM
def UF:Cs ["kind","rule"] 8 ["saying"] [none] [("saying",0),("contrary",2)]:=cg
def FG:AU:=cC (Yb (ab 0) ae) ju
@[simp] def UG:AR:=ah (ab 1)
@[simp] def UH:AR:=ag (aV (b2 (aa 0) (kD (.str "sums")) (aI false)) (ah (ar (Yb (b2 (aa 1) (aaa 0) ao) (Yb (mB (b2 (b2 (aa 1) (aaa 1) ao) (mB (b2 (b2 (cC (Yb (b2 (aa 1) (aaa 0) ao) ae) aU) (aaa 2) a8) (aaa 1) (aI false))) (aI true))) ae)))) aw) UG
def wA:AR:=ag (aV (b2 (aa 0) (kD (.str "eithers")) (aI false)) (ah (cC (Yb (lF (cF (Yb (lF (bu (b1 (ab 1) Yc) [none] (ai 0) tY (FG))) ae) fG)) ae) a9)) aw) UH
def wB:AN->Option D:=aj 2 2 wA
def UI:aN P w K mg base 2 2 "exchanged_rule" ["kind","rule"] wB:=by
 exists bl.f8,UE,UF,v7 bl
def UJ:Fs 1 9 ["book","kind"]:=aM
def UK:Cs ["book","kind"] 9 ["rule","kind"] [none,some 1] [("rule",0),("exchanged_rule",2),("kind",1)]:=cg
def FH:AU:=cC (Yb (ab 1) (Yb (ab 0) ae)) wB
def NO:AR:=ag (aq 1 (b2 (aa 0) (aaa 0) ao)) (ah (ar (Yb (b1 (aa 1) (ia gt_EXCHANGED_KINDS)) (Yb (cC (Yb (lF (bu (b1 (b2 (aa 0) (aaa 1) ao) Yc) [none,some 1] (ai 0) tY (FH))) ae) a9) ae))))
def wC:AN->Option D:=aj 1 2 NO
def UL:aN P w K mg base 3 1 "exchanged" ["book"] wC:=by
 exists bl.f9,UJ,UK,UI bl
def UM:Fs 3 12 ["hands","start","hand"]:=aM
def UN:Cs ["hands","start","hand"] 12 ["beacon","hands","hand"] [none,some 0,some 2] [("beacon",0),("hand",1),("hands",1)]:=cg
def FI:AT:=b2 (b2 (aa 1) (aa 0) ao) (aa 2) (aI false)
def FJ:AU:=ab 0
def NP:AR:=ah (lF (bu (cF (Yb (ab 1) (Yb (cC (Yb (aa 0) ae) aU) ae)) fg) [none,some 0,some 2] (ai 0) (FI) (FJ)))
def Yw:AN->Option D:=aj 3 3 NP
def FK:aN P w K mg base 1 3 "beacons_with" ["hands","start","hand"] Yw:=by
 exists bl.f12,UM,UN
def UO:Fs 2 14 ["rule","other"]:=aM
def NQ:AR:=ah (ar (Yb (cC (Yb (lF (uO (b2 (aa 0) (aaa 0) ao) (b2 (aa 1) (aaa 0) ao))) ae) a9) (Yb (mB (b2 (b2 (aa 0) (aaa 1) ao) (b2 (aa 1) (aaa 1) ao) (aI true))) ae)))
def mn:AN->Option D:=aj 2 2 NQ
def NR:aN P w K mg base 1 2 "both_added" ["rule","other"] mn:=by
 exists bl.f14,UO
def UP:Fs 2 15 ["pair","other"]:=aM
def NS:AR:=ah (ar (Yb (cC (Yb (lF (uO (b2 (aa 0) (aaa 0) ao) (b2 (aa 1) (aaa 0) ao))) ae) a9) (Yb (cC (Yb (b2 (aa 0) (aaa 1) ao) (Yb (b2 (aa 1) (aaa 1) ao) ae)) mn) ae)))
def wD:AN->Option D:=aj 2 2 NS
def UQ:aN P w K mg base 2 2 "pairs_added" ["pair","other"] wD:=by
 exists bl.f15,UP,NR bl
def UR:Fs 2 16 ["pair","by_last","left"]:=aM
def FL:AR:=aq 2 (cC (Yb (ab 2) (Yb (b2 (aa 1) (b2 (b2 (b2 (aa 2) (aaa 1) ao) (aaa 0) ao) (b1 (aaa 1) di) ao) cO) ae)) wD)
@[simp] def US:AR:=ah (ab 2)
@[simp] def UT:AR:=ag (c5 (b_ (b1 (b2 (b2 (aa 2) (aaa 1) ao) (aaa 0) ao) aQ) (b2 (b2 (b2 (b2 (aa 2) (aaa 1) ao) (aaa 0) ao) (b1 (aaa 1) di) ao) (aa 1) (cP false))) FL 4000) US
def NT:AR:=ag (aq 2 (ab 0)) UT
def mq:AN->Option D:=aj 2 3 NT
def UU:aN P w K mg base 3 2 "cleared" ["pair","by_last"] mq:=by
 exists bl.f16,UR,UQ bl
def NU:Fs 1 17 ["book","by_last","void","place","rule","pair","beacons"]:=aM
def UV:Cs ["book","by_last","void","place","rule","pair","beacons"] 17 ["last","by_last"] [none,some 1] [("last",0),("by_last",1)]:=cg
def qV:AR:=ag (aq 5 (gH [1] (cC (Yb (ar (Yb (ar (Yb (ab 3) ae)) (Yb (ab 4) ae))) (Yb (ab 1) ae)) mq))) (ag (aq 6 (b2 (b2 (aa 5) (aaa 1) ao) (aaa 0) ao)) (aV (b1 (aa 6) aQ) (oN 1 (b2 (aa 6) (b1 (aaa 1) di) ao) (ab 5)) (aV (b_ (b1 (b2 (b2 (aa 5) (aaa 1) ao) (aaa 1) ao) aQ) (b2 (aa 2) (kD .non) (bU false))) (aq 2 (b2 (aa 5) (aaa 0) ao)) aw)))
def FM:AU:=b2 (aa 1) (aa 0) cO
@[simp] def FN:AR:=(wF [1] (ah (ar (Yb (lF (bu (b1 (lF (cF (Yb (aa 1) ae) km)) Yc) [none,some 1] (ai 0) tY (FM))) (Yb (ab 2) ae)))))
@[simp] def FO:AR:=ag (a_ (b1 (b2 (aa 0) (aaa 1) ao) fH) (ez 3 4) qV) FN
@[simp] def FP:AR:=ag (aq 2 (kD .non)) FO
def FQ:AR:=ag (lX 1) FP
def qW:AN->Option D:=aj 1 7 FQ
def UW:aN P w K mg base 4 1 "reduced" ["book"] qW:=by
 refine cZ bl.f17 NU λhr=>?_;unfold FQ FP FO FN
 exists NU,UU bl,UV
def UX:Fs 2 25 ["rule","evening"]:=aM
def UY:Cs ["rule","evening"] 25 ["saying","evening"] [none,some 1] [("saying",0),("evening",1)]:=cg
def FR:AU:=mB (b2 (b2 (aa 1) (b2 (aa 0) (aaa 0) ao) ao) (b2 (aa 0) (aaa 1) ao) (aI false))
def NV:AR:=ah (cC (Yb (lF (bu (b1 (ab 0) Yc) [none,some 1] (ai 0) tY (FR))) ae) eB)
def wG:AN->Option D:=aj 2 2 NV
def UZ:aN P w K mg base 1 2 "either_holds" ["rule","evening"] wG:=by
 exists bl.f25,UX,UY
def U1:Fs 2 26 ["rule","evening","lit_ones"]:=aM
def U2:Cs ["rule","evening","lit_ones"] 26 ["beacon","evening"] [none,some 1] [("beacon",0),("evening",1)]:=cg
def FS:AT:=b1 (b2 (aa 1) (aa 0) ao) aQ
def FT:AU:=ab 0
def NW:AR:=ag (bb 2 (bu (b1 (b2 (aa 0) (aaa 0) ao) Yc) [none,some 1] (ai 0) (FS) (FT))) (ah (mB (b2 (mB (b2 (b2 (cC (Yb (aa 2) ae) aU) (aaa 2) a8) (aaa 1) (aI false))) (b2 (aa 0) (aaa 1) ao) (aI false))))
def wH:AN->Option D:=aj 2 3 NW
def U3:aN P w K mg base 1 2 "sum_holds" ["rule","evening"] wH:=by
 exists bl.f26,U1,U2
def U4:Fs 3 27 ["rule","evening","lit"]:=aM
def U5:Cs ["rule","evening","lit"] 27 ["beacon","evening","lit"] [none,some 1,some 2] [("beacon",0),("evening",1),("lit",1)]:=cg
def FU:AU:=mB (b2 (b2 (aa 1) (aa 0) ao) (aa 2) (aI true))
def wI:AR:=ag (aV (b1 (cC (Yb (lF (bu (b1 (b2 (aa 0) (aaa 0) ao) Yc) [none,some 1,some 2] (ai 0) tY (FU))) ae) eB) aQ) (ah (kD (.bl true))) aw) (ah (ey (mB (b2 (b2 (aa 0) (aaa 1) ao) (kD .non) (bU true))) (mB (b2 (b2 (aa 1) (b2 (aa 0) (aaa 1) ao) ao) (aa 2) (aI false)))))
def wJ:AN->Option D:=aj 3 3 wI
def U6:aN P w K mg base 1 3 "if_holds" ["rule","evening","lit"] wJ:=by
 exists bl.f27,U4,U5
def U7:Fs 3 28 ["kind","rule","evening"]:=aM
@[simp] def U8:AR:=ah (cC (Yb (ab 1) (Yb (ab 2) (Yb (mB (b2 (aa 0) (kD (.str "ifs")) (aI false))) ae))) wJ)
@[simp] def U9:AR:=ag (aV (b2 (aa 0) (kD (.str "sums")) (aI false)) (ah (cC (Yb (ab 1) (Yb (ab 2) ae)) wH)) aw) U8
def qX:AR:=ag (aV (b2 (aa 0) (kD (.str "eithers")) (aI false)) (ah (cC (Yb (ab 1) (Yb (ab 2) ae)) wG)) aw) U9
def qY:AN->Option D:=aj 3 3 qX
def NX:aN P w K mg base 2 3 "rule_holds" ["kind","rule","evening"] qY:=by
 exists bl.f28,U7,UZ bl,U3 bl,U6 bl
def U_:Fs 2 29 ["book","evening"]:=aM
def Va:Cs ["book","evening"] 29 ["place","rule","book","evening"] [none,none,some 0,some 1] [("place",0),("rule",0),("rule_holds",2),("book",1),("evening",1)]:=cg
def FV:AT:=d8 (b1 (cC (Yb (b2 (aa 2) (aaa 0) ao) (Yb (ab 1) (Yb (ab 3) ae))) qY) aQ)
def FW:AU:=ab 0
def NY:AR:=ah (lF (bu (b1 (b2 (aa 0) (aaa 1) ao) fH) [none,none,some 0,some 1] (ez 0 1) (FV) (FW)))
def wK:AN->Option D:=aj 2 2 NY
def Vb:aN P w K mg base 3 2 "broken_rules" ["book","evening"] wK:=by
 exists bl.f29,U_,Va,NX bl
def FX:Fs 2 30 ["book","evening"]:=aM
def NZ:AR:=ah (mB (b2 (cC (Yb (cC (Yb (ab 0) (Yb (ab 1) ae)) wK) ae) aU) (aaa 0) (aI false)))
def wL:AN->Option D:=aj 2 2 NZ
def FY:aN P w K mg base 4 2 "holds" ["book","evening"] wL:=by
 exists bl.f30,FX,Vb bl
def Vc:Fs 2 31 ["kind","rule"]:=aM
def Vd:Cs ["kind","rule"] 31 ["saying"] [none] [("saying",0)]:=cg
def FZ:AU:=b2 (aa 0) (aaa 0) ao
@[simp] def Ve:AR:=ah (lF (b2 (lF (cF (Yb (b2 (aa 1) (aaa 0) ao) ae) nY)) (lF (bE (Yb (b2 (aa 1) (aaa 1) ao) ae))) cY))
@[simp] def Vf:AR:=ag (aV (f6 (b2 (aa 0) (kD (.str "sums")) (aI false)) (b2 (b2 (aa 1) (aaa 1) ao) (kD .non) (bU false))) (ah (lF (cF (Yb (b2 (aa 1) (aaa 0) ao) ae) nY))) aw) Ve
def wM:AR:=ag (aV (b2 (aa 0) (kD (.str "eithers")) (aI false)) (ah (lF (bu (b1 (ab 1) Yc) [none] (ai 0) tY (FZ)))) aw) Vf
def mr:AN->Option D:=aj 2 2 wM
def F0:aN P w K mg base 1 2 "beacons_in" ["kind","rule"] mr:=by
 exists bl.f31,Vc,Vd
def Vg:Fs 1 32 ["book","found","rule"]:=aM
def F1:AR:=cW 1 (cC (Yb (b2 (aa 0) (aaa 0) ao) (Yb (ab 2) ae)) mr) eC
@[simp] def Vh:AR:=ah (lF (CQ (aa 1)))
@[simp] def Vi:AR:=ag (a_ (b1 (b2 (aa 0) (aaa 1) ao) Yc) (ai 2) F1) Vh
def N0:AR:=ag (bb 1 (bE ae)) Vi
def wN:AN->Option D:=aj 1 3 N0
def Vj:aN P w K mg base 2 1 "beacons_of" ["book"] wN:=by
 exists bl.f32,Vg,F0 bl
def Vk:Fs 2 33 ["kind","rule"]:=aM
def F2:AR:=ah (ey (mB (b2 (cC (Yb (cC (Yb (ab 0) (Yb (ab 1) ae)) mr) ae) aU) (aaa 0) (aI false))) (hY (cC (Yb (ab 0) (Yb (ab 1) (Yb (ar ae) ae))) qY)))
def wO:AN->Option D:=aj 2 2 F2
def Vl:aN P w K mg base 3 2 "is_void" ["kind","rule"] wO:=by
 exists bl.f33,Vk,F0 bl,NX bl
def Vm:Fs 2 34 ["beacons","beacon"]:=aM
def Vn:Cs ["beacons","beacon"] 34 ["other","beacon"] [none,some 1] [("other",0),("beacon",1)]:=cg
def qZ:AT:=b2 (aa 0) (aa 1) (aI true)
def q0:AU:=ab 0
def F3:AR:=ah (cC (Yb (lF (bu (b1 (ab 0) Yc) [none,some 1] (ai 0) (qZ) (q0))) ae) a9)
def jw:AN->Option D:=aj 2 2 F3
def F4:aN P w K mg base 1 2 "without" ["beacons","beacon"] jw:=by
 exists bl.f34,Vm,Vn
def Vo:Fs 3 35 ["rule","beacon","lit"]:=aM
def Vp:Cs ["rule","beacon","lit"] 35 ["saying","beacon"] [none,some 1] [("saying",0),("beacon",1)]:=cg
def F5:AT:=b2 (b2 (aa 0) (aaa 0) ao) (aa 1) (aI true)
def F6:AU:=ab 0
def F7:AR:=ag (aV (b2 (ar (Yb (ab 1) (Yb (ab 2) ae))) (aa 0) (dV false)) (ah (kD .non)) aw) (ah (cC (Yb (lF (bu (b1 (ab 0) Yc) [none,some 1] (ai 0) (F5) (F6))) ae) a9))
def wQ:AN->Option D:=aj 3 3 F7
def Vq:aN P w K mg base 1 3 "either_left" ["rule","beacon","lit"] wQ:=by
 exists bl.f35,Vo,Vp
def Vr:Fs 3 36 ["rule","beacon","lit","beacons","odd"]:=aM
@[simp] def Vs:AR:=ah (ar (Yb (ab 3) (Yb (ab 4) ae)))
@[simp] def Vt:AR:=ag (aV (b_ (b2 (cC (Yb (aa 3) ae) aU) (aaa 0) (aI false)) (d8 (b1 (aa 4) aQ))) (ah (kD .non)) aw) Vs
@[simp] def Vu:AR:=ag (aq 4 (mB (b2 (b2 (aa 0) (aaa 1) ao) (aa 2) (aI true)))) Vt
def N3:AR:=ag (aq 3 (cC (Yb (b2 (aa 0) (aaa 0) ao) (Yb (ab 1) ae)) jw)) Vu
def wR:AN->Option D:=aj 3 5 N3
def Vv:aN P w K mg base 2 3 "sum_left" ["rule","beacon","lit"] wR:=by
 exists bl.f36,Vr,F4 bl
def Vw:Fs 3 37 ["rule","beacon","so","head"]:=aM
@[simp] def Vx:AR:=ah (ar (Yb (cC (Yb (b2 (aa 0) (aaa 0) ao) (Yb (ab 1) ae)) jw) (Yb (ab 3) ae)))
@[simp] def Vy:AR:=ag (aq 3 (i0 (b2 (b2 (aa 0) (aaa 1) ao) (aa 1) (aI false)) (kD .non) (b2 (aa 0) (aaa 1) ao))) Vx
@[simp] def Vz:AR:=ag (aV (b_ (d8 (b1 (aa 2) aQ)) (b2 (aa 1) (b2 (aa 0) (aaa 0) ao) (dV false))) (ah (kD .non)) aw) Vy
def q_:AR:=ag (aV (b_ (b1 (aa 2) aQ) (b2 (b2 (aa 0) (aaa 1) ao) (aa 1) (aI false))) (ah (kD .non)) aw) Vz
def wU:AN->Option D:=aj 3 4 q_
def VA:aN P w K mg base 2 3 "if_left" ["rule","beacon","so"] wU:=by
 exists bl.f37,Vw,F4 bl
def VB:Fs 4 38 ["kind","rule","beacon","lit"]:=aM
@[simp] def VC:AR:=ah (cC (Yb (ab 1) (Yb (ab 2) (Yb (mB (b2 (aa 3) (mB (b2 (aa 0) (kD (.str "ifs")) (aI false))) (aI false))) ae))) wU)
@[simp] def VD:AR:=ag (aV (b2 (aa 0) (kD (.str "sums")) (aI false)) (ah (cC (Yb (ab 1) (Yb (ab 2) (Yb (ab 3) ae))) wR)) aw) VC
@[simp] def VE:AR:=ag (aV (b2 (aa 0) (kD (.str "eithers")) (aI false)) (ah (cC (Yb (ab 1) (Yb (ab 2) (Yb (ab 3) ae))) wQ)) aw) VD
def rh:AR:=ag (aV (b2 (aa 2) (cC (Yb (ab 0) (Yb (ab 1) ae)) mr) (dV true)) (ah (ab 1)) aw) VE
def wV:AN->Option D:=aj 4 4 rh
def VF:aN P w K mg base 3 4 "rule_left" ["kind","rule","beacon","lit"] wV:=by
 exists bl.f38,VB,F0 bl,Vq bl,Vv bl,VA bl
def VG:Fs 3 39 ["book","beacon","lit","turned"]:=aM
def VH:Cs ["book","beacon","lit","turned"] 39 ["rule","book","beacon","lit"] [none,some 0,some 1,some 2] [("rule",0),("rule_left",2),("beacon",1),("book",1),("lit",1)]:=cg
def VI:Cs ["book","beacon","lit","turned"] 39 ["rule"] [none] [("rule",0)]:=cg
def F8:AU:=cC (Yb (b2 (aa 1) (aaa 0) ao) (Yb (ab 0) (Yb (ab 2) (Yb (ab 3) ae)))) wV
def F9:AT:=b2 (aa 0) (kD .non) (bU true)
def F_:AU:=ab 0
def N4:AR:=ag (bb 3 (bu (b1 (b2 (aa 0) (aaa 1) ao) Yc) [none,some 0,some 1,some 2] (ai 0) tY (F8))) (wF [3] (ah (ar (Yb (b2 (aa 0) (aaa 0) ao) (Yb (cC (Yb (lF (bu (b1 (ab 3) Yc) [none] (ai 0) (F9) (F_))) ae) a9) ae)))))
def iG:AN->Option D:=aj 3 4 N4
def Ga:aN P w K mg base 4 3 "left_behind" ["book","beacon","lit"] iG:=by
 exists bl.f39,VG,VH,VF bl,VI
def VJ:Fs 2 41 ["book","place"]:=aM
def N5:AR:=ah (mB (uD (aaa 0) (aa 1) (cC (Yb (b2 (aa 0) (aaa 1) ao) ae) aU) Lo gE))
def wW:AN->Option D:=aj 2 2 N5
def VL:aN P w K mg base 1 2 "is_place" ["book","place"] wW:=by
 exists bl.f41,VJ
def VM:Fs 2 42 ["rule","known"]:=aM
def VN:Cs ["rule","known"] 42 ["beacon","known"] [none,some 1] [("beacon",0),("known",1)]:=cg
def Yy:AU:=qF (mB (b2 (aa 0) (aa 1) (dV false))) (mB (b2 (aa 0) (aa 1) (dn false)))
def wX:AR:=ah (cC (Yb (lF (bu (b1 (b2 (aa 0) (aaa 0) ao) Yc) [none,some 1] (ai 0) tY (Yy))) ae) gc)
def kZ:AN->Option D:=aj 2 2 wX
def N6:aN P w K mg base 1 2 "body_is_known" ["rule","known"] kZ:=by
 refine cZ bl.f42 VM λhr=>?_;unfold wX Yy
 exists VN
def VO:Fs 3 43 ["book","known","place","rule"]:=aM
@[simp] def VP:AR:=ah (ey (mB (b2 (b2 (aa 3) (aaa 1) ao) (kD .non) (bU true))) (cC (Yb (ab 3) (Yb (ab 1) ae)) kZ))
@[simp] def VQ:AR:=ag (aq 3 (b2 (b2 (aa 0) (aaa 1) ao) (aa 2) ao)) VP
def Gb:AR:=ag (aV (d8 (b1 (cC (Yb (ab 0) (Yb (ab 2) ae)) wW) aQ)) (ah (kD (.bl false))) aw) VQ
def wY:AN->Option D:=aj 3 4 Gb
def VR:aN P w K mg base 2 3 "is_step" ["book","known","place"] wY:=by
 exists bl.f43,VO,VL bl,N6 bl
def VS:Fs 2 44 ["book","known","place","rule"]:=aM
def mu:AR:=aV (b_ (b2 (b2 (aa 3) (aaa 1) ao) (aa 1) (cP true)) (b1 (cC (Yb (ab 0) (Yb (ab 1) (Yb (ab 2) ae))) wY) aQ)) (ah (ab 2)) aw
def N7:AR:=ag (a_ (b1 (b2 (aa 0) (aaa 1) ao) fH) (ez 2 3) mu) (ah (kD .non))
def ri:AN->Option D:=aj 2 4 N7
def VT:aN P w K mg base 3 2 "step_to_more" ["book","known"] ri:=by
 exists bl.f44,VS,VR bl
def VW:Fs 2 45 ["book","facts","known","places","place"]:=aM
def VY:Cs ["book","facts","known","places","place"] 45 ["fact"] [none] [("fact",0)]:=cg
def Gc:AU:=ar (Yb (ab 0) (Yb (kD (.bl true)) ae))
def wZ:AR:=ag (cW 3 (ab 4) cb) (ag (oN 2 (b2 (b2 (b2 (aa 0) (aaa 1) ao) (aa 4) ao) (aaa 1) ao) (kD (.bl true))) (aq 4 (oy [2] (cC (Yb (ab 0) (Yb (ab 2) ae)) ri))))
@[simp] def VZ:AR:=ah (ar (Yb (lF (cF (Yb (aa 2) ae) km)) (Yb (cC (Yb (aa 3) ae) a9) ae)))
@[simp] def V0:AR:=ag (c5 (b2 (aa 4) (kD .non) (bU true)) wZ 4000) VZ
@[simp] def V3:AR:=ag (aq 4 (oy [2] (cC (Yb (ab 0) (Yb (ab 2) ae)) ri))) V0
@[simp] def V4:AR:=ag (bb 3 (bE ae)) V3
def N8:AR:=ag (fw 2 (lF (bu (b1 (ab 1) Yc) [none] (ai 0) tY (Gc)))) V4
def Yv:AN->Option D:=aj 2 5 N8
def V5:aN P w K mg base 4 2 "derived_in_full" ["book","facts"] Yv:=by
 exists bl.f45,VW,VY,VT bl
def V6:Fs 1 47 ["book"]:=aM
def V7:Cs ["book"] 47 ["rule","book"] [none,some 0] [("rule",0),("is_void",2),("book",1)]:=cg
def Gd:AU:=cC (Yb (b2 (aa 1) (aaa 0) ao) (Yb (ab 0) ae)) wO
def N9:AR:=ah (cC (Yb (lF (bu (b1 (b2 (aa 0) (aaa 1) ao) Yc) [none,some 0] (ai 0) tY (Gd))) ae) eB)
def rm:AN->Option D:=aj 1 1 N9
def V8:aN P w K mg base 4 1 "is_broken" ["book"] rm:=by
 exists bl.f47,V6,V7,Vl bl
def N_:Fs 1 49 ["beacons","sayings","beacon"]:=aM
def Ge:AR:=cW 1 (lF (bE (Yb (ar (Yb (ab 2) (Yb (kD (.bl false)) ae))) (Yb (ar (Yb (ab 2) (Yb (kD (.bl true)) ae))) ae)))) eC
@[simp] def Oa:AR:=(wF [1] (ah (ab 1)))
@[simp] def Ob:AR:=ag (a_ (b1 (ab 0) Yc) (ai 2) Ge) Oa
def Gg:AR:=ag (bb 1 (bE ae)) Ob
def Yu:AN->Option D:=aj 1 3 Gg
def rn:aN P w K mg base 1 1 "sayings_of" ["beacons"] Yu:=by
 refine cZ bl.f49 N_ λhr=>?_;unfold Gg Ob Oa
 exists N_
def V9:Fs 3 50 ["ways","saying","other"]:=aM
def Gh:AR:=ah (ey (mB (b2 (aa 2) (b2 (aa 0) (aa 1) bA) (cN false))) (mB (b2 (aa 1) (b2 (aa 0) (aa 2) bA) (cN false))))
def Yq:AN->Option D:=aj 3 3 Gh
def Gi:aN P w K mg base 1 3 "lead_to_one_another" ["ways","saying","other"] Yq:=by
 exists bl.f50,V9
def V_:Fs 1 51 ["ways","saying","other"]:=aM
def w_:AR:=ag (aq 2 (cC (Yb (ab 1) ae) ju)) (aV (b1 (cC (Yb (ab 0) (Yb (ab 1) (Yb (ab 2) ae))) Yq) aQ) (ah (ar (Yb (kD (.str "clash")) (Yb (cC (Yb (b2 (aa 0) (aa 1) bA) (Yb (ab 2) ae)) jv) (Yb (cC (Yb (b2 (aa 0) (aa 2) bA) (Yb (ab 1) ae)) jv) ae))))) aw)
def Gj:AR:=ag (a_ (b1 (ab 0) qG) (ai 1) w_) (ah (kD .non))
def ro:AN->Option D:=aj 1 3 Gj
def Wb:aN P w K mg base 2 1 "clash_found" ["ways"] ro:=by
 exists bl.f51,V_,v7 bl,Gi bl,FE bl
def Wc:Fs 2 52 ["ways","storms","saying","other"]:=aM
def rq:AR:=aV (b_ (b2 (aa 3) (aa 2) (aI true)) (b2 (aa 3) (b2 (aa 0) (aa 2) bA) (cN false))) (ah (ar (Yb (kD (.str "cross")) (Yb (cC (Yb (b2 (aa 0) (aa 2) bA) (Yb (ab 3) ae)) jv) ae)))) aw
def xa:AR:=a_ (b1 (cC (Yb (ab 1) ae) Yu) Yc) (ai 3) rq
def Gk:AR:=ag (a_ (b1 (cC (Yb (ab 1) ae) Yu) Yc) (ai 2) xa) (ah (kD .non))
def ru:AN->Option D:=aj 2 4 Gk
def Wd:aN P w K mg base 2 2 "cross_found" ["ways","storms"] ru:=by
 exists bl.f52,Wc,rn bl,FE bl
def We:Fs 3 53 ["ways","keepers","storms","saying","other"]:=aM
def ry:AR:=aV (b_ (b2 (b2 (aa 4) (aaa 0) ao) (b2 (aa 3) (aaa 0) ao) gE) (b1 (cC (Yb (ab 0) (Yb (ab 3) (Yb (ab 4) ae))) Yq) aQ)) (ah (ar (Yb (kD (.str "late")) (Yb (cC (Yb (b2 (aa 0) (aa 3) bA) (Yb (ab 4) ae)) jv) (Yb (cC (Yb (b2 (aa 0) (aa 4) bA) (Yb (ab 3) ae)) jv) ae))))) aw
def xb:AR:=a_ (b1 (cC (Yb (ab 1) ae) Yu) Yc) (ai 4) ry
def Gm:AR:=ag (a_ (b1 (cC (Yb (ab 2) ae) Yu) Yc) (ai 3) xb) (ah (kD .non))
def rz:AN->Option D:=aj 3 5 Gm
def Wf:aN P w K mg base 2 3 "late_found" ["ways","keepers","storms"] rz:=by
 exists bl.f53,We,rn bl,Gi bl,FE bl
def Wg:Fs 4 54 ["book","ways","keepers","storms","found","papers"]:=aM
def Wh:Cs ["book","ways","keepers","storms","found","papers"] 54 ["paper"] [none] [("paper",0)]:=cg
def Yp:AT:=b2 (aa 0) (kD .non) (bU true)
def Yr:AU:=ab 0
@[simp] def Wi:AR:=ah (i0 (b1 (aa 5) aQ) (b2 (aa 5) (aaa 0) ao) (kD .non))
@[simp] def Wj:AR:=ag (wF [4] (bb 5 (bu (b1 (ab 4) Yc) [none] (ai 0) (Yp) (Yr)))) Wi
@[simp] def Wl:AR:=ag (bb 4 (bE (Yb (cC (Yb (ab 1) ae) ro) (Yb (cC (Yb (ab 1) (Yb (ab 3) ae)) ru) (Yb (cC (Yb (ab 1) (Yb (ab 2) (Yb (ab 3) ae))) rz) ae))))) Wj
def Ys:AR:=ag (aV (b1 (cC (Yb (ab 0) ae) rm) aQ) (ah (ar (Yb (kD (.str "broken")) ae))) aw) Wl
def mv:AN->Option D:=aj 4 6 Ys
def Wn:aN P w K mg base 5 4 "storms_paper" ["book","ways","keepers","storms"] mv:=by
 exists bl.f54,Wg,V8 bl,Wb bl,Wd bl,Wf bl,Wh
def Wo:Fs 2 55 ["keeper","ways","dark"]:=aM
def Gn:AR:=ag (aq 2 (ar (Yb (ab 0) (Yb (kD (.bl false)) ae)))) (ah (i0 (b2 (cC (Yb (ab 2) ae) ju) (b2 (aa 1) (aa 2) bA) (cN false)) (cC (Yb (ab 2) ae) ju) (ab 2)))
def k4:AN->Option D:=aj 2 3 Gn
def Wp:aN P w K mg base 2 2 "free_saying" ["keeper","ways"] k4:=by
 exists bl.f55,Wo,v7 bl
def Oc:Fs 3 56 ["ways","keepers","storms","truths","saying","keeper"]:=aM
def Gp:AR:=gk 3 (fB (lF (cF (Yb (b2 (aa 0) (aa 4) bA) ae) iC)))
def xc:AR:=aV (b2 (aa 5) (aa 3) (dn true)) (gk 3 (fB (lF (cF (Yb (b2 (aa 0) (cC (Yb (ab 5) (Yb (ab 0) ae)) k4) bA) ae) iC)))) aw
@[simp] def xf:AR:=(wF [3] (ah (ab 3)))
@[simp] def Od:AR:=ag (a_ (b1 (ab 1) Yc) (ai 5) xc) xf
@[simp] def Oe:AR:=ag (a_ (b1 (cC (Yb (ab 2) ae) Yu) Yc) (ai 4) Gp) Od
def Gq:AR:=ag (lX 3) Oe
def xg:AN->Option D:=aj 3 6 Gq
def Wq:aN P w K mg base 3 3 "truths_made" ["ways","keepers","storms"] xg:=by
 refine cZ bl.f56 Oc λhr=>?_;unfold Gq Oe Od xf
 exists Oc,rn bl,Wp bl
def Wr:Fs 4 57 ["keeper","ways","storms","truths","saying"]:=aM
def xh:AR:=aV (b1 (cC (Yb (ab 1) (Yb (ab 4) (Yb (ar (Yb (ab 0) (Yb (kD (.bl true)) ae))) ae))) Yq) aQ) (ah (ar (Yb (ab 0) (Yb (b2 (aa 4) (aaa 0) ao) (Yb (b2 (aa 4) (aaa 1) ao) ae))))) aw
def Gs:AR:=ag (a_ (b1 (cC (Yb (ab 2) ae) Yu) Yc) (ai 4) xh) (ah (ar (Yb (ab 0) (Yb (kD .non) (Yb (b2 (aa 3) (aa 0) cO) ae)))))
def rA:AN->Option D:=aj 4 5 Gs
def Ws:aN P w K mg base 2 4 "plan_row" ["keeper","ways","storms","truths"] rA:=by
 exists bl.f57,Wr,rn bl,Gi bl
def Of:Fs 3 58 ["book","hands","start","keepers","storms","ways","paper","truths"]:=aM
def Wt:Cs ["book","hands","start","keepers","storms","ways","paper","truths"] 58 ["saying","book"] [none,some 0] [("saying",0),("ways_from",2),("book",1)]:=cg
def Wu:Cs ["book","hands","start","keepers","storms","ways","paper","truths"] 58 ["keeper","ways","storms","truths"] [none,some 5,some 4,some 7] [("keeper",0),("plan_row",2),("storms",1),("truths",1),("ways",1)]:=cg
def rB:AU:=ar (Yb (ab 0) (Yb (cC (Yb (ab 1) (Yb (ab 0) ae)) mm) ae))
def Gu:AU:=cC (Yb (ab 0) (Yb (ab 1) (Yb (ab 2) (Yb (ab 3) ae)))) rA
@[simp] def Og:AR:=(wF [5] (ah (ar (Yb (kD (.str "keeper")) (Yb (ar (Yb (kD (.str "plan")) (Yb (cC (Yb (lF (bu (b1 (ab 3) Yc) [none,some 5,some 4,some 7] (ai 0) tY (Gu))) ae) a9) ae))) ae)))))
@[simp] def Oh:AR:=ag (wF [5] (aq 7 (cC (Yb (ab 5) (Yb (ab 3) (Yb (ab 4) ae))) xg))) Og
@[simp] def xi:AR:=ag (aV (b2 (aa 6) (kD .non) (bU true)) (ah (ar (Yb (kD (.str "storm")) (Yb (ab 6) ae)))) aw) Oh
@[simp] def Yz:AR:=ag (wF [5] (aq 6 (cC (Yb (ab 0) (Yb (ab 5) (Yb (ab 3) (Yb (ab 4) ae)))) mv))) xi
@[simp] def Oi:AR:=ag (iB 5 (lF (bu (b1 (cC (Yb (lF (b2 (aa 3) (aa 4) cY)) ae) Yu) Yc) [none,some 0] (ai 0) tY (rB)))) Yz
@[simp] def Oj:AR:=ag (aq 4 (cC (Yb (ab 1) (Yb (ab 2) (Yb (kD (.str "storm")) ae))) Yw)) Oi
def xj:AR:=ag (aq 3 (cC (Yb (ab 1) (Yb (ab 2) (Yb (kD (.str "keeper")) ae))) Yw)) Oj
def rC:AN->Option D:=aj 3 8 xj
def Wv:aN P w K mg base 6 3 "either_outcome" ["book","hands","start"] rC:=by
 refine cZ bl.f58 Of λhr=>?_;unfold xj Oj Oi Yz xi Oh Og
 exists Of,FK bl,Wt,rn bl,UD bl,Wn bl,Wq bl,Wu,Ws bl
def Ww:Fs 2 60 ["rule","sums","whole","beacon","row"]:=aM
def Gv:AR:=ag (aq 4 (b3 (aa 1) (aa 3) (ar (Yb (ab 3) (Yb (ar (Yb (ab 3) ae)) (Yb (kD (.bl false)) ae)))) i6)) (aq 2 (cC (Yb (ab 2) (Yb (ar (Yb (b2 (aa 4) (aaa 1) ao) (Yb (b2 (aa 4) (aaa 2) ao) ae))) ae)) mn))
@[simp] def Wx:AR:=ah (ab 2)
@[simp] def Wz:AR:=ag (a_ (b1 (b2 (aa 0) (aaa 0) ao) Yc) (ai 3) Gv) Wx
def Ol:AR:=ag (aq 2 (ar (Yb (ar ae) (Yb (kD (.bl false)) ae)))) Wz
def rD:AN->Option D:=aj 2 5 Ol
def WA:aN P w K mg base 2 2 "replaced" ["rule","sums"] rD:=by
 exists bl.f60,Ww,NR bl
def WC:Fs 2 61 ["beacons","beacon"]:=aM
def WD:Cs ["beacons","beacon"] 61 ["other","beacon"] [none,some 1] [("other",0),("beacon",1)]:=cg
def Gw:AT:=b2 (aa 0) (aa 1) gE
def Gx:AU:=ab 0
def Om:AR:=ah (lF (bu (b1 (ab 0) Yc) [none,some 1] (ai 0) (Gw) (Gx)))
def xk:AN->Option D:=aj 2 2 Om
def WE:aN P w K mg base 1 2 "ahead_of" ["beacons","beacon"] xk:=by
 exists bl.f61,WC,WD
def WG:Fs 2 63 ["book","full","place","rule"]:=aM
def rE:AR:=aV (b_ (b2 (b2 (aa 3) (aaa 1) ao) (kD .non) (bU false)) (b1 (cC (Yb (ab 3) (Yb (b2 (aa 1) (aaa 0) ao) ae)) kZ) aQ)) (ah (b2 (b2 (aa 1) (aaa 1) ao) (ar (Yb (ab 2) ae)) o7)) aw
def On:AR:=ag (a_ (b1 (b2 (aa 0) (aaa 1) ao) fH) (ez 2 3) rE) (ah (kD .non))
def rF:AN->Option D:=aj 2 4 On
def WI:aN P w K mg base 2 2 "places_to_none" ["book","full"] rF:=by
 exists bl.f63,WG,N6 bl
def WJ:Fs 3 64 ["book","full","beacon","heads"]:=aM
def WK:Cs ["book","full","beacon","heads"] 64 ["place","book"] [none,some 0] [("place",0),("book",1)]:=cg
def Gy:AU:=b2 (b2 (b2 (aa 1) (aaa 1) ao) (aa 0) ao) (aaa 1) ao
@[simp] def WL:AR:=ah (oV (b2 (aa 1) (aaa 1) ao) none (some (b2 (b2 (aa 3) (ab 2) iA) (aaa 1) cM)))
@[simp] def WM:AR:=ag (aV (b2 (aa 2) (aa 3) (dV true)) (ah (kD .non)) aw) WL
def Gz:AR:=ag (bb 3 (bu (b1 (b2 (aa 1) (aaa 1) ao) Yc) [none,some 0] (ai 0) tY (Gy))) WM
def y8:AN->Option D:=aj 3 4 Gz
def WN:aN P w K mg base 1 3 "places_to_beacon" ["book","full","beacon"] y8:=by
 exists bl.f64,WJ,WK
def WO:Fs 2 65 ["beacons","known"]:=aM
def WQ:Cs ["beacons","known"] 65 ["beacon","known"] [none,some 1] [("beacon",0),("known",1)]:=cg
def GA:AT:=b2 (aa 0) (aa 1) (dV false)
def GB:AU:=ab 0
def Oo:AR:=ah (cC (Yb (lF (bu (b1 (ab 0) Yc) [none,some 1] (ai 0) (GA) (GB))) ae) a9)
def rG:AN->Option D:=aj 2 2 Oo
def WU:aN P w K mg base 1 2 "some_of" ["beacons","known"] rG:=by
 exists bl.f65,WO,WQ
def WV:Fs 3 66 ["beacon","storms","first"]:=aM
def Oq:AR:=ah (lF (b2 (lF (cF (Yb (cC (Yb (ab 1) (Yb (ab 0) ae)) jw) ae) nY)) (cC (Yb (ab 2) (Yb (ab 0) ae)) xk) cY))
def xl:AN->Option D:=aj 3 3 Oq
def WW:aN P w K mg base 2 3 "facts_beside" ["beacon","storms","first"] xl:=by
 exists bl.f66,WV,F4 bl,WE bl
def WX:Fs 3 67 ["book","hands","start","keepers","storms","whole","places","first","rows","beacon","full"]:=aM
def xm:AR:=ag (aq 10 (cC (Yb (ab 0) (Yb (cC (Yb (ab 9) (Yb (ab 4) (Yb (ab 7) ae))) xl) ae)) Yv)) (ag (aq 6 (cC (Yb (ab 0) (Yb (ab 10) (Yb (ab 9) ae))) y8)) (ag (aV (b2 (aa 6) (kD .non) (bU true)) (ah (ar (Yb (kD (.str "storm")) (Yb (ar (Yb (kD (.str "lone")) (Yb (ab 9) (Yb (b2 (aa 5) (aaa 1) ao) (Yb (ab 6) ae))))) ae)))) aw) (cW 8 (ar (Yb (ab 9) (Yb (cC (Yb (ab 3) (Yb (b2 (aa 10) (aaa 0) ao) ae)) rG) ae))) cb)))
@[simp] def WY:AR:=ah (ar (Yb (kD (.str "keeper")) (Yb (ar (Yb (kD (.str "rows")) (Yb (ab 7) (Yb (cC (Yb (aa 8) ae) a9) ae)))) ae)))
@[simp] def GC:AR:=ag (a_ (b1 (ab 4) Yc) (ai 9) xm) WY
@[simp] def WZ:AR:=ag (bb 8 (bE ae)) GC
@[simp] def W0:AR:=ag (aq 7 (cC (Yb (ab 3) (Yb (b2 (aa 5) (aaa 0) ao) ae)) rG)) WZ
@[simp] def W1:AR:=ag (aV (b2 (aa 6) (kD .non) (bU true)) (ah (ar (Yb (kD (.str "storm")) (Yb (ar (Yb (kD (.str "lone")) (Yb (kD .non) (Yb (ar ae) (Yb (ab 6) ae))))) ae)))) aw) W0
@[simp] def W2:AR:=ag (aq 6 (cC (Yb (ab 0) (Yb (ab 5) ae)) rF)) W1
@[simp] def W3:AR:=ag (aq 5 (cC (Yb (ab 0) (Yb (ab 4) ae)) Yv)) W2
@[simp] def W4:AR:=ag (aq 4 (cC (Yb (ab 1) (Yb (ab 2) (Yb (kD (.str "storm")) ae))) Yw)) W3
def xn:AR:=ag (aq 3 (cC (Yb (ab 1) (Yb (ab 2) (Yb (kD (.str "keeper")) ae))) Yw)) W4
def k7:AN->Option D:=aj 3 11 xn
def W5:aN P w K mg base 5 3 "if_outcome" ["book","hands","start"] k7:=by
 exists bl.f67,WX,FK bl,V5 bl,WI bl,WU bl,WW bl,WN bl
def W6:Fs 1 69 ["pair"]:=aM
def Os:AR:=ah (b2 (b2 (b2 (aa 0) (aaa 1) ao) (aaa 0) ao) (b1 (aaa 1) di) ao)
def rH:AN->Option D:=aj 1 1 Os
def Ot:aN P w K mg base 1 1 "last_beacon" ["pair"] rH:=by
 exists bl.f69,W6
def W8:Fs 3 70 ["pairs","void","storms","lost"]:=aM
def W9:Cs ["pairs","void","storms","lost"] 70 ["pair","storms"] [none,some 2] [("pair",0),("last_beacon",2),("storms",1)]:=cg
def GE:AT:=b2 (cC (Yb (ab 0) ae) rH) (aa 1) (dV false)
def Ou:AU:=b2 (aa 0) (aaa 0) ao
@[simp] def W_:AR:=ah (i0 (b1 (aa 3) aQ) (b2 (aa 3) (aaa 0) ao) (kD .non))
@[simp] def Xa:AR:=ag (bb 3 (bu (b1 (ab 0) Yc) [none,some 2] (ai 0) (GE) (Ou))) W_
def GF:AR:=ag (aV (b2 (aa 1) (kD .non) (bU true)) (ah (ab 1)) aw) Xa
def mw:AN->Option D:=aj 3 4 GF
def Xb:aN P w K mg base 2 3 "storms_places" ["pairs","void","storms"] mw:=by
 exists bl.f70,W8,W9,Ot bl
def Ov:Fs 2 71 ["pairs","keepers","rules","rows","keeper","rule","rest"]:=aM
def Xc:Cs ["pairs","keepers","rules","rows","keeper","rule","rest"] 71 ["pair"] [none] [("pair",0),("last_beacon",2)]:=cg
def Xd:Cs ["pairs","keepers","rules","rows","keeper","rule","rest"] 71 ["keeper","rows"] [none,some 3] [("keeper",0),("rows",1)]:=cg
def rJ:AU:=ar (Yb (cC (Yb (ab 0) ae) rH) (Yb (b2 (aa 0) (aaa 1) ao) ae))
def xo:AR:=ag (aq 5 (b3 (aa 2) (aa 4) (ar (Yb (ar (Yb (ab 4) ae)) (Yb (kD (.bl false)) ae))) i6)) (ag (aq 6 (gH [3] (cC (Yb (ar (Yb (oV (b2 (aa 5) (aaa 0) ao) none (some (b1 (aaa 1) di))) (Yb (kD (.bl false)) ae))) (Yb (ab 3) ae)) rD))) (oN 3 (aa 4) (ar (Yb (ab 4) (Yb (b2 (aa 6) (aaa 0) ao) (Yb (mB (b2 (b2 (aa 6) (aaa 1) ao) (b2 (aa 5) (aaa 1) ao) (aI true))) ae))))))
def GG:AU:=b2 (aa 1) (aa 0) cO
@[simp] def rL:AR:=(wF [3] (ah (cC (Yb (lF (bu (b1 (ab 1) Yc) [none,some 3] (ai 0) tY (GG))) ae) a9)))
@[simp] def Ow:AR:=ag (a_ (b1 (ab 1) Yc) (ai 4) xo) rL
@[simp] def Ox:AR:=ag (lX 3) Ow
def GH:AR:=ag (fw 2 (lF (bu (b1 (ab 0) Yc) [none] (ai 0) tY (rJ)))) Ox
def xp:AN->Option D:=aj 2 7 GH
def Xe:aN P w K mg base 3 2 "sum_rows" ["pairs","keepers"] xp:=by
 refine cZ bl.f71 Ov λhr=>?_;unfold GH Ox Ow rL
 exists Ov,Xc,Ot bl,WA bl,Xd
def Xf:Fs 3 72 ["book","hands","start","keepers","storms","answer","places"]:=aM
@[simp] def Xg:AR:=ah (ar (Yb (kD (.str "keeper")) (Yb (ar (Yb (kD (.str "sums")) (Yb (cC (Yb (b2 (aa 5) (aaa 0) ao) (Yb (ab 3) ae)) xp) ae))) ae)))
@[simp] def Xh:AR:=ag (aV (b2 (aa 6) (kD .non) (bU true)) (ah (ar (Yb (kD (.str "storm")) (Yb (ar (Yb (kD (.str "odd")) (Yb (ab 6) ae))) ae)))) aw) Xg
@[simp] def Xi:AR:=ag (aq 6 (cC (Yb (b2 (aa 5) (aaa 0) ao) (Yb (b2 (aa 5) (aaa 1) ao) (Yb (ab 4) ae))) mw)) Xh
@[simp] def Xj:AR:=ag (aq 5 (cC (Yb (ab 0) ae) qW)) Xi
@[simp] def Xk:AR:=ag (aq 4 (cC (Yb (ab 1) (Yb (ab 2) (Yb (kD (.str "storm")) ae))) Yw)) Xj
def GJ:AR:=ag (aq 3 (cC (Yb (ab 1) (Yb (ab 2) (Yb (kD (.str "keeper")) ae))) Yw)) Xk
def mx:AN->Option D:=aj 3 7 GJ
def Xl:aN P w K mg base 5 3 "sum_outcome" ["book","hands","start"] mx:=by
 exists bl.f72,Xf,FK bl,UW bl,Xb bl,Xe bl
def Xm:Fs 3 74 ["book","hands","start"]:=aM
@[simp] def Xn:AR:=ah (cC (Yb (ab 0) (Yb (ab 1) (Yb (ab 2) ae))) k7)
@[simp] def Xo:AR:=ag (aV (b2 (b2 (aa 0) (aaa 0) ao) (kD (.str "nots")) (aI false)) (ah (cC (Yb (cC (Yb (ab 0) ae) wC) (Yb (ab 1) (Yb (ab 2) ae))) k7)) aw) Xn
@[simp] def Xp:AR:=ag (aV (b2 (b2 (aa 0) (aaa 0) ao) (kD (.str "sums")) (aI false)) (ah (cC (Yb (ab 0) (Yb (ab 1) (Yb (ab 2) ae))) mx)) aw) Xo
def k8:AR:=ag (aV (b2 (b2 (aa 0) (aaa 0) ao) (kD (.str "eithers")) (aI false)) (ah (cC (Yb (ab 0) (Yb (ab 1) (Yb (ab 2) ae))) rC)) aw) Xp
def xq:AN->Option D:=aj 3 3 k8
def Xq(a:Bl K w mg):aN P w K mg base 7 3 "outcome" ["book","hands","start"] xq:=by
 refine Fy a.f74 Xm λhr=>?_
 exists Wv a,Xl a,W5 a,UL a
def Xr:Fs 1 76 ["thing"]:=aM
def Xs:AR:=ah (ey (mB (b1 (aa 0) (f_ "str"))) (mB (b1 (aa 0) (CD false NC))))
def GK:AN->Option D:=aj 1 1 Xs
def Xu:aN P w K mg base 1 1 "is_hand" ["thing"] GK:=by
 exists bl.f76,Xr
def Xv:Fs 2 77 ["book","hands"]:=aM
def Xw:Cs ["book","hands"] 77 ["thing"] [none] [("thing",0),("is_hand",2)]:=cg
def Xx:Cs ["book","hands"] 77 ["beacon","hands"] [none,some 1] [("beacon",0),("len",2),("hands",1)]:=cg
def GL:AU:=cC (Yb (ab 0) ae) GK
def GM:AU:=mB (b2 (aa 0) (cC (Yb (aa 1) ae) aU) AO)
@[simp] def Xy:AR:=aV (b1 (cC (Yb (lF (bu (b1 (cC (Yb (ab 0) ae) wN) Yc) [none,some 1] (ai 0) tY (GM))) ae) eB) aQ) nS aw
@[simp] def Xz:AR:=ag (aV (d8 (b1 (cC (Yb (lF (bu (b1 (ab 1) Yc) [none] (ai 0) tY (GL))) ae) gc) aQ)) nS aw) Xy
def GN:AR:=ag (aV (b2 (cC (Yb (aa 1) ae) aU) (aaa 60) AI) nS aw) Xz
def k9:AN->Option D:=aj 2 2 GN
def XA:aN P w K mg base 3 2 "check_hands" ["book","hands"] k9:=by
 exists bl.f77,Xv,Xw,Xu bl,Xx,Vj bl
def XB:Fs 2 80 ["script","k"]:=aM
def GO:AR:=ag (aV (b2 (aa 1) (cC (Yb (aa 0) ae) aU) gE) (ah (b2 (aa 0) (aa 1) ao)) aw) (ah (aaa 0))
def k_:AN->Option D:=aj 2 2 GO
def XC:aN P w K mg base 1 2 "_law_cell" ["script","k"] k_:=by
 exists bl.f80,XB
def XD:Fs 2 81 ["cell","by"]:=aM
def Oy:AR:=ah (b2 (b2 (b2 (aa 0) (aaa 2305843009213693951) a8) (aa 1) fZ) (aaa 2305843009213693951) a8)
def my:AN->Option D:=aj 2 2 Oy
def GP:aN P w K mg base 1 2 "_law_mixed" ["cell","by"] my:=by
 exists bl.f81,XD
def XE:Fs 2 82 ["cell","many","left"]:=aM
def XF:Cs ["cell","many","left"] 82 ["k","left"] [none,some 2] [("k",0),("left",1)]:=cg
def xt:AU:=b2 (lF (bE (Yb (kD (.str "keeper")) (Yb (kD (.str "storm")) ae)))) (b2 (b2 (aa 1) (aa 0) eE) (aaa 2) a8) ao
def Oz:AR:=ag (aq 2 (cC (Yb (ab 0) (Yb (aaa 1442695040888963407) ae)) my)) (ah (cC (Yb (lF (bu (cF (Yb (ab 1) ae) dh) [none,some 2] (ai 0) tY (xt))) ae) a9))
def xu:AN->Option D:=aj 2 3 Oz
def XG:aN P w K mg base 2 2 "_law_hands" ["cell","many"] xu:=by
 exists bl.f82,XE,GP bl,XF
def aBa:Fs 4 84 ["kind","cell","start","many","left","size","picked","k"]:=aM
def aAa:Cs ["kind","cell","start","many","left","size","picked","k"] 84 ["k","picked","left"] [none,some 6,some 4] [("k",0),("left",1),("picked",1)]:=cg
def rM:AR:=ag (aV (b2 (b2 (aa 2) (b2 (aa 4) (b2 (aa 3) (aa 2) eZ) a8) cM) (aa 6) (dV true)) (cW 6 (b2 (aa 2) (b2 (aa 4) (b2 (aa 3) (aa 2) eZ) a8) cM) cb) aw) (aq 4 (b2 (aa 4) (b2 (aa 3) (aa 2) eZ) dg))
def xw:AU:=ar (Yb (b2 (aa 1) (aa 0) ao) (Yb (mB (b2 (b2 (b2 (aa 2) (aa 0) eE) (aaa 2) a8) (aaa 1) (aI false))) ae))
@[simp] def XH:AR:=ah (ar (Yb (cC (Yb (lF (cF (Yb (aa 6) ae) fG)) ae) a9) (Yb (b2 (aa 2) (b2 (b2 (aa 4) (aaa 4) dg) (b2 (aa 3) (aa 2) eZ) a8) cM) ae)))
@[simp] def XI:AR:=ag (aV (b2 (b2 (aa 4) (aaa 4) a8) (aaa 1) (aI false)) (bb 6 (t6 (aa 6) (some (aaa 1)) none)) aw) XH
@[simp] def XJ:AR:=ag (aV (b2 (b2 (aa 4) (aaa 4) a8) (aaa 0) (aI false)) (ah (ar (Yb (cC (Yb (lF (cF (Yb (aa 6) ae) fG)) ae) a9) (Yb (kD .non) ae)))) aw) XI
@[simp] def xx:AR:=ag (aV (b2 (aa 0) (kD (.str "sums")) (aI false)) (ah (ar (Yb (cC (Yb (lF (cF (Yb (aa 6) ae) fG)) ae) a9) (Yb (mB (b2 (b2 (aa 4) (aaa 2) a8) (aaa 1) (aI false))) ae)))) aw) XJ
@[simp] def XM:AR:=ag (aV (b2 (aa 0) (kD (.str "eithers")) (aI false)) (wF [6] (ah (cC (Yb (lF (cF (Yb (lF (bu (cF (Yb (cC (Yb (aa 6) ae) aU) ae) dh) [none,some 6,some 4] (ai 0) tY (xw))) ae) fG)) ae) a9))) aw) xx
@[simp] def XO:AR:=ag (a_ (cF (Yb (ab 5) ae) dh) (ai 7) rM) XM
@[simp] def XQ:AR:=ag (bb 6 (bE ae)) XO
@[simp] def XR:AR:=ag (aq 4 (b2 (aa 4) (aaa 8) dg)) XQ
@[simp] def XS:AR:=ag (aV (b2 (aa 0) (kD (.str "eithers")) (aI false)) (aq 5 (cC (Yb (aa 5) (Yb (aaa 2) ae)) fm)) aw) XR
@[simp] def XT:AR:=ag (aq 5 (b2 (lF (kj [1,2,2,2,1,2,3,4])) (b2 (aa 4) (aaa 8) a8) ao)) XS
def xy:AR:=ag (aq 4 (cC (Yb (ab 1) (Yb (aaa 1181783497276652981) ae)) my)) XT
def rN:AN->Option D:=aj 4 8 xy
theorem XU(a:Bl K w mg):aN P w K mg base 2 4 "_law_rule" ["kind","cell","start","many"] rN:=by
 refine cZ a.f84 aBa λb=>?_;exact(fJ (gL 4 aBa.nd (jl (GP a) b rfl (Ym (dB 1) (Ym dC dX)) v5)) (fJ (DS _ _ _ _ _ _ 5 _ _ _ [1,2,2,2,1,2,3,4] aBa.nd (by decide +kernel) rfl (by trivial) (by trivial) (by intro _ _;rfl) (Yo (gh (Yi 4) (Yo dC)))) (fJ (jk (gJ b.units (Yi 0) (Yo i_)) (gK (gL 5 aBa.nd (ji (Kr rfl) L6 rfl a.Min boot_min (eS (Yi 5) (eS (Yo dC) fy))))) jj) (fJ (gL 4 aBa.nd (uS (Yi 4) (Yo dC))) (fJ (Dz 6 aBa.nd (Mv dX)) (fJ (Mz je rfl (uT rfl a.Range (Ym (dB 5) dX)) (uU 7 aBa.nd) (fJ (jk (Mt b.units (Yo (l9 (Yi 2) (Yo (gh (Yi 4) (Yo (uR (Yi 3) (Yi 2))))))) (Yi 6)) (gK (My 6 (l9 (Yi 2) (Yo (gh (Yi 4) (Yo (uR (Yi 3) (Yi 2)))))))) jj) (gK (gL 4 aBa.nd (uS (Yi 4) (Yo (uR (Yi 3) (Yi 2)))))))) (fJ (jk (gJ b.units (Yi 0) (Yo i_)) (gK (Mx [6] (l8 (pd nA nZ rfl a.Tuple boot_tuple (eS (Yo (kC (l7 n8 n9 rfl a.Sorted boot_sorted (eS (Yo (kC (MH aAa rfl (uT rfl a.Range (Ym (ji tL t8 rfl a.Len PySem.boot_len (eS (Yi 6) fy)) dX)) (λ_ _ _ _ _=>(uU 0 aAa.nd)) (λ_ _ _ _ _=>MD) (λ_ _ _ _ _=>(pb (Ym (kB (Yi 1) (Yi 0)) (Ym (o8 b.units (Yo (gh (Yo (DZ (Yi 2) (Yi 0))) (Yo dC))) (Yo dC)) dX)))) (Lz (i:=0) rfl)))) fy)))) fy))))) jj) (fJ (jk (gJ b.units (Yi 0) (Yo i_)) (gK (l8 (pb (Ym (pd nA nZ rfl a.Tuple boot_tuple (eS (Yo (kC (l7 n8 n9 rfl a.Sorted boot_sorted (eS (Yi 6) fy)))) fy)) (Ym (o8 b.units (Yo (gh (Yi 4) (Yo dC))) (Yo dC)) dX))))) jj) (fJ (jk (gJ b.units (Yo (gh (Yi 4) (Yo dC))) (Yo dC)) (gK (l8 (pb (Ym (pd nA nZ rfl a.Tuple boot_tuple (eS (Yo (kC (l7 n8 n9 rfl a.Sorted boot_sorted (eS (Yi 6) fy)))) fy)) (Ym Ms dX))))) jj) (fJ (jk (gJ b.units (Yo (gh (Yi 4) (Yo dC))) (Yo dC)) (gK (Dz 6 aBa.nd (Mu (fl:=(some (aaa 1))) (fh:=none) (Yi 6) (pa (Yo dC)) o_))) jj) (gK (l8 (pb (Ym (pd nA nZ rfl a.Tuple boot_tuple (eS (Yo (kC (l7 n8 n9 rfl a.Sorted boot_sorted (eS (Yi 6) fy)))) fy)) (Ym (l9 (Yi 2) (Yo (gh (Yo (uS (Yi 4) (Yo dC))) (Yo (uR (Yi 3) (Yi 2)))))) dX)))))))))))))))
def XW:Fs 3 85 ["book","hands","start","found"]:=aM
@[simp] def XX:AR:=ah (b2 (aa 3) (aaa 0) ao)
@[simp] def XY:AR:=ag (aV (f6 (d8 (b1 (mB (b1 (aa 3) (f_ "tuple"))) aQ)) (b2 (cC (Yb (aa 3) ae) aU) (aaa 2) (aI true))) (ah (kD (.str "nobody"))) aw) XX
def OA:AR:=ag (aq 3 (cC (Yb (ab 0) (Yb (ab 1) (Yb (ab 2) ae))) xq)) XY
def gn:AN->Option D:=aj 3 4 OA
def xA:aN P w K mg base 8 3 "_law_hand" ["book","hands","start"] gn:=by
 exists bl.f85,XW,Xq bl
def XZ:dI ["self","book","hands"] ["self","book","hands"] (aDa (inClass (top 78) 0)):=aM
def X0:Hm:=qP 0 "truths" ["Watch"]
def X1:Hm:=bB (kX 0 "hands" ["Watch"] (cC (Yb (aa 2) ae) a9)) X0
def X2:Hm:=bB (kX 0 "book" ["Watch"] (ab 1)) X1
def X3:Hm:=bB (fN (kA (cC (Yb (ab 1) (Yb (ab 2) ae)) k9))) X2
def rO:Hf:=eI 3 X3
def X4:Fi P w K mg base 4 3 "Watch" ["self","book","hands"] [] rO:=by
 refine Fv bl.i_Watch bl.c_Watch XZ (λhr=>?_)
 exists XA bl
def X5:dI ["self"] ["self"] (aDa (inClass (top 78) 1)):=aM
def GQ:AR:=ag (aV (b2 (cC (Yb (b1 (ab 0) (cQ "Watch" "truths")) ae) aU) (cC (Yb (b1 (ab 0) (cQ "Watch" "hands")) ae) aU) (aI false)) (ah (kD .non)) aw) (ah (b2 (b1 (ab 0) (cQ "Watch" "hands")) (cC (Yb (b1 (ab 0) (cQ "Watch" "truths")) ae) aU) ao))
def gQ:AN->Option D:=aj 1 1 GQ
def GR(bl:Bl K w mg){c:Str}(F:Mq K c "turn" "Watch.turn" (inClass (top 78) 1)):gm P w K mg base 1 c "turn" ["self"] (cx K 1 gQ):=by
 refine kL F X5 λhr=>?_
 exists rfl
def X6:dI ["self"] ["self"] (aDa (inClass (top 78) 4)):=aM
def xB:AR:=ag (aV (b2 (b1 (ab 0) (cA "Watch" "turn" gQ)) (kD .non) (bU true)) (ah (kD .non)) aw) (ah (i0 (b1 (cC (Yb (b1 (ab 0) (cQ "Watch" "book")) (Yb (b1 (ab 0) (cQ "Watch" "truths")) ae)) wL) aQ) (kD (.str "keeper")) (kD (.str "storm"))))
def la:AN->Option D:=aj 1 1 xB
def OB(bl:Bl K w mg){c:Str}(F:Mq K c "winner" "Watch.winner" (inClass (top 78) 4)):gm P w K mg base 5 c "winner" ["self"] (cx K 1 la):=by
 refine kL F X6 λhr=>?_
 exists GR bl bl.r_Watch_turn,FY bl
def X7:dI ["self","lit"] ["self","lit"] (aDa (inClass (top 78) 5)):=aM
def X8:Hm:=kR (vW (b1 (ab 0) (cA "Watch" "winner" la)))
def X9:Hm:=bB (qQ 0 (ab 1)) X8
def X_:Hm:=bB (fN (aV (b_ (b2 (aa 1) (kD (.bl true)) (oT true)) (b2 (aa 1) (kD (.bl false)) (oT true))) nS aw)) X9
def YA:Hm:=bB (vT (vX (b2 (b1 (ab 0) (cA "Watch" "turn" gQ)) (kD .non) (bU false))) (fN nS) iE) X_
def rP:Hf:=eI 2 YA
def YB(bl:Bl K w mg){c:Str}(F:Mq K c "settle" "Watch.settle" (inClass (top 78) 5)):gm P w K mg base 6 c "settle" ["self","lit"] (kT K 2 rP):=by
 refine Fu F X7 λhr=>?_
 exists GR bl bl.r_Watch_turn,OB bl bl.r_Watch_winner
def OC:dI ["self","book","beacon","lit"] ["self"] (aDa (inClass (top 78) 3)):=aM
def xC:AR:=aq 1 (cC (Yb (ab 1) (Yb (ab 2) (Yb (ab 3) ae))) iG)
@[simp] def YC:AR:=ah (ab 1)
@[simp] def YD:AR:=ag (a_ (b1 (b1 (ab 0) (cQ "Watch" "truths")) fH) (ez 2 3) xC) YC
def OD:AR:=ag (aq 1 (b1 (ab 0) (cQ "Watch" "book"))) YD
def jx:AN->Option D:=aj 1 4 OD
def OE(bl:Bl K w mg){c:Str}(F:Mq K c "left" "Watch.left" (inClass (top 78) 3)):gm P w K mg base 5 c "left" ["self"] (cx K 1 jx):=by
 refine kL F OC λhr=>?_
 exists OC,Ga bl
def aCa:Fs 3 86 ["book","hands","lights","watch","beacon","left","hand","dark","lit","due"]:=aM
noncomputable def GS:List (Str×Hf):=[("Watch",rP)]
def YE(a:Bl K w mg):OkTb P w K mg base 6 "settle" (kT K 2) GS:=⟨⟨_,Fp (YB a a.r_Watch_settle)⟩,trivial⟩
def OF:Hm:=Nt (kU "settle" GS (ab 3) (Yb (mB (b2 (b2 (b2 (aa 2) (b2 (aa 4) (aaa 59) a8) eE) (aaa 2) a8) (aaa 1) (aI false))) ae))
def OG:Hm:=bB (vT (vX (f6 (b2 (aa 6) (aa 9) (aI true)) (f6 (b2 (aa 7) (kD (.str "nobody")) (aI false)) (f6 (b2 (aa 8) (kD (.str "nobody")) (aI false)) (b2 (b1 (ab 3) (cA "Watch" "turn" gQ)) (b2 (aa 1) (aa 4) ao) (aI true)))))) (fN (ah (kD (.bl false)))) iE) OF
def OH:Hm:=bB (fN (aV (f6 (b2 (aa 7) (b2 (aa 1) (aa 4) ao) (aI false)) (b2 (aa 8) (b2 (aa 1) (aa 4) ao) (aI false))) (aq 9 (b2 (aa 1) (aa 4) ao)) aw)) OG
def OI:Hm:=bB (fN (aq 9 (ic ["keeper","storm"] [kD (.str "storm"),kD (.str "keeper")] (b2 (aa 1) (aa 4) ao)))) OH
def OJ:Hm:=bB (fN (aq 8 (cC (Yb (cC (Yb (ab 5) (Yb (ab 4) (Yb (kD (.bl true)) ae))) iG) (Yb (ab 1) (Yb (b2 (aa 4) (aaa 1) cM) ae))) gn))) OI
def OK:Hm:=bB (fN (aq 7 (cC (Yb (cC (Yb (ab 5) (Yb (ab 4) (Yb (kD (.bl false)) ae))) iG) (Yb (ab 1) (Yb (b2 (aa 4) (aaa 1) cM) ae))) gn))) OJ
def GU:Hm:=bB (fN (aq 6 (cC (Yb (ab 5) (Yb (ab 1) (Yb (ab 4) ae))) gn))) OK
def GV:Hm:=bB (iF 5 (NB (b1 (ab 3) (cA "Watch" "left" jx)))) GU
def OL:Hm:=kR (vW (mB (b2 (b1 (ab 3) (cA "Watch" "winner" la)) (cC (Yb (b1 (ab 3) (cA "Watch" "left" jx)) (Yb (ab 1) (Yb (cC (Yb (aa 1) ae) aU) ae))) gn) (aI false))))
def OM:Hm:=bB (kM (cF (Yb (cC (Yb (aa 1) ae) aU) ae) dh) (ai 4) GV) OL
def YF:Hm:=bB (iF 3 (kW "Watch" true [] [] (Yb (ab 0) (Yb (ab 1) ae)) rO)) OM
def ON:AR:=qS YF
def rQ:AN->Option D:=aj 3 10 ON
theorem YG(b:Bl K w mg):aN P w K mg base 9 3 "_law_steps" ["book","hands","lights"] rQ:=by
 refine cZ b.f86 aCa λa=>?_;exact(Fo (gP (Nw 3 aCa.nd (Fj true [] (X4 b) a rfl (Ym (dB 0) (Ym (dB 1) dX)) Uu)) (gP (Fe je rfl (uT rfl b.Range (Ym (ji tL t8 rfl b.Len PySem.boot_len (eS (Yi 1) fy)) dX)) (uU 4 aCa.nd) (gP (Nw 5 aCa.nd (Ur (qL (OE b b.r_Watch_left) a (dB 3)))) (gP (kO (gL 6 aCa.nd (jl (xA b) a rfl (Ym (dB 5) (Ym (dB 1) (Ym (dB 4) dX))) jt))) (gP (kO (gL 7 aCa.nd (jl (xA b) a rfl (Ym (jl (Ga b) a rfl (Ym (dB 5) (Ym (dB 4) (Ym uQ dX))) jt) (Ym (dB 1) (Ym (l9 (Yi 4) (Yo dC)) dX))) jt))) (gP (kO (gL 8 aCa.nd (jl (xA b) a rfl (Ym (jl (Ga b) a rfl (Ym (dB 5) (Ym (dB 4) (Ym uQ dX))) jt) (Ym (dB 1) (Ym (l9 (Yi 4) (Yo dC)) dX))) jt))) (gP (kO (gL 9 aCa.nd (DK a.units [Str.ofString "keeper",Str.ofString "storm"] [(kD (.str "storm")),(kD (.str "keeper"))] (by decide +kernel) (by decide) (by decide) (MK i_ (MK i_ DJ)) (Yo (kB (Yi 1) (Yi 4)))))) (gP (kO (jk (D5 (o9 (gJ a.units (Yi 7) (Yo (kB (Yi 1) (Yi 4)))) (Do (gJ a.units (Yi 8) (Yo (kB (Yi 1) (Yi 4))))))) (gK (gL 9 aCa.nd (kB (Yi 1) (Yi 4)))) jj)) (gP (qN (Nv (D5 (o9 (Dj a.units (Yi 6) (Yi 9)) (o9 (gJ a.units (Yi 7) (Yo i_)) (o9 (gJ a.units (Yi 8) (Yo i_)) (Do (Dj a.units (Yo (qL (GR b b.r_Watch_turn) a (dB 3))) (Yo (kB (Yi 1) (Yi 4)))))))))) (vU (kO (l8 uQ))) Np) (vU (Ff (Fh (YE b) a (dB 3) (Ym (o8 a.units (Yo (gh (Yo (DZ (Yi 2) (Yo (gh (Yi 4) (Yo dC))))) (Yo dC))) (Yo dC)) dX) Fz))))))))))) (vU (Nx (Nu (o8 a.units (Yo (qL (OB b b.r_Watch_winner) a (dB 3))) (Yo (jl (xA b) a rfl (Ym (qL (OE b b.r_Watch_left) a (dB 3)) (Ym (dB 1) (Ym (ji tL t8 rfl b.Len PySem.boot_len (eS (Yi 1) fy)) dX))) jt)))))))))
def rR:Fs 1 87 ["script","many","hands","way","far","k","kind","rules"]:=aM
def GW:Cs ["script","many","hands","way","far","k","kind","rules"] 87 ["cell","kind","far"] [none,some 6,some 4] [("cell",0),("_law_rule",2),("far",1),("kind",1)]:=cg
def GX:AU:=cC (Yb (ab 1) (Yb (ab 0) (Yb (aaa 0) (Yb (ab 2) ae)))) rN
def OO:AR:=ah (cC (Yb (ar (Yb (ab 6) (Yb (cC (Yb (aa 7) ae) a9) ae))) (Yb (ab 2) (Yb (b2 (aa 3) (aaa 1024) dg) ae))) rQ)
def OP:AR:=ag (bb 7 (bu (b1 (lF (t6 (aa 0) (some (aaa 3)) (some (b2 (aaa 3) (b2 (b2 (aa 3) (aaa 16) dg) (aaa 13) a8) cM)))) Yc) [none,some 6,some 4] (ai 0) tY (GX))) OO
def OQ:AR:=ag (aq 6 (b2 (lF (bE (Yb (kD (.str "ifs")) (Yb (kD (.str "sums")) (Yb (kD (.str "nots")) (Yb (kD (.str "eithers")) ae)))))) (aa 5) ao)) OP
def OR:AR:=ag (aq 5 (b2 (b2 (aa 3) (aaa 4) dg) (aaa 4) a8)) OQ
def OS:AR:=ag (aq 4 (cC (Yb (aa 1) (Yb (b2 (lF (bE (Yb (aaa 2) (Yb (aaa 4) (Yb (aaa 8) (Yb (aaa 30) ae)))))) (b2 (aa 3) (aaa 4) a8) ao) ae)) fm)) OR
def OT:AR:=ag (aq 3 (cC (Yb (cC (Yb (ab 0) (Yb (aaa 2) ae)) k_) (Yb (aaa 1865811235122147685) ae)) my)) OS
def OU:AR:=ag (aq 2 (cC (Yb (cC (Yb (ab 0) (Yb (aaa 1) ae)) k_) (Yb (ab 1) ae)) xu)) OT
def lb:AR:=ag (aq 1 (b2 (aaa 1) (b2 (cC (Yb (ab 0) (Yb (aaa 0) ae)) k_) (aaa 12) a8) cM)) OU
def mz:AN->Option D:=aj 1 8 lb
def GY(bl:Bl K w mg)(F:Fun K "law" "law" (top 87) a e):FnOk P w K mg base cJ 10 a e ["script"] (cx K 1 mz):=by
 refine DF F rR rfl rfl λd A c s H E hr=>?_
 exists rR,XC bl,XG bl,GP bl,GW,XU bl,YG bl
end
abbrev OV:Nat:=10
theorem all_mk{l:W.OpenLaw}{w:World}{K:W7}{h:Heap}{mg:AD}{fa ud:Addr}(X:K.In h)(G:h.Ns mainGlobals mg)(hfa:mg "law"=some (.ref fa)){ut ug:Option Addr}{uu:Array (Option Value)}{uv uh ui uj ub uk:Value}(F_contrary:Fk K "contrary" 2)(F_led_to:Fk K "led_to" 3)(F_traced:Fk K "traced" 4)(F_ways_from:Fk K "ways_from" 5)(y:Fk K "exchanged_rule" 8)(F_exchanged:Fk K "exchanged" 9)(E:Fk K "beacons_with" 12)(F_both_added:Fk K "both_added" 14)(Q:Fk K "pairs_added" 15)(F_cleared:Fk K "cleared" 16)(F_reduced:Fk K "reduced" 17)(I:Fk K "either_holds" 25)(F_sum_holds:Fk K "sum_holds" 26)(F_if_holds:Fk K "if_holds" 27)(F_rule_holds:Fk K "rule_holds" 28)(J:Fk K "broken_rules" 29)(F_holds:Fk K "holds" 30)(F_beacons_in:Fk K "beacons_in" 31)(F_beacons_of:Fk K "beacons_of" 32)(F_is_void:Fk K "is_void" 33)(F_without:Fk K "without" 34)(F_either_left:Fk K "either_left" 35)(F_sum_left:Fk K "sum_left" 36)(F_if_left:Fk K "if_left" 37)(F_rule_left:Fk K "rule_left" 38)(R:Fk K "left_behind" 39)(F_is_place:Fk K "is_place" 41)(z:Fk K "body_is_known" 42)(F_is_step:Fk K "is_step" 43)(F:Fk K "step_to_more" 44)(t:Fk K "derived_in_full" 45)(F_is_broken:Fk K "is_broken" 47)(F_sayings_of:Fk K "sayings_of" 49)(c:Fk K "lead_to_one_another" 50)(S:Fk K "clash_found" 51)(F_cross_found:Fk K "cross_found" 52)(F_late_found:Fk K "late_found" 53)(O:Fk K "storms_paper" 54)(T:Fk K "free_saying" 55)(V:Fk K "truths_made" 56)(F_plan_row:Fk K "plan_row" 57)(u:Fk K "either_outcome" 58)(F_replaced:Fk K "replaced" 60)(F_ahead_of:Fk K "ahead_of" 61)(x:Fk K "places_to_none" 63)(r:Fk K "places_to_beacon" 64)(F_some_of:Fk K "some_of" 65)(L:Fk K "facts_beside" 66)(F_if_outcome:Fk K "if_outcome" 67)(F_last_beacon:Fk K "last_beacon" 69)(B:Fk K "storms_places" 70)(F_sum_rows:Fk K "sum_rows" 71)(Y:Fk K "sum_outcome" 72)(F_outcome:FkD K "outcome" 74)(F_is_hand:Fk K "is_hand" 76)(Z:Fk K "check_hands" 77)(F_law_cell:Fk K "_law_cell" 80)(F_law_mixed:Fk K "_law_mixed" 81)(F_law_hands:Fk K "_law_hands" 82)(F_law_rule:Fk K "_law_rule" 84)(F_law_hand:Fk K "_law_hand" 85)(F_law_steps:Fk K "_law_steps" 86)(uw:W.nsIn K mainGlobals "law"=some (some (.ref ud)))(ux:K.lookup ud=some ⟨uv,ut,.func (W.fnOf "law" "law" (aGa (top 87)) (aFa (top 87)) (aDa (top 87)) .none uh ui uj ug ub uk),uu⟩)(uy:W.codeIn K ub "law"=true)(uz:W.keepIn K (.ref ud)=true)(R_Watch_left:Mq K "Watch" "left" "Watch.left" (inClass (top 78) 3))(N:Mq K "Watch" "settle" "Watch.settle" (inClass (top 78) 5))(R_Watch_turn:Mq K "Watch" "turn" "Watch.turn" (inClass (top 78) 1))(H:Mq K "Watch" "winner" "Watch.winner" (inClass (top 78) 4))(I_Watch:vY K "Watch" "Watch.__init__" (inClass (top 78) 0))(N_Watch_book:Nq K "Watch" "book")(U:Nq K "Watch" "hands")(M:Nq K "Watch" "truths"){A:Tok}(D:W.nsIn K mainGlobals "BEACON_COUNT"=some (some (.int 60 A))){b:Addr}{o:_}{f k n m j d g i:_}(q:W.nsIn K mainGlobals "EXCHANGED_KINDS"=some (some (.ref b)))(p:K.lookup b=some ⟨.type "dict",none,.dict #[⟨PyData.keyHash w.params (Str.ofString "eithers"),.str "eithers" f,.str "eithers" k⟩,⟨PyData.keyHash w.params (Str.ofString "sums"),.str "sums" n,.str "sums" m⟩,⟨PyData.keyHash w.params (Str.ofString "ifs"),.str "ifs" j,.str "nots" d⟩,⟨PyData.keyHash w.params (Str.ofString "nots"),.str "nots" g,.str "ifs" i⟩] o,#[]⟩){uc:Addr}{ul:_}{um:_}{uo:_}{ue uf:_}(uq:W.nsIn K mainGlobals "HANDS"=some (some (.ref uc)))(ur:K.lookup uc=some ⟨.type "tuple",ul,.seq #[.str "keeper" ue,.str "storm" uf] um,uo⟩)(z_len:W.nsIn K mainGlobals "len"=some none)(z_range:W.nsIn K mainGlobals "range"=some none)(z_list:W.nsIn K mainGlobals "list"=some none)(z_tuple:W.nsIn K mainGlobals "tuple"=some none)(z_str:W.nsIn K mainGlobals "str"=some none)(z_sorted:W.nsIn K mainGlobals "sorted"=some none)(z_any:W.nsIn K mainGlobals "any"=some none)(z_all:W.nsIn K mainGlobals "all"=some none)(z_isinstance:W.nsIn K mainGlobals "isinstance"=some none)(z_enumerate:W.nsIn K mainGlobals "enumerate"=some none)(z_reversed:W.nsIn K mainGlobals "reversed"=some none)(z_set:W.nsIn K mainGlobals "set"=some none)(z_min:W.nsIn K mainGlobals "min"=some none)(z_dict:W.nsIn K mainGlobals "dict"=some none): ∃fd:FuncData,(∀(s:Shared) (v:Value),BindsTo s fd ⟨[v],[]⟩ [("script",v)])/\∀base:Heap,K.In base->base.Ns mainGlobals mg->FnOk l.prog w K mg base cJ OV fa fd ["script"] (cx K 1 mz):=by
 have e:=hfa.symm.trans (W.mg_of X G uw);cases e
 have bl:Bl K w mg:=⟨W.mg_none_of X G z_len,W.mg_none_of X G z_range,W.mg_none_of X G z_list,W.mg_none_of X G z_tuple,W.mg_none_of X G z_str,W.mg_none_of X G z_sorted,W.mg_none_of X G z_any,W.mg_none_of X G z_all,W.mg_none_of X G z_isinstance,W.mg_none_of X G z_enumerate,W.mg_none_of X G z_reversed,W.mg_none_of X G z_set,W.mg_none_of X G z_min,W.mg_none_of X G z_dict,⟨_,W.mg_of X G D⟩,⟨_,_,_,_,W.mg_of X G q,p,⟨rfl,rfl,rfl⟩,rfl,.cons ⟨rfl,⟨_,rfl⟩,⟨_,rfl⟩,by decide +kernel⟩ (.cons ⟨rfl,⟨_,rfl⟩,⟨_,rfl⟩,by decide +kernel⟩ (.cons ⟨rfl,⟨_,rfl⟩,⟨_,rfl⟩,by decide +kernel⟩ (.cons ⟨rfl,⟨_,rfl⟩,⟨_,rfl⟩,by decide +kernel⟩ .nil)))⟩,⟨_,_,_,_,W.mg_of X G uq,ur,rfl,rfl,.cons ⟨⟨_,rfl⟩,by decide +kernel⟩ (.cons ⟨⟨_,rfl⟩,by decide +kernel⟩ .nil)⟩,F_contrary.on X G,F_led_to.on X G,F_traced.on X G,F_ways_from.on X G,y.on X G,F_exchanged.on X G,E.on X G,F_both_added.on X G,Q.on X G,F_cleared.on X G,F_reduced.on X G,I.on X G,F_sum_holds.on X G,F_if_holds.on X G,F_rule_holds.on X G,J.on X G,F_holds.on X G,F_beacons_in.on X G,F_beacons_of.on X G,F_is_void.on X G,F_without.on X G,F_either_left.on X G,F_sum_left.on X G,F_if_left.on X G,F_rule_left.on X G,R.on X G,F_is_place.on X G,z.on X G,F_is_step.on X G,F.on X G,t.on X G,F_is_broken.on X G,F_sayings_of.on X G,c.on X G,S.on X G,F_cross_found.on X G,F_late_found.on X G,O.on X G,T.on X G,V.on X G,F_plan_row.on X G,u.on X G,F_replaced.on X G,F_ahead_of.on X G,x.on X G,r.on X G,F_some_of.on X G,L.on X G,F_if_outcome.on X G,F_last_beacon.on X G,B.on X G,F_sum_rows.on X G,Y.on X G,F_outcome.on X G,F_is_hand.on X G,Z.on X G,F_law_cell.on X G,F_law_mixed.on X G,F_law_hands.on X G,F_law_rule.on X G,F_law_hand.on X G,F_law_steps.on X G,R_Watch_left,N,R_Watch_turn,H,I_Watch,N_Watch_book,U,M,λC h=>W.mg_of X G h⟩
 have u0:=nE ux uy uz;refine⟨W.fnOf "law" "law" (aGa (top 87)) (aFa (top 87)) (aDa (top 87)) .none uh ui uj ug ub uk,λs v=>.of_eq rfl,λbase _ _=>?_⟩;exact GY bl u0
theorem walk(e:∀ns:AF,ns.length<=63->mz [.scr ns]=some (.bl true)){l:W.OpenLaw}{K:Params->W7}(p:l.most=some 63)(j:d.params.defaults=[])(n:∀(w:World) (h:Heap),YP w h->(K w.params).In h)(F:∀(w:World) (i:AD) (m:Addr) (h:Heap),(K w.params).In h->h.Ns mainGlobals i->i d.name=some (.ref m)->
  ∃k:FuncData,(∀(s:Shared) (u:Value),BindsTo s k ⟨[u],[]⟩ [("script",u)])/\∀c:Heap,(K w.params).In c->c.Ns mainGlobals i->FnOk l.prog w (K w.params) i c cJ OV m k ["script"] (cx (K w.params) 1 mz)):
 W.WalkO q loose XP YP l.row.toRowW d [] (λf vs=>PySem.call f vs):=
 L2.walk_of p (by decide) j ⟨rfl,by decide,by decide⟩ n F
  (λw H a ns o _ t=>⟨rfl,[.scr ns],.bl _,H,.refl H,.one (by rw[Rp];grind),e ns o,λv y x g r=>r⟩) λ_ _ _ _ _ z=>z
end Lw
namespace Lw
open PySem L2 M Bk
theorem OW:∀(l a:AF) (x:Int),x∈aR a l↔x∈a\/x∈l
 | [],a,x=>by simp[aR]
 | k::l,a,x=>by
   rw[aR,OW];by_cases h:k∈a
   .rw[if_pos h]
    simp;constructor
    .rintro(b|b)
     .exact .inl b
     .exact .inr (.inr b)
    .rintro(b|b|b)
     .exact .inl b
     .subst b;exact .inl h
     .exact .inr b
   .rw[if_neg h]
    simp[or_assoc]
theorem OX:∀(l a:AF),a.Nodup->(aR a l).Nodup
 | [],_,h=>h
 | k::l,a,h=>by
   refine OX l _ ?_;by_cases b:k∈a
   .rwa [if_pos b]
   .rw[if_neg b,List.nodup_append]
    refine⟨h,by simp,λx d y c z=>?_⟩;simp at c;subst c;exact b (z ▸ d)
theorem GZ{n:Nat}(hn:n<64)(l:AE)(h:∀x∈l,x<n)(u:l.length<4000):∃b:AE,b.Pairwise (·<·)/\(∀x,x∈b↔x∈l)/\oY (l.map nD)=some (b.map nD):=by
 have t:l.map nD=(l.map .ofNat).map .int:=by simp[wv]
 generalize hd:aR [] (l.map .ofNat)=d
 have p:d.Nodup:=by rw[<-hd];exact OX _ _ .nil
 have c:∀x,x∈d↔∃y∈l,y=x:=λx=>by rw[<-hd,OW];simp
 have i:=Yx d;have q:=gF d
 obtain⟨b,j⟩:∃b:AE,c6 d=b.map .ofNat:=by
  refine⟨(c6 d).map Int.toNat,?_⟩;rw[Qf];refine(List.map_id _).symm.trans (Qq λx k=>?_);obtain⟨y,_,rfl⟩:=(c x).mp (i.mem_iff.mp k);simp[wv]
 have e:∀x,x∈b↔x∈l:=λx=>by
  have s:x∈b↔(x:Int)∈c6 d:=by
   rw[j];constructor
   .exact λh=>Qs h
   .intro h
    obtain⟨y,o,f⟩:=qy h
    have:=by simpa using f
    exact this ▸ o
  rw[s,i.mem_iff,c];constructor
  .rintro⟨y,o,f⟩
   have:y=x:=by lia
   exact this ▸ o
  .exact λh=>⟨x,h,rfl⟩
 have g:=by
  rw[j]at i q
  have m:b.Nodup:=by
   have:=i.nodup_iff.mpr p;rw[List.nodup_iff_pairwise_ne,List.pairwise_map]at this;exact this.imp λh z=>h (by rw[z])
  exact(((List.pairwise_map.mp q).imp λh=>by simpa using h).and m).imp λh=>Nat.lt_of_le_of_ne h.1 h.2
 have r:d.length<=n:=by
  rw[<-i.length_eq,j,qf];exact EJ g λx k=>h x ((e x).mp k)
 refine⟨b,g,e,?_⟩;unfold oY;rw[t,mi];dsimp only;rw[if_pos ⟨by rwa [qf],by lia⟩,hd,j];simp[wv]
def G6(ns:AF)(k:Nat):k_ [.scr ns,.int k]=some (.int (ns.getD k 0)):=by
 rw[k_,Yj (by rfl)];by_cases h:k<ns.length
 .have e:bD (ns.map D.int) k=some (.int ns[k]):=by
   rw[gN,mh h];rfl
  simp[GO,Yd,h,e]
 .simp[GO,Yd,h]
def G7(ns:AF)(k:Nat)(i:Int)(a:i=(k:Int)):k_ [.scr ns,.int i]=some (.int (ns.getD k 0)):=by
 subst a;exact G6 ns k
def G8(ns:AF)(a b:Nat):bN (ns.map D.int) (some (a:Int)) (some (b:Int))=((ns.drop (min a ns.length)).take (min b ns.length-min a ns.length)).map D.int:=by
 unfold bN;rw[HT.sIx_nat,HT.sIx_nat];simp
theorem drawn{fe:AU}{r:Ro}{P:Rl->Prop}(h:∀c:Int,∃x:Rl,P x/\fe (some (.sh (.int c))::r)=some (aK x)):∀a:AF,∃R:List Rl,R.length=a.length/\(∀x∈R,P x)/\cT (ai 0) tY fe (none::r) (a.map D.int)=some (R.map aK)
 | []=>⟨[],rfl,λ_ h=>(nomatch h),rfl⟩
 | c::a=>by
   obtain⟨R,i,f,e⟩:=drawn h a;obtain⟨x,d,g⟩:=h c;refine⟨x::R,by simp[i],λy b=>?_,?_⟩
   .rcases qu b with rfl|b
    .exact d
    .exact f y b
   .rw[Qd,cT,e]
    simp[g]
theorem G9(c m:Int):∃v:Int,0<=v/\my [.int c,.int m]=some (.int v):=by
 refine⟨c%2305843009213693951*m%2305843009213693951,Int.emod_nonneg _ (by decide),?_⟩;rw[my,Yj (by rfl)];have a:fZ (.int (c%2305843009213693951)) (.int m)=_:=Ek ⟨by lia,by lia⟩;simp[Oy,Yd,a]
section
variable {c:D}{ev:AG}(hc:Yc c=some (ev.map D.bl))
include hc
def YH(a:∀s∈l,s.1<ev.length):wG [aK (.ei l),c]=some (.bl (l.any λs=>at' ev s.1==s.2)):=by
 rw[wG,Yj (by rfl)]
 simp[NV,Yd,ak,dD (fe:=FR) (r:=[↑c]) (enc:=af) (λs=>.bl (at' ev s.1==s.2)) (l:=l) (λs b=>by
  simp[FR,hc,iw (a s b)])]
theorem YI(a:∀x∈b,x<ev.length):wH [aK (.su b o),c]=some (.bl (decide ((b.filter (at' ev)).length%2=1)==o)):=by
 have e:∀n:Nat,decide ((n:Int)%2=1)=decide (n%2=1):=λn=>by
  symm
 rw[wH,Yj (by rfl)]
 simp[NW,Yd,ak,gO (fc:=FS) (fe:=FT) (r:=[↑c]) (enc:=nD) (at' ev) nD (l:=b) (λs d=>by
  simp[FS,hc,iw (a s d)]) (λs _ _=>by simp[FT]),e]
def OY(d:∀x∈b,x<ev.length)(e:∀x,h=some x->x<ev.length):wJ [aK (.im b h),c,.bl w]=some (.bl ((b.any λx=>at' ev x != w)||hd ev w h)):=by
 have a:=dD (fe:=FU) (r:=[↑c,↑(.bl w)]) (enc:=nD) (λx=>.bl (at' ev x != w)) (l:=b) (λs i=>by
  simp[FU,hc,iw (d s i),bne])
 rw[wJ,Yj (by rfl)]
 cases f:(b.any _)with
 | true=>simp[wI,Yd,ak,a,f]
 | false=>
   cases h with
   | none=>simp[wI,Yd,ak,a,f,av,hd]
   | some x=>simp[wI,Yd,ak,a,f,av,hd,hc,iw (e x rfl)]
def OZ{r:Rl}(d:In k ev.length r):qY [bf k,aK r,c]=some (.bl (so k ev r)):=by
 rw[qY,Yj (by rfl)]
 cases r with
 | ei l=>
   obtain⟨rfl,a⟩:=d;simp[qX,Yd,YH hc a,so]
 | su b o=>
   obtain⟨rfl,a⟩:=d;simp[qX,Yd,YI hc a,so]
 | im b h=>
   obtain⟨f,a,e⟩:=d;rcases f with rfl|rfl
   .simp[qX,Yd,OY hc a e,so]
   .simp[qX,Yd,OY hc a e,so]
end
section
variable {c:D}{ev:AG}(hc:Yc c=some (ev.map D.bl))
include hc
theorem YJ{k:Kd}{R:List Rl}(b:∀r∈R,In k ev.length r):wK [Yl k R,c]=some (.lst ((brk k ev R).map nD)):=by
 rw[wK,Yj (by rfl)]
 simp[NY,Yd,ak,EG,Ez (fc:=FV) (fe:=FW) (r:=[↑(Yl k R),↑c]) (e1:=λi:Nat=>.int i) (e2:=λi=>aK (ix R i)) (λi=>!so k ev (ix R i)) nD (l:=.range R.length) (λi a=>by
  simp[FV,OZ hc (b (ix R i) (M8 (Qb a)))]) (λi _ _=>by simp[FW]),brk]
end
section
variable {c:D}{ev:AG}(hc:Yc c=some (ev.map D.bl))
include hc
def G_{k:Kd}{R:List Rl}(a:∀r∈R,In k ev.length r):wL [Yl k R,c]=some (.bl (decide (brk k ev R=[]))):=by
 rw[wL,Yj (by rfl)];simp[NZ,Yd,YJ hc a]
end
theorem Hc{r:Rl}(f:In k n r)(hs:sz r<=999999):mr [bf k,aK r]=some (.lst ((bZ r).map nD)):=by
 rw[mr,Yj (by rfl)]
 cases r with
 | ei l=>
   obtain⟨rfl,_⟩:=f;have h:=dD (fe:=FZ) (r:=[]) (enc:=af) (λs=>nD s.1) (l:=l) (λs _=>by simp[FZ]);simp[wM,Yd,ak,h,bZ,wv]
 | su b o=>
   obtain⟨rfl,_⟩:=f;constructor<;>lia
 | im b h=>
   obtain⟨g,_⟩:=f
   have c:¬k=.e:=by grind
   have d:¬k=.s:=by grind
   have e:b.length+1<=1000000:=by simp[sz]at hs;ext
   cases h with
   | none=>simp[wM,Yd,bZ,c,av]
   | some x=>simp[wM,Yd,bZ,c,d,av,cY,e]
def Hg(r:Rl):(bZ r).length<=sz r+1:=by
 cases r with
 | ei l=>simp[bZ,sz]
 | su l o=>simp[bZ,sz]
 | im l h=>cases h<;>simp[bZ,sz]
theorem YK{k:Kd}{n m:Nat}(t:n<64){R:List Rl}(o:∀r∈R,In k n r/\sz r+1<=m)(A:R.length*m<4000):∃l:AE,l.Pairwise (·<·)/\(∀x,x∈l↔∃r∈R,x∈bZ r)/\wN [Yl k R]=some (.lst (l.map nD)):=by
 obtain⟨E,D,f,y,b,d,rfl⟩:=gM (gt:=ai 2) (fb:=F1) aK (λc C=>∃(f:AE) (y:AQ),f=c.flatMap bZ/\f.length<=c.length*m/\
  C=[↑(Yl k R),some (.ow (f.map nD)),y]) R [] [some _,some (.ow []),none] ⟨[],none,rfl,by simp,rfl⟩ (by
  rintro q a r C e ⟨f,y,b,d,rfl⟩
  have u:a∈R:=by rw[Qj]at e;rw[e];simp
  obtain⟨i,p⟩:=o a u
  have v:q.length<R.length:=by rw[Qj]at e;rw[e];simp
  have j:=by
   have:=Nat.mul_le_mul_right m (v);exact this
  have z:=Hg a
  have g:f.length+(bZ a).length<=1000000:=by lia
  refine⟨_,_,rfl,?_,f++bZ a,↑(aK a),by rw[b];simp,?_,rfl⟩
  .simp[F1,Hc i (by lia),eC,g]
  .simp
   lia)
 rw[Qj]at b d
 obtain⟨l,i,p,s⟩:=GZ t f (λx h=>by
  rw[b]at h;obtain⟨r,w,h⟩:=List.mem_flatMap.mp h
  exact qD (o r w).1 x h) (by lia)
 refine⟨l,i,λx=>?_,?_⟩
 .rw[p,b,List.mem_flatMap]
 .rw[wN,Yj (by rfl)]
  simp[N0,Yd,D,s]
theorem O0(l:AE)(b:Nat):jw [.tup (l.map nD),.int (b:Int)]=some (.tup ((Bk.wo b l).map nD)):=by
 rw[jw,Yj (by rfl)]
 simp[F3,Yd,ak,gO (fc:=qZ) (fe:=q0) (r:=[↑(.int b)]) (enc:=nD) (λx=>!decide (x=b)) nD (l:=l) (λx _=>by
  simp[qZ]) (λx _ _=>by simp[q0]),Bk.wo]
theorem YL(l:AX)(b:Nat)(e:Bool):wQ [aK (.ei l),.int (b:Int),.bl e]=some (bS (bC .e b e (.ei l))):=by
 have c:.tup _=af (b,e):=rfl;have a:=p_ (c:=aK (.ei l)) (b,e) l false rfl;rw[wQ,Yj (by rfl)];by_cases d:(b,e)∈l
 .simp[F7,Yd,c,a,d,bC,bS]
 .simp[F7,Yd,ak,c,a,d,bC,bS,gO (fc:=F5) (fe:=F6) (r:=[↑(.int b)]) (enc:=af) (λs=>!decide (s.1=b)) af (l:=l) (λx _=>by
  simp[F5]) (λx _ _=>by simp[F6]),qC,M9]
def YM(l:AE)(o:Bool)(b:Nat)(d:Bool)(e:b∈l):wR [aK (.su l o),.int (b:Int),.bl d]=some (bS (bC .s b d (.su l o))):=by
 have c:=O0 l b;rw[wR,Yj (by rfl),bC,if_pos e];generalize Bk.wo b l=q at c ⊢;unfold N3;rw[eh,show aq 3 _ (Yd 5 [aK (.su l o),.int (b:Int),.bl d])=some (.nx [↑(aK (.su l o)),↑(.int b),↑(.bl d),↑(.tup (q.map nD)),none]) by simp[Yd,c]];cases q<;>cases o<;>cases d<;>rfl
def YN(k:Kd)(l:AE)(h:AL)(b:Nat)(i:Bool):wU [aK (.im l h),.int (b:Int),.bl (i==decide (k=.i))]=some (bS (bC k b i (.im l h))):=by
 have f:=O0 l b;have a:=eG (c:=.tup _) b l false rfl;rw[wU,Yj (by rfl)];generalize g:(i==decide (k=.i))=w
 have d:(i=decide (k=.i))↔w=true:=by rw[<-g];simp
 rw[bC];simp [d];by_cases e:h=some b
 .by_cases c:b∈l
  .cases w<;>simp[q_,Yd,a,e,c,bS]
  .cases w<;>simp[q_,Yd,a,e,c,f,bS,EH]
 .by_cases c:b∈l
  .cases w<;>simp[q_,Yd,a,e,c,f,bS,M_]
  .cases w<;>simp[q_,Yd,a,e,c,f,bS,M_]
theorem YO{k:Kd}{n:Nat}{r:Rl}(d:In k n r)(hs:sz r<=999999)(b:Nat)(i:Bool):wV [bf k,aK r,.int (b:Int),.bl i]=some (bS (bC k b i r)):=by
 have j:=Hc d hs;have a:=eG (c:=.lst _) b (bZ r) true rfl;rw[wV,Yj (by rfl)];by_cases c:b∈bZ r
 .cases r with
  | ei l=>
    obtain⟨rfl,_⟩:=d;simp[rh,Yd,j,a,c,YL]
  | su l o=>
    obtain⟨rfl,_⟩:=d;simp[rh,Yd,j,a,c,YM l o b i c]
  | im l h=>
    obtain⟨g,_⟩:=d
    have f:¬k=.e:=by rcases g with rfl|rfl<;>decide
    have e:¬k=.s:=by rcases g with rfl|rfl<;>decide
    simp[rh,Yd,j,a,c,f,e,YN]
 .have:bC k b i r=_:=T4 c
  simp[rh,Yd,j,a,c,this,bS]
theorem O1{k:Kd}{n:Nat}{R:List Rl}(f:∀r∈R,In k n r)(hs:∀r∈R,sz r<=999999)(b:Nat)(a:Bool):iG [Yl k R,.int (b:Int),.bl a]=some (Yl k (R.filterMap (bC k b a))):=by
 have e:∀Q,cT _ _ _ _ _=_:=λQ=>by
  have:=gO (fc:=F9) (fe:=F_) (r:=[]) (enc:=bS) (λo=>o.isSome) bS (l:=Q) (λo _=>by
   cases o<;>simp[F9,bS]) (λo _ _=>by simp[F_])
  rw[this,kI]
 have c:=e (R.map (bC k b a));rw[iG,Yj (by rfl)];simp[wv]at c
 simp[N4,Yd,ak,dD (fe:=F8) (r:=[↑(Yl k R),↑(.int b),↑(.bl a)]) (enc:=aK) (λr=>bS (bC k b a r)) (l:=R) (λr d=>by
  simp[F8,YO (f r d) (hs r d)]),c,T3]
noncomputable def aP(s:aC):aC:=(s.1,!s.2)
theorem xD(s:aC):ju [af s]=some (af (aP s)):=by
 rw[ju,Yj (by rfl)];constructor<;>ac_nf
def lg:AX->AX
 | [a,b]=>if d9 b.1 b.2 a.1 a.2=true then [b,a]else [a,b]
 | l=>l
def Hh(h:l.length<=2):fG [.lst (l.map af)]=some ((lg l).map af):=by
 match l,h with
 | [],_=>rfl
 | [a],_=>rfl
 | [a,b],_=>
   have e:fG [.lst ([a,b].map af)]=some (if d9 b.1 b.2 a.1 a.2=true then _ else _):=rfl;rw[e,lg]
   split<;>rfl
theorem YQ{r:Rl}(b:In k n r)(hs:sz r<=999999):wO [bf k,aK r]=some (.bl (bQ (aK r) (aK (vd k)))):=by
 rw[wO,Yj (by rfl)];have d:=Hc b hs;by_cases a:bZ r=[]
 .have c:In k 0 r:=by
   cases r with
   | ei l=>
     simp[bZ]at a;subst a;exact⟨b.1,by simp⟩
   | su l o=>
     subst a;exact⟨b.1,by simp⟩
   | im l o=>
     cases o with
     | none=>
       subst a;exact⟨b.1,by simp,by simp⟩
     | some x=>simp[bZ]at a
  have f:=OZ (c:=.tup []) (ev:=[]) rfl c
  have e:bQ (aK r) (aK (vd k))=!so k [] r:=by
   cases r with
   | ei l=>
     obtain⟨rfl,_⟩:=b;simp[bZ]at a;subst a;simp[aK,vd,so]
   | su l o=>
     obtain⟨rfl,_⟩:=b;subst a;cases o<;>simp[aK,vd,so]
   | im l o=>
     cases o with
     | none=>
       subst a
       have:bQ .non .non=true:=by simp[bQ,aE,PyData.eqv]
       rcases b.1 with rfl|rfl<;>simp[aK,vd,so,av,hd,this]
     | some x=>simp[bZ]at a
  rw[a]at d;simp[F2,Yd,d,f,e]
 .have e:bQ (aK r) (aK (vd k))=false:=by
   cases r with
   | ei l=>
     obtain⟨rfl,_⟩:=b
     cases l with
     | nil=>simp[bZ]at a
     | cons s l=>simp[aK,vd]
   | su l o=>
     obtain⟨rfl,_⟩:=b
     cases l with
     | nil=>simp[bZ]at a
     | cons s l=>constructor<;>ac_nf
   | im l o=>
     have g:∀x,bQ (.int x) .non=false:=λx=>by simp[bQ,aE,PyData.eqv]
     cases l with
     | nil=>cases o with
       | none=>simp[bZ]at a
       | some x=>rcases b.1 with rfl|rfl<;>simp[aK,vd,av,g]
     | cons s l=>rcases b.1 with rfl|rfl<;>simp[aK,vd]
  simp[F2,Yd,d,a,e]
def lh:Rl->Rl
 | .ei l=>.ei (lg (l.map aP))
 | .su l o=>.su l (o != decide (l.length%2=1))
 | .im l h=>.im l h
def Hi:Kd->Kd
 | .e=>.e
 | .s=>.s
 | .i=>.n
 | .n=>.i
theorem YR{r:Rl}(h:In k n r)(hs:gj r):wB [bf k,aK r]=some (aK (lh r)):=by
 rw[wB,Yj (by rfl)]
 cases r with
 | ei l=>
   obtain⟨rfl,_⟩:=h;have b:=Hh (l:=l.map aP) (by simpa using hs.1);simp[wv]at b;simp[wA,Yd,ak,dD (fe:=FG) (r:=[]) (enc:=af) (λs=>af (aP s)) (l:=l) (λs _=>by simp[FG,xD]),b,lh,M9]
 | su l o=>
   obtain⟨rfl,_⟩:=h
   have e:((l.length:Int)%2=1)↔(l.length%2=1):=by constructor<;>lia
   simp[wA,Yd,lh];cases o<;>by_cases h:l.length%2=1<;>simp[aK,e]
 | im l h=>
   obtain⟨c,_⟩:=h;rcases c with rfl|rfl<;>simp[wA,Yd,lh]
def YS(k:Kd):ia gt_EXCHANGED_KINDS (bf k)=some (bf (Hi k)):=by
 have h:gt_EXCHANGED_KINDS.lookup (kS k)=some (kS (Hi k)):=by cases k<;>decide +kernel
 show(gt_EXCHANGED_KINDS.lookup _).map _=_;rw[h];rfl
def YT{R:List Rl}(h:∀r∈R,In k n r/\gj r):wC [Yl k R]=some (Yl (Hi k) (R.map lh)):=by
 rw[wC,Yj (by rfl)];simp[NO,Yd,Yl,ak,YS,dD (fe:=FH) (r:=[↑(bf k)]) (enc:=aK) (λr=>aK (lh r)) (l:=R) (λr b=>by simp[FH,YR (h r b).1 (h r b).2]),wv]
noncomputable def kn(b a:AE):Bool:=b.all λx=>decide (x∈a)
abbrev bL:=List Nat×AL
def dY(r:bL):D:=.tup [.tup (r.1.map nD),av r.2]
structure YU(r:bL):Prop where
 b:∀x∈r.1,x<60
 h:∀x,r.2=some x->x<60
 p:r.1.Pairwise (·<·)
 l:r.1.length<=3
@[simp] def rS(r:bL):Yc (dY r)=some [.tup (r.1.map nD),av r.2]:=nr rfl
def bg(R:List bL):D:=.tup [.str "ifs",.tup (R.map dY)]
@[simp] def YV(R:List bL):Yc (bg R)=some [.str "ifs",.tup (R.map dY)]:=nr rfl
def YW(r:bL)(fs:AE)(hd:Yc d=some (fs.map nD)):kZ [dY r,d]=some (.bl (kn r.1 fs)):=by
 rw[kZ,Yj (by rfl)];simp[wX,Yd,ak,dD (fe:=Yy) (r:=[↑d]) (enc:=nD) (λx=>.bl (decide (x∈fs))) (l:=r.1) (λx _=>by simp[Yy,eG x fs false hd]),kn]
def YX(R:List bL)(i:Int):wW [bg R,.int i]=some (.bl (decide (0<=i/\i<R.length))):=by
 rw[wW,Yj (by rfl)];by_cases h:0<=i<;>simp[N5,Yd,h]
noncomputable def aA(R:List bL)(i:Int):bL:=R.getD i.toNat ([],none)
theorem lj(h:0<=i/\i<R.length):bD (R.map dY) i=some (dY (aA R i)):=by
 rw[gN,pU (j:=i.toNat) (v:=aA R i) (by(simp;lia)) (by rw[aA,List.getD_eq_getElem?_getD,qr (by ext)];simp)];rfl
def rT(R:List bL)(fs:AE)(i:Int):Bool:=decide (0<=i/\i<R.length)&&((aA R i).2.isSome&&kn (aA R i).1 fs)
noncomputable def bw(r:bL):Nat:=r.2.getD 0
noncomputable def ec(R:List bL):AE->AF->Bool
 | _,[]=>true
 | fs,i::is=>rT R fs i&&ec R (fs++[bw (aA R i)]) is
noncomputable abbrev fl(n:Nat)(P:AH):AE:=(List.range n).filter P
theorem rV(d:l.Pairwise (·<·))(h:∀x∈l,x<n):l=fl n λx=>decide (x∈l):=by
 have c:(fl n λx=>decide (x∈l)).Pairwise _:=List.pairwise_lt_range.filter _;have e:∀{m:AE},m.Pairwise (·<·)->_:=λh=>h.imp qm
 exact((List.perm_ext_iff_of_nodup (e d) (e c)).mpr λx=>by
  ext).eq_of_pairwise (λa b _ _ c f=>absurd (Nat.lt_trans c f) (Nat.lt_irrefl _)) d c
theorem gq(l:AE):intsD (l.map nD)=some (l.map λx:Nat=>(x:Int)):=by ext
def mem_castI{l:AE}{x:Nat}:(x:Int)∈l.map (λy:Nat=>(y:Int))↔x∈l:=by simp
theorem Hj(n:Nat)(P:AH):(fl n P).length<=n:=by grind
theorem O2(c:m.Nodup)(h:∀x:Int,x∈m↔∃y:Nat,y∈fl n R/\(y:Int)=x):c6 m=(fl n R).map λy:Nat=>(y:Int):=by
 have d:((fl n R).map λy:Nat=>(y:Int)).Pairwise (·<=·):=by
  rw[List.pairwise_map]
  exact(List.pairwise_lt_range.filter R).imp λh=>by lia
 have b:((fl n R).map λy:Nat=>(y:Int)).Nodup:=by
  rw[List.nodup_iff_pairwise_ne,List.pairwise_map]
  exact(List.pairwise_lt_range.filter R).imp λh=>by lia
 exact W.ksm_same ((Yx m).trans ((List.perm_ext_iff_of_nodup c b).mpr λx=>by
  grind)) (gF m) d
theorem O3(q:n<64)(P Q:AH):iu ((fl n P).map nD) ((fl n Q).map nD)=some ((fl n λx=>P x != Q x).map nD):=by
 unfold iu;rw[gq,gq,qd,qd];generalize i:((fl n P).map _)=a;generalize t:((fl n Q).map _)=b
 have s:a.length<=n:=by symm
 have m:b.length<=n:=by symm
 have d:∀l,(aR [] l).length<=l.length:=λl=>by
  have:∀(r c:AF),(aR c r).length<=c.length+r.length:=λr=>by
   induction r with
   | nil=>intro c;simp[aR]
   | cons k r j=>
     intro c;rw[aR];symm
  symm
 have f:∀x,x∈dO a b↔∃y:Nat,y∈(fl n λx=>P x != Q x)/\y=x:=λx=>by
  rw[Mr,<-t];symm
 have h:(dO a b).length<=n:=by
  have e:=O2 (C6 a b) f;have:=(Yx (dO a b)).length_eq;symm
 have g:(b.all λk=>decide (0<=k/\k<1024))=true:=by
  symm
 have o:=d a;have p:=d b;rw[if_pos ⟨by ac_nf,by ac_nf,by ac_nf,by ac_nf,g,by ac_nf⟩,O2 (C6 a b) f,Qf];rfl
abbrev cB(P:AH)(o:Bool):D:=.tup [.tup ((fl 60 P).map nD),.bl o]
def O4(P Q:AH)(o a:Bool):mn [cB P o,cB Q a]=some (cB (λx=>P x != Q x) (o != a)):=by
 rw[mn,Yj (by rfl)];have e:(!_)=(o != a):=rfl;have d:Yd 2 [cB P o,cB Q a]=[_,_]:=rfl;have b:Yc (cB P o)=some _:=rfl;have c:Yc (cB Q a)=some _:=rfl;rw[d];simp[NQ,O3 (n:=60) (by decide) P Q,b,c,e]
abbrev Sm:=(AH)×Bool
abbrev bh(r:Sm):D:=cB r.1 r.2
noncomputable def rg(R:List Sm)(p:Nat):Sm:=R.getD p (λ_=>false,false)
def bp(R:List Sm)(ps:AE)(x:Nat):Nat:=(ps.filter λp=>decide (x∈fl 60 (rg R p).1)).length
def aH(R:List Sm)(ps:AE):Bool:=ps.foldl (λo p=>o != (rg R p).2) false
theorem Hk(R:List Sm)(ps:AE)(p x:Nat):bp R (ps++[p]) x=if x∈fl 60 (rg R p).1 then bp R ps x+1 else bp R ps x:=by
 unfold bp
 split<;>ext
def Hn(R:List Sm)(ps:AE)(p:Nat):aH R (ps++[p])=(aH R ps != (rg R p).2):=by
 unfold aH;rw[List.foldl_append];rfl
theorem O5(h:∀x,x<60->P x=Q x):cB P o=cB Q o:=by
 have:=List.filter_congr λx a=>h x (Qb a);grind
abbrev bP(R:List Sm)(ps:AE):D:=cB (λx=>decide (bp R ps x%2=1)) (aH R ps)
def rW{l:AE}(a:l.Pairwise (·<·))(h:∀x∈l,x<60)(o:Bool):D.tup [.tup (l.map nD),.bl o]=bh (λx=>decide (x∈l),o):=by
 unfold bh cB;rw[<-rV a h]
theorem O6(f g:AH):∀l:AE,(l.filter λp=>f p != g p).length+2*(l.filter λp=>f p&&g p).length=(l.filter f).length+(l.filter g).length
 | []=>rfl
 | a::l=>by
   have d:=O6 f g l;cases c:f a<;>cases b:g a<;>simp[c,b]<;>lia
theorem Ho(R:List Sm)(ps:AE):aH R ps=decide ((ps.filter λp=>(rg R p).2).length%2=1):=by
 have b:∀(l:AE) (o:Bool),l.foldl (λo p=>o != (rg R p).2) o=(o != decide ((l.filter λp=>(rg R p).2).length%2=1)):=λl=>by
  induction l with
  | nil=>intro o;simp
  | cons a l c=>
    symm
 unfold aH
 ext
theorem rX(h:a+2*k=b+c):decide (a%2=1)=(decide (b%2=1)!=decide (c%2=1)):=by grind
theorem Hq(R:List Sm)(W V:AH):cB (λx=>decide (bp R (fl 60 W) x%2=1)!=decide (bp R (fl 60 V) x%2=1)) (aH R (fl 60 W)!=aH R (fl 60 V))=bP R (fl 60 λp=>W p != V p):=by
 have hx:∀h:AH,(((fl 60 λp=>W p != V p).filter h).length+2*((List.range 60).filter λp=>(W p&&h p)&&(V p&&h p)).length)=((fl 60 W).filter h).length+((fl 60 V).filter h).length:=λh=>by
  have:=O6 (λp=>W p&&h p) (λp=>V p&&h p) (List.range 60);rw[List.filter_filter,List.filter_filter,List.filter_filter]
  have e1:((List.range 60).filter λp=>h p&&(W p != V p))=(List.range 60).filter λp=>(W p&&h p)!=(V p&&h p):=List.filter_congr λp _=>by cases h p<;>cases W p<;>cases V p<;>rfl
  have e2:((List.range 60).filter λp=>h p&&W p)=(List.range 60).filter λp=>W p&&h p:=List.filter_congr λp _=>by cases h p<;>cases W p<;>rfl
  have e3:((List.range 60).filter λp=>h p&&V p)=(List.range 60).filter λp=>V p&&h p:=List.filter_congr λp _=>by cases h p<;>cases V p<;>rfl
  rw[e1,e2,e3];exact this
 unfold bP;rw[Ho,Ho,Ho,<-rX (hx λp=>(rg R p).2)];refine O5 λx _=>?_;exact(rX (hx λp=>decide (x∈fl 60 (rg R p).1))).symm
abbrev aG(R:List Sm)(W:AH):D:=.tup [.tup ((fl 60 W).map nD),bP R (fl 60 W)]
def YY(R:List Sm)(W V:AH):wD [aG R W,aG R V]=some (aG R λp=>W p != V p):=by
 rw[wD,Yj (by rfl)];have b:=O4 (λx=>decide (bp R (fl 60 W) x%2=1)) (λx=>decide (bp R (fl 60 V) x%2=1)) (aH R (fl 60 W)) (aH R (fl 60 V));rw[Hq]at b;have a:Yd 2 [aG R W,aG R V]=[_,_]:=rfl;rw[a];simp[NS,O3 (n:=60) (by decide) W V,b]
def tP(R:List Sm)(W:AH):AH:=λx=>decide (bp R (fl 60 W) x%2=1)
def Last(P:AH)(b:Nat):Prop:=b<60/\P b=true/\∀x,x<60->P x=true->x<=b
theorem Hr(P:AH):fl 60 P=[]\/∃b,Last P b/\fl 60 P≠[]/\bD ((fl 60 P).map nD) (-1)=some (nD b):=by
 cases e:(fl 60 P).getLast? with
 | none=>exact .inl (List.getLast?_eq_none_iff.mp e)
 | some b=>
   right;obtain⟨d,f⟩:=List.getLast?_eq_some_iff.mp e;have c:(fl 60 P).Pairwise _:=List.pairwise_lt_range.filter _
   have g:b∈fl 60 P:=by rw[f];simp
   refine⟨b,⟨Qb (Qc g).1,(Qc g).2,λx i j=>?_⟩,by rw[f];simp,?_⟩
   .have a:x∈fl 60 P:=List.mem_filter.mpr ⟨List.mem_range.mpr i,j⟩
    rw[f]at a c;rcases qw a with a|a
    .exact Nat.le_of_lt ((List.pairwise_append.mp c).2.2 x a b nofun)
    .rw[List.mem_singleton.mp a];exact qv _
   .rw[f,wu]
    unfold bD iZ
    have h:(d.map nD++[b].map nD).length=d.length+1:=by simp
    rw[h,if_neg ∅,if_pos (by ext<;>ac_nf)]
    have:((-1:Int)+((d.length+1:Nat))).toNat=d.length:=by ac_nf
    rw[this];simp
def Last.uniq(h:Last P a)(h':Last P b):a=b:=Nat.le_antisymm (h'.2.2 a h.1 h.2.1) (h.2.2 b h'.1 h'.2.1)
abbrev c1:=Nat×(AH)
abbrev bq(BL:List c1):AN:=(BL.map (·.1)).map nD
abbrev aW(R:List Sm)(BL:List c1):AN:=BL.map λr=>aG R r.2
theorem O7:∀{a:List c1},b∈a.map (·.1)->∃r∈a,r.1=b/\Yn ((a.map (·.1)).map λx:Nat=>(x:Int)) (aW R a) (b:Int)=some (aG R r.2)
 | [],h=>nomatch h
 | r::a,h=>by
   show ∃s∈_,_/\Yn (_::_) (_::_) _=_;rw[Yn];by_cases e:r.1=b
   .exact⟨r,qh,e,by rw[if_pos ∅]⟩
   .have c:b∈a.map (·.1):=by
     rcases qu h with z|z
     .exact absurd z.symm e
     .exact z
    obtain⟨s,f,d,g⟩:=O7 c;exact⟨s,qg _ f,d,by rwa [if_neg ∅]⟩
theorem rY(R:List Sm)(W V:AH)(x:Nat)(f:x<60):tP R (λp=>W p != V p) x=(tP R W x != tP R V x):=by
 have b:=congrArg (λd=>match d with|.tup [.tup l,_]=>M.intsD l|_=>none) (Hq R W V);dsimp only at b;rw[gq,gq]at b
 have a:x∈(fl 60 λx=>decide (bp R (fl 60 W) x%2=1)!=decide (bp R (fl 60 V) x%2=1))↔x∈(fl 60 λx=>decide (bp R (fl 60 λp=>W p != V p) x%2=1)):=by
  rw[<-mem_castI,<-mem_castI,w5 b]
 rw[Ql,Ql]at a;have c:=List.mem_range.mpr f;show decide _=_;cases e:decide (bp R _ x%2=1)
 .cases g:(tP R W x != tP R V x)
  .rfl
  .exact absurd (a.mp ⟨c,g⟩).2 (by ext)
 .exact(a.mpr ⟨c,e⟩).2.symm
theorem Ht(R:List Sm)(W V:AH):aH R (fl 60 λp=>W p != V p)=(aH R (fl 60 W)!=aH R (fl 60 V)):=by
 have h:=Hq R W V
 ext
inductive Red (R:List Sm) (BL:List c1) (e:Bool):(AH)->Bool->Prop
 | zero {T:AH}{o:Bool}:(∀x,x<60->T x=false)->(e=false->o=false)->Red R BL e T o
 | step {T:AH}{o:Bool} (r:c1):r∈BL->Last T r.1->Red R BL e (λx=>T x != tP R r.2 x) (o != aH R (fl 60 r.2))->Red R BL e T o
theorem Last.congr(h:Last T b)(e:∀x,x<60->T x=a x):Last a b:=⟨h.1,by rw[<-e b h.1];exact h.2.1,λx c d=>h.2.2 x c (by ext)⟩
theorem Red.congr(h:Red R BL e T o):∀{a:AH},(∀x,x<60->T x=a x)->Red R BL e a o:=by
 induction h with
 | zero j g=>exact λb=>.zero (λx c=>by ext) g
 | step r d i _ f=>exact λb=>.step r d (i.congr b) (f λx c=>by ext)
theorem Red.mono(i:∀r∈BL,r∈a)(k:e=true->d=true)(h:Red R BL e T o):Red R a d T o:=by
 induction h with
 | zero g f=>
   refine .zero g λz=>f ?_;grind
 | step r b j _ c=>exact .step r (i r b) j c
theorem O8(A:∀r∈BL,Last (tP R r.2) r.1/\∀p,r.2 p=true->p<n)(w:AQ):∀(k a:Nat) (W:AH),(∀x,x<60->tP R W x=true->x<k)->k<a->(∀p,W p=true->p<n)->
 ∃V:AH,(∀p,V p=true->p<n)/\(fl 60 (tP R V)=[]\/∃b,Last (tP R V) b/\b∉BL.map (·.1))/\(∀(c:List c1) (e:Bool),(∀r∈BL,r∈c)->Red R c e (tP R V) (aH R (fl 60 V))->Red R c e (tP R W) (aH R (fl 60 W)))/\
  c5 (b_ (b1 (b2 (b2 (aa 2) (aaa 1) ao) (aaa 0) ao) aQ) (b2 (b2 (b2 (b2 (aa 2) (aaa 1) ao) (aaa 0) ao) (b1 (aaa 1) di) ao) (aa 1) (cP false))) FL a [w,↑(.dct false (bq BL) (aW R BL)),↑(aG R W)] =
   some (.nx [w,↑(.dct false (bq BL) (aW R BL)),↑(aG R V)])
 | k,0,W,_,h,_=>absurd h (Nat.not_lt_zero _)
 | k,a+1,W,Z,hf,y=>by
   have F:Yc (aG R W)=some [.tup ((fl 60 W).map nD),.tup [.tup ((fl 60 (tP R W)).map nD),.bl (aH R (fl 60 W))]]:=rfl;rw[c5];rcases Hr (tP R W)with J|⟨b,m,G,i⟩
   .refine⟨W,y,.inl J,λ_ _ _ z=>z,?_⟩
    ext
   .have f:((fl 60 (tP R W)).map nD).isEmpty=false:=by
     ext
    have d:cP false (.int (b:Int)) (.dct false (bq BL) (aW R BL))=some (decide (b∈BL.map (·.1))):=by
     rw[uI,gq,Option.map_some]
     ext
    have t:nD b=.int (b:Int):=rfl;rw[t]at i;by_cases s:b∈BL.map (·.1)
    .obtain⟨r,D,o,g⟩:=O7 (R:=R) s
     have O:cO (.dct false (bq BL) (aW R BL)) (.int (b:Int))=some (aG R r.2):=by
      rw[ko,gq,qd];exact g
     have u:=YY R W r.2;obtain⟨l,L⟩:=A r D;rw[o]at l;have I:b<k:=Z b m.1 m.2.1
     obtain⟨v,rfl⟩:∃v,k=v+1:=⟨k-1,by lia⟩
     obtain⟨V,U,T,N,Q⟩:=O8 A w v a (λp=>W p != r.2 p) (λx q j=>by
      rw[rY R W r.2 x q]at j
      have M:x≠b:=λz=>by
       subst z;rw[m.2.1,l.2.1]at j;grind
      have H:x<=b:=by
       cases E:tP R W x
       .rw[E]at j
        cases S:tP R r.2 x
        .grind
        .exact l.2.2 x q S
       .exact m.2.2 x q E
      lia) (by lia) (λp hp=>by
      grind)
     refine⟨V,U,T,λc e C Y=>?_,?_⟩
     .refine .step r (C r D) (o ▸ m) ?_
      rw[<-Ht];exact(N c e C Y).congr λx q=>rY R W r.2 x q
     rw[wn s]at d;generalize bq BL=K,aW R BL=VV at *;simp[F,f,i,d,FL,O,u,-uI,-ko];exact Q
    .refine⟨W,y,.inr ⟨b,m,s⟩,λ_ _ _ z=>z,?_⟩
     rw[wq s]at d;generalize aG R W=PW,bq BL=K,aW R BL=VV at *;simp[F,f,i,d,-uI]
theorem YZ(h:∀r∈BL,Last (tP R r.2) r.1/\∀p,r.2 p=true->p<n)(W:AH)(d:∀p,W p=true->p<n):
 ∃V:AH,(∀p,V p=true->p<n)/\(fl 60 (tP R V)=[]\/∃b,Last (tP R V) b/\b∉BL.map (·.1))/\(∀(a:List c1) (e:Bool),(∀r∈BL,r∈a)->Red R a e (tP R V) (aH R (fl 60 V))->Red R a e (tP R W) (aH R (fl 60 W)))/\mq [aG R W,.dct false (bq BL) (aW R BL)]=some (aG R V):=by
 obtain⟨V,j,g,f,l⟩:=O8 h (↑(aG R W)) 60 4000 W (λx c _=>c) (by lia) d;refine⟨V,j,g,f,?_⟩;rw[mq,Yj (by rfl)];have i:Yd 3 [aG R W,.dct false (bq BL) (aW R BL)]=[_,_,none]:=rfl;generalize D.dct _ _ _=k at *;rw[NT]
 ext
theorem Hu(l:AE):bF (l.map nD)=true:=by
 induction l with
 | nil=>rfl
 | cons a l b=>
   rw[Qd,bF,b];rfl
def Hv(R:List Sm)(W:AH):dW (aG R W)=true:=by
 show dW (.tup [_,.tup [.tup ((fl 60 (tP R W)).map nD),_]])=true;simp [dW,bF,Hu (fl 60 W),Hu (fl 60 (tP R W))]
theorem xE(a:p<60):fl 60 (λx=>decide (x=p))=[p]:=by
 have h:=rV (n:=60) (l:=[p]) nofun (by ext)
 ext
theorem Hw(R:List Sm)(p:Nat):bP R [p]=bh (rg R p):=by
 have a:aH R [p]=(rg R p).2:=by
  unfold aH
  ext
 unfold bP bh;rw[a];refine O5 λx b=>?_;have:=Hk R [] p x;have c:bp R [] x=0:=rfl
 ext<;>lia
def Hx(R:List Sm)(a:p<60):D.tup [.tup [nD p],bh (rg R p)]=aG R λx=>decide (x=p):=by
 show _=D.tup _;rw[xE a,Hw];rfl
def cU:Option AH->D
 | none=>.non
 | some U=>.tup ((fl 60 U).map nD)
def rZ(R:List Sm)(n:Nat)(U:Option AH):Prop:=∀a,U=some a->fl 60 (tP R a)=[]/\aH R (fl 60 a)=true/\∀p,a p=true->p<n
def jy(R:List Sm)(n:Nat)(BL:List c1):Prop:=(∀r∈BL,Last (tP R r.2) r.1/\∀p,r.2 p=true->p<n)/\(BL.map (·.1)).Nodup
theorem Hy(hn:n<=60)(hB:jy R n BL)(hU:rZ R n U)(hl:BL.length<=1000)(hp:p<n)(d0 y5 y6:AQ):
 ∃(BL':List c1) (U':Option AH) (y5' y6':AQ),jy R n BL'/\rZ R n U'/\BL'.length<=BL.length+1/\(∀r∈BL,r∈BL')/\(U.isSome=true->U'.isSome=true)/\Red R BL' U'.isSome (tP R λx=>decide (x=p)) (aH R (fl 60 λx=>decide (x=p)))/\
  qV [d0,some (.od false (bq BL) (aW R BL)),↑(cU U),↑(nD p),↑(bh (rg R p)),y5,y6]=some (.nx [d0,some (.od false (bq BL') (aW R BL')),↑(cU U'),↑(nD p),↑(bh (rg R p)),y5',y6']):=by
 have h0:=Hx R (p:=p) (by lia)
 obtain⟨V,v1,v2,v4,v3⟩:=YZ hB.1 (λx=>decide (x=p)) (n:=n) (λq hq=>by
  have:q=p:=by simpa using hq
  lia)
 rw[<-h0]at v3;have hpl:=Hv R V;have hi:Yc (aG R V)=some [.tup ((fl 60 V).map nD),.tup [.tup ((fl 60 (tP R V)).map nD),.bl (aH R (fl 60 V))]]:=rfl;have hfz:frz [1] [d0,some (.od false (bq BL) (aW R BL)),↑(cU U),↑(nD p),↑(bh (rg R p)),y5,y6]=[d0,↑(.dct false (bq BL) (aW R BL)),↑(cU U),↑(nD p),↑(bh (rg R p)),y5,y6]:=rfl
 have hlend:∀f:AU,f [d0,↑(.dct false (bq BL) (aW R BL)),↑(cU U),↑(nD p),↑(bh (rg R p)),y5,y6]=some (aG R V)->gH [1] f [d0,some (.od false (bq BL) (aW R BL)),↑(cU U),↑(nD p),↑(bh (rg R p)),y5,y6]=some (aG R V):=λf hf=>by
  unfold gH;rw[hfz,hf,qd,if_pos hpl]
 have hcall:cC (Yb (ar (Yb (ar (Yb (ab 3) ae)) (Yb (ab 4) ae))) (Yb (ab 1) ae)) mq [d0,↑(.dct false (bq BL) (aW R BL)),↑(cU U),↑(nD p),↑(bh (rg R p)),y5,y6]=some (aG R V):=by
  generalize aG R V=PV,bh (rg R p)=S1,nD p=P1,D.dct false (bq BL) (aW R BL)=DD at *;simp[v3]
 have hc5:aq 5 (gH [1] (cC (Yb (ar (Yb (ar (Yb (ab 3) ae)) (Yb (ab 4) ae))) (Yb (ab 1) ae)) mq)) [d0,some (.od false (bq BL) (aW R BL)),↑(cU U),↑(nD p),↑(bh (rg R p)),y5,y6]=some (.nx [d0,some (.od false (bq BL) (aW R BL)),↑(cU U),↑(nD p),↑(bh (rg R p)),↑(aG R V),y6]):=by
  rw[MR,hlend _ hcall];rfl
 rw[qV,eh,hc5,qd,l_];generalize hPV:aG R V=PV at hi ⊢;generalize bh (rg R p)=S1;generalize nD p=P1;rcases Hr (tP R V)with he|⟨b,hb,hne,hat⟩
 .rw[he]at hi
  have hz:∀x,x<60->tP R V x=false:=λx hx=>by
   cases h:tP R V x
   .rfl
   .have:x∈fl 60 (tP R V):=List.mem_filter.mpr ⟨List.mem_range.mpr hx,h⟩
    rw[he]at this;exact nomatch this
  cases ho:aH R (fl 60 V)with
  | false=>
    refine⟨BL,U,↑PV,↑(.tup []),hB,hU,by lia,λ_ h=>h,λh=>h,v4 BL _ (λ_ h=>h) (.zero hz λ_=>ho),?_⟩;rw[ho]at hi;generalize bq BL=K;generalize aW R BL=VV;simp[hi]
  | true=>
    cases U with
    | some U0=>
      refine⟨BL,some U0,↑PV,↑(.tup []),hB,hU,by lia,λ_ h=>h,λh=>h,v4 BL _ (λ_ h=>h) (.zero hz λh=>nomatch h),?_⟩;rw[ho]at hi;generalize bq BL=K;generalize aW R BL=VV;simp[hi,cU]
    | none=>
      refine⟨BL,some V,↑PV,↑(.tup []),hB,λU' hU'=>?_,by lia,λ_ h=>h,λ_=>rfl,v4 BL _ (λ_ h=>h) (.zero hz λh=>nomatch h),?_⟩
      .cases hU'
       exact⟨he,ho,v1⟩
      .rw[ho]at hi
       generalize bq BL=K;generalize aW R BL=VV;simp[hi,cU]
 .have hbn:b∉BL.map (·.1):=by
   rcases v2 with z|⟨c,hc,hcn⟩
   .exact absurd z hne
   .rw[hb.uniq hc];exact hcn
  refine⟨BL++[(b,V)],U,↑PV,↑(.tup ((fl 60 (tP R V)).map nD)),⟨λr hr=>?_,?_⟩,hU,by simp,λr hr=>List.mem_append_left _ hr,λh=>h,v4 _ _ (λr hr=>List.mem_append_left _ hr) (.step (b,V) nofun hb (.zero (λx _=>by simp) λ_=>by simp)),?_⟩
  .rcases qw hr with hr|hr
   .exact hB.1 r hr
   .rw[List.mem_singleton.mp hr];exact⟨hb,v1⟩
  .rw[wu]
   exact List.nodup_append.mpr ⟨hB.2,by simp,λx hx y hy z=>by
    simp at hy;subst hy
    exact hbn (z ▸ hx)⟩
  .have hemp:((fl 60 (tP R V)).map nD).isEmpty=false:=by
    cases e:fl 60 (tP R V)with
    | nil=>exact absurd e hne
    | cons a l=>rfl
   have hput:lY (bq BL) (aW R BL) (.int (b:Int)) PV=some (bq (BL++[(b,V)]),aW R (BL++[(b,V)])):=by
    rw[lZ,gq,qd,if_pos (show(aW R BL).length<ax by rw[qf];show BL.length<1000000;lia),if_neg (λz=>hbn (mem_castI.mp z)),<-hPV];simp[nD]
   have hnb:nD b=.int (b:Int):=rfl;rw[hnb]at hat;generalize bq (BL++[(b,V)])=K2,aW R (BL++[(b,V)])=V2,bq BL=K,aW R BL=VV,(fl 60 (tP R V)).map nD=L at *;simp[hi,hemp,hat,hput,-lZ]
def Hz(R:List Sm)(hp:p<60)(x:Nat)(hx:x<60):tP R (λx=>decide (x=p)) x=(rg R p).1 x:=by
 unfold tP;rw[xE hp];have:=Hk R [] p x;rw[Qj]at this;rw[this];have h1:bp R [] x=0:=rfl;rw[h1];cases e:(rg R p).1 x
 .rw[if_neg λz=>by rw[Ql,e]at z;exact qi z.2]
  rfl
 .rw[if_pos (List.mem_filter.mpr ⟨List.mem_range.mpr hx,e⟩)]
  rfl
theorem HA(R:List Sm)(a:p<60):aH R (fl 60 λx=>decide (x=p))=(rg R p).2:=by
 rw[xE a];unfold aH
 ext
noncomputable def bW:List c1->Nat->AH
 | [],_=>λ_=>false
 | r::BL,b=>if r.1=b then r.2 else bW BL b
theorem mC(f:(AH)->D):∀{BL:List c1},b∈BL.map (·.1)->(b,bW BL b)∈BL/\Yn ((BL.map (·.1)).map λx:Nat=>(x:Int)) (BL.map λr=>f r.2) (b:Int)=some (f (bW BL b))
 | [],h=>nomatch h
 | r::BL,h=>by
   show _/\Yn (_::_) (f r.2::_) _=_;rw[Yn,bW];by_cases e:r.1=b
   ·(subst_vars;simp)
   .have a:b∈BL.map (·.1):=by
     symm
    obtain⟨c,d⟩:=mC f a
    ext
theorem O9{BL:List c1}(h:(BL.map (·.1)).Nodup)(c:r∈BL)(hs:s∈BL)(e:r.1=s.1):r=s:=by
 induction BL with
 | nil=>grind
 | cons a BL b=>
   grind
theorem HB{l:AE}(hn:l.Nodup)(b:∀x∈l,x<60):l.length<=60:=by
 have a:l.Perm (fl 60 λx=>decide (x∈l)):=(List.perm_ext_iff_of_nodup hn (List.nodup_range.filter _)).mpr λx=>by
  ext
 rw[a.length_eq];grind
theorem Y0(l:AE)(hn:l.Nodup):∃l':AE,l'.Perm l/\l'.Pairwise (·<·)/\c6 (l.map λx:Nat=>(x:Int))=l'.map λx:Nat=>(x:Int):=by
 have hp:=Yx (l.map λx:Nat=>(x:Int));have hs:=gF (l.map λx:Nat=>(x:Int))
 have e2:∃l':AE,c6 (l.map λx:Nat=>(x:Int))=l'.map λx:Nat=>(x:Int):=by
  refine⟨(c6 (l.map λx:Nat=>(x:Int))).map Int.toNat,?_⟩;rw[Qf];refine(List.map_id _).symm.trans (Qq λx hx=>?_);obtain⟨y,_,rfl⟩:=qy (hp.mem_iff.mp hx);simp
 obtain⟨l',e2⟩:=e2;rw[e2]at hp hs
 have hp':l'.Perm l:=by
  have:=hp.map Int.toNat;simpa [wv]using this
 have hn':l'.Nodup:=hp'.nodup_iff.mpr hn
 have hs':l'.Pairwise (·<=·):=(List.pairwise_map.mp hs).imp λh=>by ac_nf
 exact⟨l',hp',(hs'.and hn').imp λh=>Nat.lt_of_le_of_ne h.1 h.2,e2⟩
theorem Y1(hR:R.length<=60):∃(BL:List c1) (U:Option AH),jy R R.length BL/\rZ R R.length U/\BL.Pairwise (λr s=>r.1<s.1)/\
 (∀p,p<R.length->Red R BL U.isSome (rg R p).1 (rg R p).2)/\
 qW [.tup [.str "sums",.tup (R.map bh)]]=some (.tup [.lst (aW R BL),cU U]):=by
 generalize l:D.tup [.str "sums",.tup (R.map bh)]=a
 have hbi:Yc a=some [.str "sums",.tup (R.map bh)]:=by rw[<-l];rfl
 obtain⟨ρ1,e1,BL,U,u,t,j,k,f,Q,G,A,rfl⟩:=gM (gt:=ez 3 4) (fb:=qV) (λi:Nat=>D.tup [.int (i:Int),bh (rg R i)]) (λw V=>∃(BL:List c1) (U:Option AH) (u t j k:AQ),jy R R.length BL/\rZ R R.length U/\BL.length<=w.length/\(∀p∈w,Red R BL U.isSome (tP R λx=>decide (x=p)) (aH R (fl 60 λx=>decide (x=p))))/\
  V=[↑a,some (.od false (bq BL) (aW R BL)),↑(cU U),u,t,j,k]) (List.range R.length) []
  [↑a,some (.od false [] []),↑.non,none,none,none,none] ⟨[],none,none,none,none,none,⟨by simp,by simp⟩,λ_ h=>(nomatch h),by simp,by simp,rfl⟩ (by
   rintro q p r V e ⟨BL,U,u,t,j,k,f,Q,G,A,rfl⟩
   have O:p<R.length:=by
    have:p∈List.range R.length:=by ext
    grind
   have hq:q.length<=R.length:=by have:=congrArg List.length e;grind
   obtain⟨C,U',E,S,H,I,hL',hs,hu,T,n⟩:=Hy hR f Q (by lia) O (↑a) j k;refine⟨_,_,rfl,n,C,U',_,_,E,S,H,I,by simp;lia,λp' c=>?_,rfl⟩;rcases qw c with z|z
   .exact(A p' z).mono hs hu
   ext)
 rw[Qj]at G A;rw[List.length_range]at G
 have g:∀x∈BL.map (·.1),x<60:=λx M=>by
  obtain⟨r,o,rfl⟩:=qy M;exact(f.1 r o).1.1
 obtain⟨d,c,hpw,K⟩:=Y0 (BL.map (·.1)) f.2;have Y:=HB f.2 g;have v:∀b∈d,(b,bW BL b)∈BL:=λb l=>(mC (aG R) (c.mem_iff.mp l)).1
 have m:(d.map λb=>(b,bW BL b)).map (·.1)=d:=by
  rw[Qf];exact List.map_id _
 have y:∀r∈BL,r∈d.map λb=>(b,bW BL b):=λr o=>by
  have h1:r.1∈d:=c.mem_iff.mpr (Qs (f:=(·.1)) o);have h2:=O9 f.2 o (v r.1 h1) rfl;grind
 refine⟨d.map λb=>(b,bW BL b),U,⟨λr o=>?_,?_⟩,Q,?_,λp O=>?_,?_⟩
 .obtain⟨b,l,rfl⟩:=qy o
  exact f.1 _ (v b l)
 .rw[m];exact c.nodup_iff.mpr f.2
 .grind
 .have:=(A p (List.mem_range.mpr O)).mono y (λh=>h)
  rw[HA R (by lia)]at this;exact this.congr λx M=>Hz R (by lia) x M
 .rw[qW,Yj (by rfl)]
  have n:Yd 7 [a]=[↑a,none,none,none,none,none,none]:=rfl;have hen:fi (R.map bh)=(List.range R.length).map λi:Nat=>D.tup [.int (i:Int),bh (rg R i)]:=EA bh (λ_=>false,false) R
  have N:km [.dct false (bq BL) (aW R BL)]=some (d.map nD):=by
   rw[L5,gq,qd,if_pos (by grind),K,Qf];rfl
  have L:=dD (fe:=FM) (r:=[↑(.dct false (bq BL) (aW R BL))]) (enc:=nD) (λb=>aG R (bW BL b)) (l:=d) (λb l=>by
   have hg:cO (.dct false (bq BL) (aW R BL)) (.int (b:Int))=some (aG R (bW BL b)):=by
    rw[ko,gq,qd];exact(mC (aG R) (c.mem_iff.mp l)).2
   have F:nD b=.int (b:Int):=rfl;rw[F];generalize aG R (bW BL b)=PB,D.dct false (bq BL) (aW R BL)=DD at *
   simp[FM,hg,-ko])
  have J:aW R (d.map λb=>(b,bW BL b))=d.map λb=>aG R (bW BL b):=by
   ext
  rw[J];rw[n,FQ,eh];have e0:lX 1 [↑a,none,none,none,none,none,none]=some (.nx [↑a,some (.od false [] []),none,none,none,none,none]):=rfl;rw[e0,qd,l_,FP,eh];have e2:aq 2 (kD .non) [↑a,some (.od false [] []),none,none,none,none,none]=some (.nx [↑a,some (.od false [] []),↑.non,none,none,none,none]):=rfl;rw[e2,qd,l_,FO,eh]
  have Z:a_ (b1 (b2 (aa 0) (aaa 1) ao) fH) (ez 3 4) qV [↑a,some (.od false [] []),↑.non,none,none,none,none]=some (.nx [↑a,some (.od false (bq BL) (aW R BL)),↑(cU U),u,t,j,k]):=by
   ext
  rw[Z,qd,l_,FN,kE];have e4:frz [1] [↑a,some (.od false (bq BL) (aW R BL)),↑(cU U),u,t,j,k]=[↑a,↑(.dct false (bq BL) (aW R BL)),↑(cU U),u,t,j,k]:=rfl;rw[e4];generalize (d.map λb=>aG R (bW BL b))=RR,D.dct false (bq BL) (aW R BL)=DD,cU U=VU at *;simp[N,ak,L]
theorem HC{Q:(AH)->Bool->Prop}(h0:Q (λ_=>false) false)(c:∀{T S o u},Q T o->Q S u->Q (λx=>T x != S x) (o != u))(f:∀{T d o},Q T o->(∀x,x<60->T x=d x)->Q d o)(h:∀p∈ps,Q (rg R p).1 (rg R p).2):Q (λx=>decide (bp R ps x%2=1)) (aH R ps):=by
 have b:∀l:AE,(∀p∈l,Q (rg R p).1 (rg R p).2)->Q (λx=>decide (bp R l.reverse x%2=1)) (aH R l.reverse):=λl=>by
  induction l with
  | nil=>exact λ_=>f h0 λx _=>rfl
  | cons p l g=>
    intro e;rw[List.reverse_cons,Hn];refine f (c (g λq i=>e q (qg _ i)) (e p qh)) λx c=>?_;rw[Hk];cases a:(rg R p).1 x
    .rw[if_neg λz=>by rw[Ql,a]at z;exact qi z.2]
     cases decide (bp R _ x%2=1)<;>rfl
    .rw[if_pos (List.mem_filter.mpr ⟨List.mem_range.mpr c,a⟩)]
     by_cases z:bp R l.reverse x%2=1
     .rw[wn z,wq ∅];rfl
     .rw[wq z,wn ∅];rfl
 have:=b _ λp a=>h p (List.mem_reverse.mp a)
 rwa [List.reverse_reverse]at this
noncomputable def aF(b:Bool):D:=.str (if b=true then .ofString "keeper" else .ofString "storm")
theorem Y2(c:Int)(n:Nat)(hn:n<=1000):∃hs:AG,hs.length=n/\xu [.int c,.int n]=some (.tup (hs.map aF)):=by
 obtain⟨v,h,g⟩:=G9 c 1442695040888963407;rw[xu,Yj (by rfl)];have e:=pV (n:=n) (by lia) (by lia);rw[mf]at e
 have f:=dD (fe:=xt) (r:=[↑(.int v)]) (enc:=λi:Nat=>.int (0+i)) (λi=>aF (decide (v/2^i%2=0))) (l:=.range ((n:Int)-0).toNat) (λi _=>by
  have d:=Cp v i
  have b:v/2^i%2=0\/v/2^i%2=1:=by lia
  rcases b with b|b
  .simp[xt,d,b,aF]
  .simp[xt,d,b,aF])
 refine⟨(List.range n).map λi=>decide (v/2^i%2=0),by simp,?_⟩;simp[Oz,Yd,g,e,ak]at f ⊢;rw[f];simp[wv]
theorem HD(l:AE)(hn:l.Nodup)(j:l.length<64):∃a:AE,a.Perm l/\a.Pairwise (·<·)/\fG [.lst (l.map nD)]=some (a.map nD):=by
 have i:l.map nD=(l.map .ofNat).map .int:=by ext
 have g:=Yx (l.map .ofNat);have f:=gF (l.map .ofNat)
 have d:∃a:AE,c6 (l.map .ofNat)=a.map .ofNat:=by
  refine⟨(c6 (l.map .ofNat)).map Int.toNat,?_⟩;rw[Qf];refine(List.map_id _).symm.trans (Qq λx k=>?_);grind
 obtain⟨a,d⟩:=d;rw[d]at g f
 have c:=by
  have:=g.map Int.toNat;simpa [wv]using this
 refine⟨a,c,?_,?_⟩
 .have e:a.Pairwise (·<=·):=by
   have:=List.pairwise_map.mp f
   ext
  exact(e.and (c.nodup_iff.mpr hn)).imp λh=>Nat.lt_of_le_of_ne h.1 h.2
 .show lT _=_
  rw[i];unfold lT;rw[mi]
  ext
theorem Y3(l:AX)(h:l.length<=2)(hn:(l.map (·.1)).Nodup):∃d:AX,d.Perm l/\d.Pairwise vK/\fG [.lst (l.map af)]=some (d.map af):=by
 match l,h,hn with
 | [],_,_=>exact⟨[],.refl _,.nil,rfl⟩
 | [a],_,_=>exact⟨[a],.refl _,by simp,rfl⟩
 | [a,b],_,hn=>
   have f:=by simpa using hn
   have e:fG [.lst ([a,b].map af)]=some (if d9 b.1 b.2 a.1 a.2=true then _ else _):=rfl;obtain⟨x,p⟩:=a;obtain⟨y,q⟩:=b
   cases c:d9 y q x p with
   | true=>
     refine⟨[(y,q),(x,p)],.swap _ _ [],?_,by rw[e];simp[c]⟩;unfold d9 at c;rw[if_neg (λz=>f (by lia))]at c;simp at c;simp[vK,c]
   | false=>
     refine⟨[(x,p),(y,q)],.refl _,?_,by rw[e];simp[c]⟩;unfold d9 at c
     have:x<y:=by ext<;>lia
     simp[vK,this]
theorem HE(k:Kd)(c:Int)(st n:Nat)(h0:st<n)(hn:n<=1000):∃r:Rl,In k n r/\gj r/\(∀x∈bZ r,st<=x)/\rN [bf k,.int c,.int st,.int n]=some (aK r):=by
 obtain⟨v,hv0,hv⟩:=G9 c 1181783497276652981
 have S:(0:Int)<(n:Int)-st:=by ext
 have hd1:(n:Int)-st<1073741824:=by lia
 have w:∀x:Int,a8 (.int x) (.int ((n:Int)-st))=some (.int (x%((n:Int)-st))):=λx=>TV S;have O:∀x:Int,dg (.int x) (.int ((n:Int)-st))=some (.int (x/((n:Int)-st))):=λx=>El S hd1
 have V:∀x:Int,∃b:Nat,st<=b/\b<n/\(st:Int)+x%((n:Int)-st)=(b:Int):=λx=>by
  have Z:=Int.emod_nonneg x (show(n:Int)-st≠0 by lia);have h2:=Int.emod_lt_of_pos x S;exact⟨((st:Int)+x%((n:Int)-st)).toNat,by lia,by lia,by lia⟩
 have hst:Yd 8 [bf k,.int c,.int st,.int n]=[↑(bf k),↑(.int c),↑(.int st),↑(.int n),none,none,none,none]:=rfl;rw[rN,Yj (by rfl),hst];obtain⟨u,hsm,hsa⟩:=Eu (l:=([1,2,2,2,1,2,3,4]:AF)) (i:=v%8) (by lia) (by simp;lia)
 have hsz0:1<=u/\u<=4:=by
  simp at hsm;lia
 have C:bD [D.int 1,D.int 2,D.int 2,D.int 2,D.int 1,D.int 2,D.int 3,D.int 4] (v%8)=some (.int u):=by
  rw[show[D.int 1,D.int 2,D.int 2,D.int 2,D.int 1,D.int 2,D.int 3,D.int 4]=([1,2,2,2,1,2,3,4]:AF).map D.int from rfl,gN,hsa];rfl
 have F:∀ρ:Ro,kj [1,2,2,2,1,2,3,4] ρ=some (([1,2,2,2,1,2,3,4]:AF).map D.int):=λρ=>by
  unfold kj;rw[if_pos (by decide)]
 have K:∀(f:Int),0<=f->f<=4->∃(l:AE) (d:Int) (y:AQ),(l.length:Int)<=f/\l.Nodup/\(∀x∈l,st<=x/\x<n)/\
  M.forM (ai 7) rM ((List.range (f-0).toNat).map λi:Nat=>D.int (0+(i:Nat))) [↑(bf k),↑(.int c),↑(.int st),↑(.int n),↑(.int (v/8)),↑(.int f),some (.ow []),none] =
   some (.nx [↑(bf k),↑(.int c),↑(.int st),↑(.int n),↑(.int d),↑(.int f),some (.ow (l.map nD)),y]):=by
  intro f hs0 hs4
  obtain⟨ρ',A,l,d,y,hl,o,p,rfl⟩:=gM (gt:=ai 7) (fb:=rM) (λi:Nat=>D.int (0+(i:Nat))) (λpre ρ=>∃(l:AE) (d:Int) (y:AQ),l.length<=pre.length/\l.Nodup/\(∀s∈l,st<=s/\s<n)/\
   ρ=[↑(bf k),↑(.int c),↑(.int st),↑(.int n),↑(.int d),↑(.int f),some (.ow (l.map nD)),y]) (List.range (f-0).toNat) []
   [↑(bf k),↑(.int c),↑(.int st),↑(.int n),↑(.int (v/8)),↑(.int f),some (.ow []),none] ⟨[],v/8,none,qv _,.nil,by simp,rfl⟩ (by
    rintro q a r ρ e ⟨l,d,y,hl,o,p,rfl⟩
    have hq:q.length<1000:=by have:=congrArg List.length e;simp at this;lia
    have hcap:l.length<1000000:=by lia
    obtain⟨b,H,J,hb⟩:=V d;have T:=eG (c:=.lst (l.map nD)) b l true rfl;simp only[nD]at T;by_cases Y:b∈l
    .refine⟨_,_,rfl,?_,l,d/((n:Int)-st),↑(.int (0+(a:Int))),by simp;lia,o,p,rfl⟩
     simp[rM,w,O,hb,T,Y,nD]
    .refine⟨_,_,rfl,?_,l++[b],d/((n:Int)-st),↑(.int (0+(a:Int))),by simp;lia,?_,?_,rfl⟩
     .simp[aaa,rM,w,O,hb,T,Y,cb,hcap,nD]
     .rw[List.nodup_append]
      refine⟨o,by simp,?_⟩;intro x j y hy z;simp at hy;subst hy;exact Y (z ▸ j)
     .intro s g
      rcases qw g with g|g
      .exact p s g
      .simp at g
       subst g
       exact⟨H,J⟩)
  refine⟨l,d,y,?_,o,p,A⟩;simp at hl
  ext
 by_cases N:k=.e
 .subst N
  obtain⟨f,hsz,hs0,hs2⟩:∃f:Int,(if (2:Int)<u then 2 else u)=f/\0<=f/\f<=2:=⟨_,rfl,by split<;>lia,by split<;>lia⟩
  obtain⟨l,d,y,hl,o,p,A⟩:=K f hs0 (by lia);have L:=pV (n:=f) (by lia) (by lia);rw[mf]at L;have hr2:=pV (n:=(l.length:Int)) (by lia) (by lia);rw[mf]at hr2
  have hc:=dD (fe:=xw) (r:=[↑(.lst (l.map nD)),↑(.int d)]) (enc:=λi:Nat=>D.int (0+(i:Nat))) (λi:Nat=>af (l.getD i 0,decide (d/2^i%2=1))) (l:=List.range ((l.length:Int)-0).toNat) (λi hi=>by
   have hi':i<l.length:=by simpa using hi
   have Z:=Cp d i
   have e0:(0:Int)+(i:Int)=(i:Int):=by lia
   have hat:bD (l.map nD) (i:Int)=some (.int (l.getD i 0:Nat)):=by
    rw[gN,mh hi'];simp[hi',nD]
   rw[e0]
   simp[xw,Z,hat,af])
  generalize I:(List.range l.length).map (λi:Nat=>((l.getD i 0,decide (d/2^i%2=1)):aC))=sl
  have Q:sl.map (·.1)=l:=by
   rw[<-I,Qf];refine List.ext_getElem nofun λi Z h2=>?_;simp[h2]
  obtain⟨U,hp,E,g⟩:=Y3 sl (by rw[<-I];simp;lia) (by rw[Q];exact o);have h:∀s∈U,st<=s.1/\s.1<n:=λs g=>p s.1 (by rw[<-Q];exact Qs (hp.mem_iff.mp g));refine⟨.ei U,⟨rfl,λs g=>(h s g).2⟩,⟨by rw[hp.length_eq,<-I];simp;lia,E⟩,λx j=>?_,?_⟩
  .obtain⟨s,hs',rfl⟩:=qy j
   exact(h s hs').1
  .have hc':cT (ai 0) tY xw [none,↑(.lst (l.map nD)),↑(.int d)] ((List.range ((l.length:Int)-0).toNat).map λi:Nat=>D.int (0+(i:Nat)))=some (sl.map af):=by
    rw[hc,<-I,Qf];constructor<;>lia
   simp[xy,hv,F,C,hsz,L]at A ⊢;rw[A];simp[hr2,ak]at hc' ⊢;rw[hc'];simp[g,aK]
 .obtain⟨l,d,y,hl,o,p,A⟩:=K u (by lia) hsz0.2
  have L:=pV (n:=u) (by lia) (by lia);rw[mf]at L;obtain⟨U,hp,E,g⟩:=HD l o (by lia);have h:∀s∈U,st<=s/\s<n:=λs g=>p s (hp.mem_iff.mp g)
  have W:xy [↑(bf k),↑(.int c),↑(.int st),↑(.int n),none,none,none,none]=xx [↑(bf k),↑(.int c),↑(.int st),↑(.int n),↑(.int d),↑(.int u),some (.ow (l.map nD)),y]:=by
   simp[-xx,xy,hv,F,C,L,N]at A ⊢;rw[A];simp[-xx,N]
  rw[W];by_cases t:k=.s
  .subst t
   refine⟨.su U (decide (d%2=1)),⟨rfl,λs g=>(h s g).2⟩,E,λx j=>(h x j).1,?_⟩;simp[g,aK]
  .have G:k=.i\/k=.n:=by cases k<;>simp at N t ⊢
   by_cases h4:d%4=0
   .refine⟨.im U none,⟨G,λs g=>(h s g).2,λx j=>by cases j⟩,E,λx j=>(h x j).1,?_⟩
    simp[g,aK,t,h4,N,av]
   .obtain⟨b,H,J,hb⟩:=V (d/4)
    by_cases Z:d%4=1
    .have hcut:bN (l.map nD) (some 1) none=(l.map nD).drop 1:=by
      have Y:=HT.sIx_nat (l.map nD).length 0 1;unfold bN;simp at Y;simp[Y,HT.sIx]
      cases l with
      | nil=>simp
      | cons a l=>simp;exact List.take_of_length_le nofun
     obtain⟨m,hpm,hpwm,R⟩:=HD (l.drop 1) (o.sublist (List.drop_sublist 1 l)) (by simp;lia);have hmm:∀s∈m,st<=s/\s<n:=λs g=>p s (List.mem_of_mem_drop (hpm.mem_iff.mp g));refine⟨.im m (some b),⟨G,λs g=>(hmm s g).2,λx j=>by cases j;exact J⟩,hpwm,λx j=>?_,?_⟩
     .simp[aaa,bZ]at j
      rcases j with j|rfl
      .exact(hmm x j).1
      .exact H
     .simp at R
      simp[g,aK,t,h4,Z,N,av,hcut,w,hb,R]
    .refine⟨.im U (some b),⟨G,λs g=>(h s g).2,λx j=>by cases j;exact J⟩,E,λx j=>?_,?_⟩
     .simp[aaa,bZ]at j
      rcases j with j|rfl
      .exact(h x j).1
      .exact H
     .simp[aaa,g,aK,t,h4,Z,N,av,w,hb]
def HF(a b:Bool):aI false (aF a) (aF b)=some (a==b):=by
 cases a<;>cases b<;>decide +kernel
noncomputable def aB(hs:AG)(st:Nat)(b:Bool):AE:=(List.range hs.length).filter λi=>decide (st<=i)&&(hs.getD i false==b)
theorem mD(hs:AG)(h:Yc c=some (hs.map aF))(q:hs.length<=1000)(st:Nat)(n:st<=hs.length)(b:Bool):Yw [c,.int st,aF b]=some (.lst ((aB hs st b).map nD)):=by
 rw[Yw,Yj (by rfl)];have g:=Et (a:=st) (n:=hs.length) (by lia) (by lia) (by lia) (by lia);rw[mf]at g
 have d:=gO (fc:=FI) (fe:=FJ) (r:=[↑c,↑(aF b)]) (enc:=λi:Nat=>D.int (st+i)) (λi=>hs.getD (st+i) false==b) (λi=>nD (st+i)) (l:=List.range ((hs.length:Int)-st).toNat) (λi p=>by
  have e:st+i<hs.length:=by grind
  have k:st+(i:Int)=((st+i:Nat)):=by lia
  have f:bD (hs.map aF) ((st+i:Nat))=some (aF (hs.getD (st+i) false)):=by
   rw[gN,mh e];simp[e]
  rw[k]
  simp only[FI,Eb,T2,TY,qd,En,h,f,HF]) (λi _ _=>by simp[FJ,nD])
 have m:(((List.range ((hs.length:Int)-st).toNat).filter λi=>hs.getD (st+i) false==b).map λi=>nD (st+i))=(aB hs st b).map nD:=by
  unfold aB
  have o:List.range hs.length=List.range st++(List.range (hs.length-st)).map (st+·):=by
   rw[<-List.range_add]
   ext
  rw[o,List.filter_append,List.filter_map]
  have l:(List.range st).filter (λi=>decide (st<=i)&&(hs.getD i false==b))=[]:=by
   rw[List.filter_eq_nil_iff];grind
  rw[l,Qj];simp[wv]
 have j:((hs.length:Int)-st).toNat=hs.length-st:=by ext
 rw[m,j]at d;simp[NP,Yd,h,g,ak,d]
def mE(k:Kd)(r:Rl):Bool:=bQ (aK r) (aK (vd k))
def Y4{R:List Rl}(b:∀r∈R,In k n r/\sz r<=999999):rm [Yl k R]=some (.bl (R.any (mE k))):=by
 rw[rm,Yj (by rfl)]
 simp[N9,Yd,ak,dD (fe:=Gd) (r:=[↑(Yl k R)]) (enc:=aK) (λr=>.bl (mE k r)) (λr a=>by
  have:=YQ (b r a).1 (b r a).2
  simp[Gd,this,mE])]
def cj(ks:AE):D:=.dct false (ks.map nD) (ks.map λ_=>.bl true)
theorem r0(l:AE):intsD (l.map nD)=some (l.map λx:Nat=>(x:Int)):=by ext
def xF(x:Nat)(ks:AE):((x:Int)∈ks.map λx:Nat=>(x:Int))↔x∈ks:=by simp
def HG(x:Nat)(ks:AE)(a:Bool):dn a (nD x) (cj ks)=some (decide (x∈ks)!=a):=by
 rw[cj,Ci,r0,Option.map_some,decide_eq_decide.mpr (xF x ks)]
def HH(x:Nat)(ks:AE)(a:Bool):cP a (.int (x:Int)) (cj ks)=some (decide (x∈ks)!=a):=by
 rw[cj,uI,r0,Option.map_some,decide_eq_decide.mpr (xF x ks)]
theorem HI(ks:AE)(hk:∀x∈ks,x<60)(neg:Bool):cP neg .non (cj ks)=some (false != neg):=by
 rw[cj,CC,r0,qd,if_pos];unfold l5;rw[List.all_eq_true];intro n hn;obtain⟨y,hy,rfl⟩:=qy hn;have:=hk y hy;simp only[wm];lia
def HJ(x:Nat)(ks:AE):dV false (nD x) (cj ks)=none:=rfl
def Y5(r:bL)(ks:AE):kZ [dY r,cj ks]=some (.bl (kn r.1 ks)):=by
 rw[kZ,Yj (by rfl)];simp[wX,Yd,ak,dD (fe:=Yy) (r:=[↑(cj ks)]) (enc:=nD) (λx=>.bl (decide (x∈ks))) (l:=r.1) (λx _=>by simp[Yy,HG x ks false,HJ x ks]),kn]
theorem Y6(R:List bL)(ks:AE)(i:Nat)(h:i<R.length):wY [bg R,cj ks,.int (i:Int)]=some (.bl ((aA R i).2.isSome&&kn (aA R i).1 ks)):=by
 rw[wY,Yj (by rfl)];have b:=lj (R:=R) (i:=i) ⟨by lia,by ext⟩;have a:=YX R i;rw[wn (by ext)]at a
 cases c:(aA R i).2 with
 | none=>simp[Gb,Yd,a,b,c,av]
 | some x=>simp[Gb,Yd,a,b,Y5 (aA R i) ks,c,av]
def r6(R:List bL)(ks:AE)(i:Nat):Bool:=match (aA R i).2 with
 | none=>false
 | some x=>!decide (x∈ks)&&kn (aA R i).1 ks
def dP(R:List bL)(ks:AE):AL:=(List.range R.length).find? (r6 R ks)
theorem HK{f:Type}(enc:f->D)(p:f->Bool)(e:f->D)(I:Ro->Prop):∀(l:List f) (ρ:Ro),I ρ->
 (∀a∈l,∀ρ,I ρ->∃d,gt (enc a) ρ=some d/\((p a=false/\∃c,fb d=some (.nx c)/\I c)\/(p a=true/\fb d=some (.rt (e a)))))->
 (∃a,l.find? p=some a/\M.forM gt fb (l.map enc) ρ=some (.rt (e a)))\/(l.find? p=none/\∃ρ',M.forM gt fb (l.map enc) ρ=some (.nx ρ')/\I ρ')
 | [],ρ,g,_=>.inr ⟨rfl,ρ,rfl,g⟩
 | a::l,ρ,g,k=>by
   obtain⟨d,m,h⟩:=k a qh ρ g;rw[Qd,M.forM,m,qd,List.find?_cons];rcases h with⟨i,c,j,n⟩|⟨i,j⟩
   .rw[j,i]
    exact HK enc p e I l c n λb o=>k b (qg _ o)
   ext
def xG(R:List bL):fi (R.map dY)=(List.range R.length).map λi:Nat=>D.tup [.int (i:Int),dY (aA R i)]:=by
 unfold fi;rw[qf];refine Qq λi a=>?_;rw[aA,w6,List.getD_eq_getElem?_getD,Qm,List.getD_eq_getElem?_getD,qr (Qb a)];rfl
theorem O_(R:List bL)(ks:AE)(o:∀x∈ks,x<60):ri [bg R,cj ks]=some (av (dP R ks)):=by
 rw[ri,Yj (by rfl)];have k:Yd 4 [bg R,cj ks]=[some _,some _,none,none]:=rfl;rw[k]
 have h:=HK (gt:=ez 2 3) (fb:=mu) (λi:Nat=>.tup [.int i,dY (aA R i)]) (r6 R ks) (λi=>.int i) (λm=>∃y z,m=[↑(bg R),↑(cj ks),y,z]) _
  _ ⟨none,none,rfl⟩ (by
   rintro i p m ⟨y,z,rfl⟩;have f:i<R.length:=Qb p;refine⟨[some _,some _,some _,some _],rfl,?_⟩;have a:=Y6 R ks i f;have g:=HI ks o true;unfold r6
   cases d:(aA R i).2 with
   | none=>
     left;refine⟨rfl,[some _,some _,↑(.int i),↑(dY (aA R i))],?_,_,_,rfl⟩;simp[mu,d,av,g,a]
   | some x=>
     have e:=HH x ks true;by_cases c:x∈ks
     .left
      refine⟨by simp[c],[some _,some _,↑(.int i),↑(dY (aA R i))],?_,_,_,rfl⟩;simp[mu,d,av,e,c]
     .cases b:kn _ ks with
      | false=>
        left;rw[b]at a;refine⟨by simp,[some _,some _,↑(.int i),↑(dY (aA R i))],?_,_,_,rfl⟩;simp[mu,d,av,e,c,a]
      | true=>
        right;rw[b]at a;refine⟨by simp[c],?_⟩
        simp[mu,d,av,e,c,a])
 rw[N7];rcases h with⟨i,j,l⟩|⟨j,n,l,q⟩
 .simp[fH,xG,l,dP,j,av]
 .simp[fH,xG,l,dP,j,av]
theorem Pa(h:dP R ks=some i):i<R.length/\∃x,(aA R i).2=some x/\x∉ks/\kn (aA R i).1 ks=true:=by
 unfold dP at h;have a:=List.find?_some h;unfold r6 at a;grind
theorem HL(h:dP R ks=none)(a:i<R.length)(c:(aA R i).2=some x)(b:kn (aA R i).1 ks=true):x∈ks:=by
 have:=List.find?_eq_none.mp h i (List.mem_range.mpr a);unfold r6 at this
 ext
theorem r9:∀(n:Nat) (l:AE),l.Nodup->(∀x∈l,x<n)->l.length<=n
 | 0,l,_,h=>by
   cases l with
   | nil=>simp
   | cons a l=>exact absurd (h a qh) (by lia)
 | n+1,l,b,h=>by
   have d:=r9 n _ (b.erase n) λx c=>by
    grind
   grind
def Der(R:List bL):AE->AE->Prop
 | _,[]=>True
 | ks,i::is=>(i<R.length/\(∃x,(aA R i).2=some x)/\kn (aA R i).1 ks=true)/\Der R (ks++[bw (aA R i)]) is
theorem Pb(h:∀x,x∈ks↔x∈fs):kn b ks=kn b fs:=by
 unfold kn
 ext
theorem Der.congr:∀{a ks fs:AE},(∀x,x∈ks↔x∈fs)->Der R ks a->Der R fs a
 | [],_,_,_,_=>trivial
 | i::a,ks,fs,h,d=>by
   obtain⟨⟨b,c,e⟩,d⟩:=d;refine⟨⟨b,c,by rwa [<-Pb h]⟩,.congr (λx=>?_) d⟩;simp[h x]
theorem Y7(R:List bL)(g:∀r∈R,∀x,r.2=some x->x<60)(y:AQ):∀(m a:Nat) (ks b:AE),60<=ks.length+m->m+1<=a->ks.Nodup->(∀x∈ks,x<60)->b.length+m<=1000->
 ∃js:AE,dP R (ks++js.map λi:Nat=>bw (aA R i))=none/\(ks++js.map λi:Nat=>bw (aA R i)).Nodup/\(∀x∈ks++js.map (λi:Nat=>bw (aA R i)),x<60)/\Der R ks js/\js.length<=m/\
  c5 (b2 (aa 4) (kD .non) (bU true)) wZ a [↑(bg R),y,some (.od false (ks.map nD) (ks.map λ_=>.bl true)),some (.ow (b.map nD)),↑(av (dP R ks))] =
   some (.nx [↑(bg R),y,some (.od false ((ks++js.map λi:Nat=>bw (aA R i)).map nD) ((ks++js.map λi:Nat=>bw (aA R i)).map λ_=>.bl true)),some (.ow ((b++js).map nD)),↑.non]):=by
 intro m
 induction m with
 | zero=>
   intro a ks b J L E A G
   have s:dP R ks=none:=by
    cases h:dP R ks with
    | none=>rfl
    | some i=>
      obtain⟨C,x,e,l,_⟩:=Pa h
      have j:x<60:=by
       refine g (aA R i) ?_ x e;unfold aA
       ext
      have:=r9 60 (ks++[x]) (by
       symm) (λz F=>by
       symm)
      ext<;>ac_nf
   refine⟨[],by ext,by ext,by ext,trivial,qv _,?_⟩
   cases a with
   | zero=>ext
   | succ a=>
     rw[c5,s];simp[av]
 | succ m H=>
   intro a ks b J L E A G
   cases a with
   | zero=>ext
   | succ a=>
     cases h:dP R ks with
     | none=>
       refine⟨[],by simpa using h,by ext,by ext,trivial,Qh _,?_⟩;rw[c5];simp[av]
     | some i=>
       obtain⟨C,x,e,l,p⟩:=Pa h
       have j:x<60:=by
        refine g (aA R i) ?_ x e;unfold aA
        ext
       have u:bw (aA R i)=x:=by simp[bw,e]
       have t:(ks++[x]).Nodup:=by
        symm
       have k:∀z∈ks++[x],z<60:=λz F=>by
        symm
       obtain⟨js,k1,Z,k3,U,T,N⟩:=H a (ks++[x]) (b++[i]) (by simp;ac_nf) (by ext) t k (by simp;ac_nf)
       have I:ks++(i::js).map (λi:Nat=>bw (aA R i))=ks++[x]++js.map λi:Nat=>bw (aA R i):=by simp[u]
       refine⟨i::js,by symm,by symm,by symm,⟨⟨C,⟨x,e⟩,p⟩,by symm⟩,by simp;ac_nf,?_⟩;rw[I]
       have O:b++i::js=b++[i]++js:=by simp
       rw[O,<-N,c5]
       have c:b.length<1000000:=by ac_nf
       have d:ks.length<1000000:=by have:=r9 60 ks E A;ac_nf
       have w:=O_ R (ks++[x]) k;have v:=lj (R:=R) (i:=(i:Int)) ⟨by ac_nf,by ac_nf⟩
       have n:lY (ks.map nD) (ks.map λ_=>.bl true) (.int (x:Int)) (.bl true)=some ((ks++[x]).map nD,(ks++[x]).map λ_=>.bl true):=by
        have Q:¬(x:Int)∈ks.map λx:Nat=>(x:Int):=λz=>l ((xF x ks).mp z);rw[lZ,r0,qd,qf,if_pos (show ks.length<ax from d),if_neg Q];simp[nD]
       have o:scal (av (dP R (ks++[x])))=some (av (dP R (ks++[x]))):=by cases dP R (ks++[x])<;>simp[av]
       have q:frz1 2 [↑(bg R),y,some (.od false ((ks++[x]).map nD) ((ks++[x]).map λ_=>.bl true)),some (.ow ((b++[i]).map nD)),↑(.int (i:Int))]=[↑(bg R),y,↑(cj (ks++[x])),some (.ow ((b++[i]).map nD)),↑(.int (i:Int))]:=rfl
       have M:wZ [↑(bg R),y,some (.od false (ks.map nD) (ks.map λ_=>.bl true)),some (.ow (b.map nD)),↑(.int (i:Int))] =
        some (.nx [↑(bg R),y,some (.od false ((ks++[x]).map nD) ((ks++[x]).map λ_=>.bl true)),some (.ow ((b++[i]).map nD)),↑(av (dP R (ks++[x])))]):=by
        have f:b.map nD++[D.int (i:Int)]=(b++[i]).map nD:=by simp[nD]
        unfold wZ;simp only[eh,Eh];have K:av (some x)=.int (x:Int):=rfl;generalize av (dP R (ks++[x]))=nx,(ks++[x]).map nD=V,((ks++[x]).map λ_=>D.bl true)=Y,(b++[i]).map nD=S at *;simp[cb,c,v,e,K,n,f,q,w,o,-lZ]
       simp[av,M,-wu]
theorem Pc[DecidableEq a](x:a)(y:b):∀(ks:List a),aJ ks (ks.map λ_=>y) x y=ks.map λ_=>y
 | []=>rfl
 | k::ks=>by
   rw[Qd,aJ]
   split
   .rfl
   .rw[Pc x y ks]
noncomputable def dd(ks:AE):AE->AE
 | []=>ks
 | x::fs=>dd (if x∈ks then ks else ks++[x]) fs
theorem HM:∀(fs ks:AE) (x:Nat),x∈dd ks fs↔x∈ks\/x∈fs
 | [],ks,x=>by simp[dd]
 | k::fs,ks,x=>by
   rw[dd,HM fs];grind
theorem Pd:∀(fs ks:AE),ks.Nodup->(dd ks fs).Nodup
 | [],_,h=>h
 | k::fs,ks,h=>by
   refine Pd fs _ ?_;grind
theorem HN:∀(fs ks:AE),ay (ks.map λx:Nat=>(x:Int)) (ks.map λ_=>D.bl true) (fs.map λx:Nat=>((x:Int),D.bl true))=((dd ks fs).map (λx:Nat=>(x:Int)),(dd ks fs).map λ_=>D.bl true)
 | [],ks=>rfl
 | x::fs,ks=>by
   rw[Qd,ay,dd];unfold ba;by_cases h:x∈ks
   .rw[if_pos ((xF x ks).mpr h),if_pos h]
    have e:=Pc (x:Int) (D.bl true) (ks.map λx:Nat=>x);rw[Qf]at e;have a:aJ _ (ks.map λ_=>D.bl _) _ _=_:=e;rw[a];exact HN fs ks
   .have:=HN fs (ks++[x])
    ext
theorem Pe:∀fs:AE,fv (fs.map λx=>D.tup [nD x,.bl true])=some (fs.map λx:Nat=>((x:Int),D.bl true))
 | []=>by simp[fv]
 | x::fs=>by
   rw[Qd,fv,Pe fs];rfl
def HP(l:AE)(vs:AN)(hn:l.Nodup)(hl:l.length<64):∃l':AE,l'.Perm l/\l'.Pairwise (·<·)/\km [.dct false (l.map nD) vs]=some (l'.map nD):=by
 obtain⟨l',h1,h2,h3⟩:=HD l hn hl;refine⟨l',h1,h2,?_⟩;rw[<-h3,L5];show _=lT _;unfold lT;rw[r0];simp[hl]
structure cD(R:List bL)(fs l js:AE):Prop where
 pw:l.Pairwise (·<·)
 mem:∀x,x∈l↔x∈fs++js.map λi:Nat=>bw (aA R i)
 der:Der R fs js
 none:∀i,i<R.length->∀x,(aA R i).2=some x->kn (aA R i).1 l=true->x∈l
 lt:∀x∈l,x<60
 len:js.length<=60
theorem r_(R:List bL)(j:∀r∈R,∀x,r.2=some x->x<60)(fs:AE)(I:∀x∈fs,x<60)(w:fs.length<=1000)(E:Yc c=some (fs.map nD)):
 ∃l js,cD R fs l js/\Yv [bg R,c]=some (.tup [.lst (l.map nD),.tup (js.map nD)]):=by
 have e:∀x∈dd [] fs,x<60:=λx b=>by
  rw[HM]at b
  ext
 have g:(dd [] fs).Nodup:=Pd fs [] .nil;obtain⟨js,A,p,n,u,B,J⟩:=Y7 R j (↑c) 60 4000 (dd [] fs) [] (by lia) (by lia) g e nofun;have q:=r9 60 _ p n;obtain⟨l,h,F,H⟩:=HP (dd [] fs++js.map λi:Nat=>bw (aA R i)) ((dd [] fs++js.map λi:Nat=>bw (aA R i)).map λ_=>.bl true) p (by lia)
 have f:∀x,x∈dd [] fs↔x∈fs:=λx=>by rw[HM];simp
 refine⟨l,js,⟨F,λx=>?_,u.congr f,λi G x b t=>?_,λx b=>n x (h.mem_iff.mp b),B⟩,?_⟩
 .grind
 .rw[h.mem_iff]
  exact HL A G b (by rw[<-t];exact Pb λz=>h.mem_iff.symm)
 .rw[Yv,Yj (by rfl)]
  have k:Yd 5 [bg R,c]=[↑(bg R),↑c,none,none,none]:=rfl;rw[k];have a:=dD (fe:=Gc) (r:=[]) (enc:=nD) (λx=>D.tup [nD x,.bl true]) (l:=fs) (λx _=>by constructor<;>lia);have m:=O_ R (dd [] fs) e
  have y:scal (av (dP R (dd [] fs)))=some (av (dP R (dd [] fs))):=by cases dP R (dd [] fs)<;>simp[av]
  have d:=HN fs [];rw[List.map_nil,List.map_nil]at d
  have o:(fs.map λx:Nat=>((x:Int),D.bl true)).length<1000000:=by ext<;>lia
  have C:((dd [] fs).map λx:Nat=>(x:Int)).map D.int=(dd [] fs).map nD:=by ext
  have s:frz1 2 [↑(bg R),↑c,some (.od false ((dd [] fs).map nD) ((dd [] fs).map λ_=>.bl true)),some (.ow []),none]=[↑(bg R),↑c,↑(cj (dd [] fs)),some (.ow []),none]:=rfl
  have v:(fw 2 (lF (bu (b1 (ab 1) Yc) [none] (ai 0) tY (Gc)))) [↑(bg R),↑c,none,none,none]=some (.nx [↑(bg R),↑c,some (.od false ((dd [] fs).map nD) ((dd [] fs).map λ_=>.bl true)),none,none]):=by
   simp only[Mb];simp[E,ak,a,Pe]
   ext
  rw[N8]
  ext
def Pf(c:Bool)(a b:aC):aI c (af a) (af b)=some (if c then !decide (a=b)else decide (a=b)):=by
 rw[pR nofun nofun,M7]
noncomputable def iH(a:aC)(l:AX):Option aC:=if a∈l then some ((l.filter λt=>!decide (t=a)).headD a)else none
def bG(L:AW)(s:aC):AX:=L.filterMap (iH (aP s))
abbrev mF(l:AX):D:=aK (.ei l)
abbrev aT(L:AW):D:=.tup [bf .e,.tup (L.map mF)]
theorem HQ(p:L.length<=1000)(s:aC):v8 [aT L,af s]=some (.lst ((bG L s).map af)):=by
 have k:∀a,(∃r,[]++L=a++r)->(bG a s).length<1000000:=λa ⟨r,e⟩=>by
  have u:(bG a s).length<=a.length:=List.length_filterMap_le _ _
  ext<;>lia
 obtain⟨n,m,y,z,rfl⟩:=gM (gt:=ai 4) (fb:=qT) mF (λa j=>∃(y z:AQ),
  j=[some _,some _,some _,some (.ow ((bG a s).map af)),y,z]) L []
  [some _,some _,↑(af (aP s)),some (.ow []),none,none] ⟨none,none,rfl⟩ (by
   rintro q l r j e ⟨y,z,rfl⟩;have f:=p_ (c:=mF l) (aP s) l false rfl
   have b:bG (q++[l]) s=bG q s++(iH (aP s) l).toList:=by
    simp only[bG];grind
   by_cases h:aP s∈l
   .have g:=gO (fc:=FB) (fe:=FC) (r:=[↑(af (aP s))]) (enc:=af) (λt=>!decide (t=aP s)) af (l:=l) (λx _=>by
     simp[FB,Pf]) (λx _ _=>by simp[FC])
    have i:iH (aP s) l=some ((l.filter λt=>!decide (t=aP s)).headD (aP s)):=by rw[iH,if_pos h]
    rw[i]at b;generalize (l.filter _)=os at g b;have c:∀d:D,cb ((bG q s).map af) d=_:=λd=>vE (by ext);refine⟨_,_,rfl,?_,↑(mF l),some (.ow (os.map af)),rfl⟩
    cases os with
    | nil=>simp[qT,f,h,ak,g,c,b]
    | cons o os=>simp[qT,f,h,ak,g,c,b]
   .have i:iH (aP s) l=none:=by rw[iH,if_neg h]
    rw[i]at b;refine⟨_,_,rfl,?_,↑(mF l),z,rfl⟩
    simp[qT,f,h,b])
 rw[v8,Yj (by rfl)];simp[FD,Yd,xD];rw[m];constructor<;>lia
noncomputable def eT(a:AX)(i:Nat):aC:=a.getD i (0,false)
def Pg(L:AW)(a:AX)(i:Nat):Bool:=decide (eT a (i+1)∈bG L (eT a i))
def iI(L:AW)(a:AX):Bool:=decide (0<a.length)&&(List.range (a.length-1)).all (Pg L a)
def mG(l:AX):aC:=eT l (l.length-1)
theorem Ph(h:iI L l=true):0<l.length:=by
 unfold iI at h
 ext
def HR(L:AW):Yl .e (L.map Rl.ei)=aT L:=by simp[Yl,wv]
def there(L:AW)(o k:AX):Bool:=iI L o&&(iI L k&&(decide (mG o=eT k 0)&&decide (mG k=eT o 0)))
def dy(R:List bL)(a:AF):AE:=a.map λi=>bw (aA R i)
theorem HU(a:Bool)(x:Nat)(b:AL):aI a (.int (x:Int)) (av b)=some (if a then !decide (some x=b)else decide (some x=b)):=by
 cases b with
 | none=>
   have:bQ (.int x) .non=false:=by simp[bQ,aE,PyData.eqv]
   rw[pR nofun nofun];simp[av,this]
 | some y=>simp[av]
noncomputable def gR(b:AL)(S:AE):AE:=S.filter λy=>!decide (some y=b)
theorem Y8(S:AE)(b:AL):jw [.lst (S.map nD),av b]=some (.tup ((gR b S).map nD)):=by
 rw[jw,Yj (by rfl)]
 simp[F3,Yd,ak,gO (fc:=qZ) (fe:=q0) (r:=[↑(av b)]) (enc:=nD) (λy=>!decide (some y=b)) nD (l:=S) (λy _=>by
  simp[qZ,HU]) (λ_ _ _=>by simp[q0]),gR]
def HV(R:List bL)(S:AE)(b:AL)(a:AF):Bool:=match b with
 | none=>decide (a.length=0)
 | some x=>decide (x∈S)&&ec R S a
def lk(R:List bL)(a:AE)(b:AL)(c:AF):AE:=match b with
 | none=>[]
 | some x=>a.filter λy=>decide (y<x)&&decide (y∈dy R c)
def iJ(R:List bL)(b:AL)(a:AF)(fs:AE):Bool:=decide (0<a.length)&&(decide (0<=a.getD (a.length-1) 0/\a.getD (a.length-1) 0<R.length)&&(ec R fs a.dropLast&&(kn (aA R (a.getD (a.length-1) 0)).1 (fs++dy R a.dropLast)&&(decide ((aA R (a.getD (a.length-1) 0)).2=none)||decide ((aA R (a.getD (a.length-1) 0)).2=b)))))
theorem HX(h:∀x,x∈ks↔x∈fs):kn b ks=kn b fs:=by
 unfold kn;grind
def ll(R:List bL)(c S:AE)(b:AL)(a js:AF):Bool:=HV R S b a&&iJ R b js (gR b S++lk R c b a)
abbrev fO:=Nat×Option Nat×Bool
def cR(r:fO):D:=.tup [.int r.1,av r.2.1,.bl r.2.2]
abbrev lp:=Option Nat×Bool
noncomputable def dZ(rows:List fO)(s:aC):lp:=
 match rows.find? (λr=>r.1==s.1)with
 | none=>(some s.1,s.2)
 | some r=>(r.2.1,s.2==r.2.2)
noncomputable def mH(e:lp):lp:=(e.1,!e.2)
def se(a:List lp):Bool:=a.any λe=>decide (e=(none,true))||decide (mH e∈a)
noncomputable def iK(S:AE)(r:fO):Bool:=match r.2.1 with
 | none=>true
 | some x=>decide (x∈S)&&decide (x<r.1)
theorem Pi:∀{a b:AE},a.Pairwise (·<·)->b.Pairwise (·<·)->(∀x,x∈a↔x∈b)->a=b
 | [],[],_,_,_=>rfl
 | [],y::b,_,_,h=>absurd ((h y).mpr qh) nofun
 | x::a,[],_,_,h=>absurd ((h x).mp qh) nofun
 | x::a,y::b,d,g,h=>by
   rw[List.pairwise_cons]at d g
   have c:x=y:=by
    have f:=(h x).mp qh;have e:=(h y).mpr qh;grind
   subst c
   have:=Pi d.2 g.2 λz=>by
    grind
   rw[this]
abbrev cG:=Nat×List Nat×Bool
def a7(r:cG):D:=.tup [.int r.1,.tup (r.2.1.map nD),.bl r.2.2]
@[simp] def mI(r:cG):Yc (a7 r)=some [.int r.1,.tup (r.2.1.map nD),.bl r.2.2]:=nr rfl
def HY(a b c:D):bD [a,b,c] 1=some b:=rfl
def HZ(a b c:D):bD [a,b,c] 2=some c:=rfl
def gS(rows:List cG):D:=.dct false (rows.map λr=>nD r.1) (rows.map a7)
theorem Pj:∀(c:List (Int×a)) (ns:AF) (vs:List a),(ns++c.map (·.1)).Nodup->ay ns vs c=(ns++c.map (·.1),vs++c.map (·.2))
 | [],ns,vs,_=>by simp[ay]
 | p::c,ns,vs,h=>by
   rw[ay,ba,if_neg (λb=>by
    grind)]
   have d:((ns++[p.1])++c.map (·.1)).Nodup:=by simpa using h
   rw[Pj c _ _ d];simp
theorem Y9{l:AE}(h:l.Nodup):(l.map λx:Nat=>(x:Int)).Nodup:=by grind
theorem H_(x:Nat):∀rows:List cG,Yn (rows.map λr=>((r.1:Nat):Int)) (rows.map a7) (x:Int)=(rows.find? (λr=>r.1==x)).map a7
 | []=>rfl
 | r::l=>by
   rw[Qd,Qd,Yn,H_ x l]
   split<;>ext
noncomputable def cS(rows:List cG)(x:Nat):cG:=(rows.find? (λr=>r.1==x)).getD (x,[x],false)
def cq(rows:List cG)(x:Nat):Sm:=(λy=>decide (y∈(cS rows x).2.1),(cS rows x).2.2)
theorem Ia(h:∀r∈rows,r.2.1.Pairwise (·<·)/\∀y∈r.2.1,y<60)(b:x<60):(cS rows x).2.1.Pairwise (·<·)/\∀y∈(cS rows x).2.1,y<60:=by
 unfold cS
 cases e:rows.find? _ with
 | none=>exact⟨by simp,λy a=>by ext⟩
 | some r=>exact h r (List.mem_of_find?_eq_some e)
def Ib(rows:List cG)(x:Nat):i6 (gS rows) (.int (x:Int)) (.tup [.int (x:Int),.tup [.int (x:Int)],.bl false])=some (a7 (cS rows x)):=by
 rw[gS,Cj,vC _ _,Option.map_some,H_];unfold cS;cases rows.find? _<;>rfl
def Ic(h:∀r∈rows,r.2.1.Pairwise (·<·)/\∀y∈r.2.1,y<60)(b:x<60):D.tup [.tup ((cS rows x).2.1.map nD),.bl (cS rows x).2.2]=bh (cq rows x):=by
 obtain⟨a,c⟩:=Ia h b;exact rW a c _
def fC(rows:List cG)(a:Sm)(x:Nat):Sm:=(λy=>a.1 y != (cq rows x).1 y,a.2 != (cq rows x).2)
def aZ(rows:List cG)(l:AE):Sm:=l.foldl (fC rows) (λ_=>false,false)
theorem Ie(rows:List cG)(q:AE)(x:Nat):aZ rows (q++[x])=fC rows (aZ rows q) x:=by
 unfold aZ;grind
theorem Y_(h:∀r∈rows,r.2.1.Pairwise (·<·)/\∀y∈r.2.1,y<60)(a:Sm):rD [bh a,gS rows]=some (bh (aZ rows (fl 60 a.1))):=by
 have k:∀x∈fl 60 a.1,x<60:=λx c=>Qb (Qc c).1;have i:Yc (bh a)=some _:=rfl;generalize bh a=d,fl 60 a.1=F at *
 obtain⟨o,n,g,f,rfl⟩:=gM (gt:=ai 3) (fb:=Gv) nD (λj l=>∃(g f:AQ),l=[↑d,↑(gS rows),↑(bh (aZ rows j)),g,f]) F []
  _ ⟨none,none,rfl⟩ (by
   rintro q x r l e ⟨g,f,rfl⟩;have c:=k x (by ext)
   have b:mn [bh (aZ rows q),bh (cq rows x)]=some (bh (aZ rows (q++[x]))):=by rw[Ie];exact(O4 _ _ _ _)
   rw[<-(Ic h c)]at b;refine⟨_,[some _,some _,some _,↑(nD x),↑(a7 (cS rows x))],rfl,?_,_,_,rfl⟩
   simp[Gv,Ib rows x,HZ,b])
 rw[rD,Yj (by rfl)];have m:.tup [.tup [],.bl false]=bh (aZ rows []):=rfl;simp[Ol,Yd,m,i,n]
abbrev jz:=Nat×AE
def c4(r:jz):D:=.tup [.int r.1,.tup (r.2.map nD)]
theorem Za(l:AE)(x:Nat):xk [.tup (l.map nD),.int x]=some (.lst ((l.filter λy=>decide (y<x)).map nD)):=by
 rw[xk,Yj (by rfl)]
 simp[Om,Yd,ak,gO (fc:=Gw) (fe:=Gx) (r:=[↑(.int x)]) (enc:=nD) (λy=>decide (y<x)) nD (l:=l) (λy _=>by
  simp[Gw]) (λy _ _=>by simp[Gx])]
noncomputable def od(l:AE)(E:AH):Bool:=decide ((l.filter E).length%2=1)
def xH(E:AH):od [] E=false:=rfl
theorem gu(a:Nat)(l:AE)(E:AH):od (a::l) E=(E a != od l E):=by
 unfold od;grind
def gw(h:∀x∈l,E x=F x):od l E=od l F:=by
 unfold od;rw[List.filter_congr h]
theorem mJ(h:∀x∈l,E x=false):od l E=false:=by
 unfold od;rw[List.filter_eq_nil_iff.mpr λx a=>by grind];rfl
theorem sg:∀{l:AE},l.Nodup->∀y:Nat,od l (λx=>decide (y=x))=decide (y∈l)
 | [],_,y=>by simp[xH]
 | a::l,h,y=>by
   rw[List.nodup_cons]at h;rw[gu,sg h.2];by_cases e:y=a
   .subst e
    simp[h.1]
   .simp[e]
def xr(T E:AH):Bool:=od (.range 60) (λx=>T x&&E x)
theorem xI(f g:AH):∀l:AE,od l (λx=>f x != g x)=(od l f != od l g)
 | []=>rfl
 | a::l=>by
   rw[gu,gu,gu,xI f g l];cases f a<;>cases g a<;>cases od l f<;>cases od l g<;>rfl
def si(T S E:AH):xr (λx=>T x != S x) E=(xr T E != xr S E):=by
 unfold xr;rw[<-xI]
 exact gw λx _=>show((T x != S x)&&E x)=((T x&&E x)!=(S x&&E x)) by cases T x<;>cases S x<;>cases E x<;>rfl
theorem sj(b:a<60)(E:AH):xr (λx=>decide (x=a)) E=E a:=by
 unfold xr
 have h:od (.range 60) (λx=>decide (x=a)&&E x)=od _ (λx=>decide (a=x)&&E a):=gw λx _=>by
  grind
 rw[h]
 cases E a with
 | false=>exact mJ λx _=>by simp
 | true=>
   have c:od (.range 60) (λx=>decide (a=x)&&true)=od _ (λx=>decide (a=x)):=gw λx _=>by simp
   rw[c,sg List.nodup_range];simp[b]
theorem xJ(E:AH):∀{l:AE},l.Nodup->(∀x∈l,x<60)->xr (λx=>decide (x∈l)) E=od l E
 | [],_,_=>mJ λx _=>by simp
 | a::l,b,c=>by
   rw[List.nodup_cons]at b
   have e:(λx=>decide (x∈a::l))=λx=>decide (x=a)!=decide (x∈l):=funext λx=>by
    by_cases h:x=a
    .subst h
     simp[b.1]
    .simp[h]
   rw[e,si,sj (c a nofun),xJ E b.2 λx d=>c x (by simp[d]),gu]
def sk(f E:AH):od (fl 60 f) E=xr f E:=by
 unfold od xr od fl;rw[List.filter_filter,List.filter_congr λx _=>Bool.and_comm _ _]
theorem sq(rows:List cG):∀(l:AE) (a:Sm),(∀y,(l.foldl (fC rows) a).1 y=(a.1 y != od l (λx=>(cq rows x).1 y)))/\(l.foldl (fC rows) a).2=(a.2 != od l (λx=>(cq rows x).2))
 | [],a=>⟨λy=>by rw[xH];ext,by rw[xH];ext⟩
 | x::l,a=>by
   obtain⟨b,c⟩:=sq _ l _;refine⟨λy=>?_,?_⟩
   .rw[List.foldl_cons,b y,gu]
    show((a.1 y != _)!=_)=_
    ext
   .rw[List.foldl_cons,c,gu]
    show((a.2 != _)!=_)=_
    ext
def kp(rows:List cG)(T:AH)(o:Bool):Prop:=(∀y,y<60->xr T (λx=>(cq rows x).1 y)=false)/\xr T (λx=>(cq rows x).2)=o
def lq(h:∀x,x<60->(T x&&E x)=(S x&&F x)):xr T E=xr S F:=gw λx a=>h x (Qb a)
theorem sv(rows:List cG)(T:AH):(∀y,(aZ rows (fl 60 T)).1 y=xr T (λx=>(cq rows x).1 y))/\(aZ rows (fl 60 T)).2=xr T (λx=>(cq rows x).2):=by
 obtain⟨a,b⟩:=sq _ _ _;refine⟨λy=>?_,?_⟩
 .show((fl 60 T).foldl (fC _) _).1 y=_
  rw[a y,sk];symm
 .show((fl 60 T).foldl (fC _) _).2=_
  rw[b,sk];symm
theorem fl_nil:fl 60 T=[]↔∀x,x<60->T x=false:=by ext
def Ig(h:kp rows T o)(h':kp rows S u):kp rows (λx=>T x != S x) (o != u):=
 ⟨λy a=>by rw[si,h.1 y a,h'.1 y a];rfl,by rw[si,h.2,h'.2]⟩
theorem sx(h:∀x,x<60->T x=false):xr T E=false:=mJ λx a=>by
 ext
def Ih(h:∀x,x<60->T x=false):kp rows T false:=⟨λ_ _=>sx h,sx h⟩
theorem Red.kp(a:∀r∈BL,kp rows (tP R r.2) (aH R (fl 60 r.2)))(h:Red R BL false T o):Lw.kp rows T o:=by
 induction h with
 | zero e d=>
   rw[d rfl];exact Ih e
 | step r b f _ c=>
   have:=Ig c (a r b)
   ext
theorem Zb(h:x≠r.1):cS (rows++[r]) x=cS rows x:=by
 unfold cS;grind
def Zc(h:r.1∉rows.map (·.1)):cS (rows++[r]) r.1=r:=by
 unfold cS;rw[List.find?_append]
 have e:(rows.find? λq=>q.1==r.1)=none:=by
  rw[List.find?_eq_none];intro q a z;exact h (List.mem_map.mpr ⟨q,a,by simpa using z⟩)
 rw[e];simp
def xK(h:x∉rows.map (·.1)):cS rows x=(x,[x],false):=by
 unfold cS
 have e:(rows.find? λq=>q.1==x)=none:=by
  rw[List.find?_eq_none];intro q hq z;exact h (List.mem_map.mpr ⟨q,hq,by simpa using z⟩)
 rw[e];rfl
theorem Ii(h:x∈rows.map (·.1)):cS rows x∈rows/\(cS rows x).1=x:=by
 unfold cS
 cases e:rows.find? _ with
 | none=>
   grind
 | some q=>grind
noncomputable def wl(T:AH)(k:Nat):AH:=λx=>T x&&!decide (x=k)
def iL(a:k<60)(b:T k=true)(E:AH):xr T E=(xr (wl T k) E != E k):=by
 rw[<-sj a E,<-si];refine lq λx _=>?_;unfold wl;by_cases e:x=k
 .subst e
  simp[b]
 .simp[e]
def eJ(rows:List cG)(k:Nat)(T:AH)(o:Bool):cG:=(k,fl 60 (aZ rows (fl 60 (wl T k))).1,(aZ rows (fl 60 (wl T k))).2 != o)
inductive Mk (S:AE) (Tf:Nat->AH) (of:AH):List cG->Prop
 | nil:Mk S Tf of []
 | snoc {rows:List cG}{k:Nat}:Mk S Tf of rows->(∀r∈rows,r.1<k)->Last (Tf k) k->(∀x,x<k->Tf k x=true->x∈S\/x∈rows.map (·.1))->Mk S Tf of (rows++[eJ rows k (Tf k) (of k)])
theorem Ij(h:Mk S c e rows):∀r∈rows,∀x,x<60->c r.1 x=true->x<=r.1:=by
 induction h with
 | nil=>simp
 | snoc g f d i b=>
   intro r a;rcases qw a with a|a
   .exact b r a
   .rw[List.mem_singleton]at a
    subst a;exact d.2.2
theorem Ik(h:Mk S a b rows):∀r∈rows,kp rows (a r.1) (b r.1):=by
 induction h with
 | nil=>grind
 | snoc q B i F C=>
   rename_i rows k;have u:∀x,x<k->cS (rows++[eJ rows k (a k) (b k)]) x=cS rows x:=λx e=>Zb (λz=>by have G:x=k:=z;lia)
   have l:k∉rows.map (·.1):=λz=>by
    grind
   have g:cS (rows++[eJ rows k (a k) (b k)]) k=eJ rows k (a k) (b k):=Zc (r:=eJ rows k (a k) (b k)) l;intro r d;rcases qw d with d|d
   .have v:=B r d
    obtain⟨E,s⟩:=C r d;have n:∀x,x<60->a r.1 x=true->x<k:=λx e o=>Nat.lt_of_le_of_lt (Ij q r d x e o) v;refine⟨λy p=>?_,?_⟩
    .rw[<-E y p]
     refine lq λx e=>?_
     cases o:a r.1 x with
     | false=>rfl
     | true=>
       unfold cq
       ext
    .rw[<-s]
     refine lq λx e=>?_
     cases o:a r.1 x with
     | false=>rfl
     | true=>
       unfold cq
       ext
   .rw[List.mem_singleton]at d
    subst d;show kp _ (a k) (b k);obtain⟨D,A⟩:=sv rows (wl (a k) k)
    have n:∀x,x<60->wl (a k) k x=true->x<k:=λx e j=>by
     unfold wl at j;rw[Qe]at j;have:=i.2.2 x e j.1
     (simp;lia)
    have c:∀f:cG->Bool,xr (wl (a k) k) (λx=>f (cS (rows++[eJ rows k (a k) (b k)]) x))=xr (wl (a k) k) (λx=>f (cS rows x)):=λf=>lq λx e=>by
     grind
    refine⟨λy p=>?_,?_⟩
    .rw[iL i.1 i.2.1]
     have t:(cq (rows++[eJ rows k (a k) (b k)]) k).1 y=(aZ rows (fl 60 (wl (a k) k))).1 y:=by
      unfold cq;rw[g];show decide (y∈fl 60 (aZ rows (fl 60 (wl (a k) k))).1)=_
      ext
     have m:=c λr=>decide (y∈r.2.1)
     have w:xr (wl (a k) k) (λx=>(cq (rows++[eJ rows k (a k) (b k)]) x).1 y)=(aZ rows (fl 60 (wl (a k) k))).1 y:=by
      rw[D y];exact m
     ext
    .rw[iL i.1 i.2.1]
     have t:(cq (rows++[eJ rows k (a k) (b k)]) k).2=((aZ rows (fl 60 (wl (a k) k))).2 != b k):=by
      unfold cq;rw[g];rfl
     have m:=c λr=>r.2.2
     have w:xr (wl (a k) k) (λx=>(cq (rows++[eJ rows k (a k) (b k)]) x).2)=(aZ rows (fl 60 (wl (a k) k))).2:=by
      rw[A];exact m
     ext
theorem Pk:∀{l:AE}{E:AH},od l E=true->∃x∈l,E x=true
 | [],_,h=>by cases h
 | a::l,E,h=>by
   rw[gu]at h
   cases c:E a with
   | true=>ext
   | false=>
     have b:od l E=true:=by grind
     obtain⟨x,d,e⟩:=Pk b;grind
def Pl(h:xr T E=true):∃x,x<60/\T x=true/\E x=true:=by
 obtain⟨x,a,e⟩:=Pk h;rw[Qe]at e;exact⟨x,Qb a,e.1,e.2⟩
theorem sy(h:Mk S v t rows):∀r∈rows,r.1<60/\r.2.1.Pairwise (·<·)/\∀y∈r.2.1,y∈S/\y<r.1:=by
 induction h with
 | nil=>simp
 | snoc u w i m j=>
   rename_i rows k;intro r b;rcases qw b with b|b
   .exact j r b
   .rw[List.mem_singleton]at b
    subst b;refine⟨i.1,.filter _ List.pairwise_lt_range,λy n=>?_⟩;have d:=(Qc n).2;rw[(sv _ _).1 y]at d;obtain⟨x,q,f,p⟩:=Pl d;unfold wl at f;rw[Qe]at f
    have e:x<k:=by
     have:=i.2.2 x q f.1;grind
    have c:=wt p;by_cases a:x∈rows.map (·.1)
    .obtain⟨s,A⟩:=Ii a
     obtain⟨_,_,o⟩:=j _ s;obtain⟨l,z⟩:=o y c;exact⟨l,by show y<k;lia⟩
    .rw[xK a]at c
     have g:y=x:=by grind
     subst g;exact⟨(m y e f.1).resolve_right a,e⟩
def Pm(S:AE)(T:AH)(o:Bool):Prop:=fl 60 T=[]/\o=true\/∃l∈S,Last T l
theorem never(w:rows.map (·.1)=K)(v:∀r∈rows,∀y∈r.2.1,y<r.1)(i:∀x∈S,x∉K)(h:kp rows T o):¬Pm S T o:=λn=>by
 rcases n with⟨f,rfl⟩|⟨l,p,b⟩
 .have:=h.2
  rw[sx (fl_nil.mp f)]at this;cases this
 .have m:=h.1 l b.1
  rw[iL b.1 b.2.1]at m
  have q:(cq rows l).1 l=true:=by
   unfold cq;rw[xK (by grind)];simp
  have u:xr (wl T l) (λx=>(cq rows x).1 l)=false:=by
   cases e:xr _ _ with
   | false=>rfl
   | true=>
     obtain⟨x,k,c,g⟩:=Pl e;unfold wl at c;rw[Qe]at c
     have j:x<l:=by
      have:=b.2.2 x k c.1
      (simp;lia)
     have d:=wt g;by_cases a:x∈rows.map (·.1)
     .obtain⟨t,s⟩:=Ii a
      grind
     .rw[xK a]at d
      ext
  grind
def Il(R:List Sm)(W:AH):Yc (aG R W)=some [.tup ((fl 60 W).map nD),.tup [.tup ((fl 60 (tP R W)).map nD),.bl (aH R (fl 60 W))]]:=rfl
def Pn(h:Last (tP R W) b):rH [aG R W]=some (.int (b:Int)):=by
 rcases Hr (tP R W)with d|⟨c,f,_,a⟩
 .have:=fl_nil.mp d b h.1
  rw[h.2.1]at this;cases this
 .have e:=h.uniq f
  subst e;rw[rH,Yj (by rfl)];simp[Os,Yd,Il R W,a]
def iM(R:List Sm)(S:AE)(W:AH):Prop:=(∀p,W p=true->p<R.length)/\Pm S (tP R W) (aH R (fl 60 W))
theorem Zd(d:jy R R.length BL)(j:rZ R R.length U)(S:AE):
 ∃V:Option AH,(V=none->U=none/\∀r∈BL,r.1∉S)/\(∀W,V=some W->iM R S W)/\mw [.lst (aW R BL),cU U,.lst (S.map nD)]=some (cU V):=by
 cases U with
 | some g=>
   refine⟨some g,λh=>(nomatch h),λW b=>?_,?_⟩
   .cases b
    obtain⟨n,m,k⟩:=j g rfl;exact⟨k,.inl ⟨n,m⟩⟩
   .rw[mw,Yj (by rfl)]
    constructor<;>lia
 | none=>
   have c:=gO (fc:=GE) (fe:=Ou) (r:=[↑(.lst (S.map nD))]) (enc:=λr:c1=>aG R r.2) (λr=>decide (r.1∈S)) (λr=>.tup ((fl 60 r.2).map nD)) (λr a=>by
    have i:=Pn (d.1 r a).1;have e:=eG (c:=.lst _) r.1 S false rfl
    simp[GE,i,e]) (λr a _=>by
    have p:=Il R r.2
    constructor<;>lia)
   have l:(BL.map _)=aW R BL:=rfl
   cases f:BL.filter _ with
   | nil=>
     rw[f]at c;refine⟨none,λ_=>⟨rfl,λr a z=>?_⟩,λW b=>(nomatch b),?_⟩
     .have:r∈BL.filter λr=>decide (r.1∈S):=List.mem_filter.mpr ⟨a,wn z⟩
      grind
     .rw[mw,Yj (by rfl)]
      simp[GF,Yd,cU,ak,c]
   | cons r L=>
     rw[f]at c;have a:=Qc (by rw[f];exact qh);refine⟨some r.2,λh=>(nomatch h),λW b=>?_,?_⟩
     .cases b
      exact⟨(d.1 r a.1).2,.inr ⟨r.1,wt a.2,(d.1 r a.1).1⟩⟩
     .rw[mw,Yj (by rfl)]
      have o:cU (some r.2)=_:=rfl;simp[GF,Yd,cU,ak,c]
theorem Im(h:Last T k):fl 60 T=fl 60 (wl T k)++[k]:=by
 refine Pi (.filter _ List.pairwise_lt_range) ?_ λx=>?_
 .rw[List.pairwise_append]
  refine⟨.filter _ List.pairwise_lt_range,by simp,λa e b f=>?_⟩;obtain⟨d,c⟩:=Qc e;unfold wl at c;rw[Qe]at c;have:=h.2.2 a (Qb d) c.1
  ext<;>lia
 .rw[List.mem_append,List.mem_singleton,Ql,Ql,List.mem_range]
  unfold wl;constructor
  .simp_all<;>lia
  .rintro(⟨d,c⟩|rfl)
   .simp_all
   .exact⟨h.1,h.2.1⟩
theorem Io(h:Last T k):bN ((fl 60 T).map nD) none (some (-1))=(fl 60 (wl T k)).map nD:=by
 have e:HT.sIx ((fl 60 T).map nD).length ((fl 60 T).map nD).length (some (-1))=(fl 60 T).length-1:=by
  unfold HT.sIx;simp;ac_nf
 unfold bN;rw[e,HT.sIx_none,Im h];simp
def b8(R:List Sm)(BL:List c1)(k:Nat):AH:=if k∈BL.map (·.1)then tP R (bW BL k)else λx=>decide (x=k)
def ej(R:List Sm)(BL:List c1)(k:Nat):Bool:=if k∈BL.map (·.1)then aH R (fl 60 (bW BL k))else false
theorem Po(f:(AH)->D){b:Nat}:∀{BL:List c1},b∉BL.map (·.1)->Yn ((BL.map (·.1)).map λx:Nat=>(x:Int)) (BL.map λr=>f r.2) (b:Int)=none
 | [],_=>rfl
 | r::BL,h=>by
   show Yn (_::_) (f r.2::_) _=none;have e:¬r.1=b:=λz=>h (by grind);rw[Yn,if_neg (by lia)];exact Po f λz=>h (qg _ z)
abbrev iN(R:List Sm)(BL:List c1):AN:=BL.map λr=>bP R (fl 60 r.2)
theorem Ip(R:List Sm)(BL:List c1){k:Nat}(a:k<60):i6 (.dct false (bq BL) (iN R BL)) (.int (k:Int)) (.tup [.tup [.int (k:Int)],.bl false])=some (bh (b8 R BL k,ej R BL k)):=by
 rw[Cj,gq,Option.map_some];unfold b8 ej;by_cases h:k∈BL.map (·.1)
 .have:=(mC (λW=>bP R (fl 60 W)) h).2
  rw[this,if_pos h,if_pos h];rfl
 .have:=Po (λW=>bP R (fl 60 W)) h
  have e:=xE a
  split<;>ext
theorem Pp(b:jy R R.length BL)(a:k<60):Last (b8 R BL k) k:=by
 unfold b8;by_cases h:k∈BL.map (·.1)
 .rw[if_pos h]
  exact(b.1 _ (mC (λ_=>.non) h).1).1
 .rw[if_neg h]
  exact⟨a,by simp,λx _ c=>by ext⟩
theorem Pq(R:List Sm):∀BL:List c1,fv (BL.map λr=>.tup [.int r.1,bP R (fl 60 r.2)])=some (BL.map λr=>((r.1:Int),bP R (fl 60 r.2)))
 | []=>rfl
 | r::l=>by rw[Qd,fv,Pq R l];rfl
def Iq(a:Sm):dW (bh a)=true:=by
 simp [dW,bF,Hu (fl 60 a.1)]
theorem Ze(J:jy R R.length BL)(w:k<60)(O:rows.length<=1000)(x:∀r∈rows,r.1<k/\r.2.1.Pairwise (·<·)/\∀y∈r.2.1,y<60)(h j C l:AQ):
 ∃I F:AQ,xo [h,j,some (.od false (bq BL) (iN R BL)),some (.od false (rows.map λr=>nD r.1) (rows.map a7)),↑(nD k),C,l] =
  some (.nx [h,j,some (.od false (bq BL) (iN R BL)),some (.od false ((rows++[eJ rows k (b8 R BL k) (ej R BL k)]).map λr=>nD r.1) ((rows++[eJ rows k (b8 R BL k) (ej R BL k)]).map a7)),↑(nD k),I,F]):=by
 have A:=Pp J w;have H:=Ip R BL w;have s:Yc (bh (b8 R BL k,ej R BL k))=some [.tup ((fl 60 (b8 R BL k)).map nD),.bl (ej R BL k)]:=rfl;have v:=Io A;have b:=Y_ (rows:=rows) (λr K=>(x r K).2) (wl (b8 R BL k) k,false);have p:bh (wl (b8 R BL k) k,false)=.tup [.tup ((fl 60 (wl (b8 R BL k) k)).map nD),.bl false]:=rfl;rw[p]at b;have u:Yc (bh (aZ rows (fl 60 (wl (b8 R BL k) k))))=some _:=rfl;have E:=Iq (aZ rows (fl 60 (wl (b8 R BL k) k)))
 have f:k∉rows.map (·.1):=λz=>by
  grind
 have e:(rows.map λr=>nD r.1)=(rows.map (·.1)).map nD:=by ext
 have g:∀d:D,lY (rows.map λr=>nD r.1) (rows.map a7) (.int (k:Int)) d=some ((rows.map λr=>nD r.1)++[.int (k:Int)],rows.map a7++[d]):=λd=>by
  rw[lZ,e,gq,qd,if_pos (show(rows.map a7).length<ax by rw[qf];show rows.length<1000000;lia),if_neg (λz=>f (mem_castI.mp z))]
 have c:((rows++[eJ rows k (b8 R BL k) (ej R BL k)]).map λr=>nD r.1)=(rows.map λr=>nD r.1)++[.int (k:Int)]:=by rw[wu];rfl
 have a:(rows++[eJ rows k (b8 R BL k) (ej R BL k)]).map a7=rows.map a7++[.tup [.int (k:Int),.tup ((fl 60 (aZ rows (fl 60 (wl (b8 R BL k) k))).1).map nD),.bl ((aZ rows (fl 60 (wl (b8 R BL k) k))).2 != ej R BL k)]]:=by rw[wu];rfl
 rw[c,a];have i:gS rows=.dct false (rows.map λr=>nD r.1) (rows.map a7):=rfl;rw[i]at b;refine⟨some (.sh (bh (b8 R BL k,ej R BL k))),↑(bh (aZ rows (fl 60 (wl (b8 R BL k) k)))),?_⟩;generalize (aZ rows (fl 60 (wl (b8 R BL k) k))).2=Q at *;generalize (fl 60 (aZ rows (fl 60 (wl (b8 R BL k) k))).1).map nD=N at *;generalize bh (aZ rows (fl 60 (wl (b8 R BL k) k)))=G,(fl 60 (wl (b8 R BL k) k)).map nD=S,(fl 60 (b8 R BL k)).map nD=L,bh (b8 R BL k,ej R BL k)=q at *;generalize ej R BL k=M at *;clear e c a i x f;generalize (rows.map λr=>nD r.1)=n,rows.map a7=o,bq BL=KB,iN R BL=m at *
 have t:gH [3] (cC (Yb (ar (Yb (oV (b2 (aa 5) (aaa 0) ao) none (some (b1 (aaa 1) di))) (Yb (kD (.bl false)) ae))) (Yb (ab 3) ae)) rD) [h,j,some (.od false KB m),some (.od false n o),↑(nD k),↑q,l]=some G:=by
  unfold gH;have T:frz [3] [h,j,some (.od false KB m),some (.od false n o),↑(nD k),↑q,l]=[h,j,some (.od false KB m),↑(.dct false n o),↑(nD k),↑q,l]:=rfl
  ext
 simp[xo,H,t,u,s,g,-Cj,-lZ];grind
theorem Ir(hn:(rows.map (·.1)).Nodup)(c:r∈rows):cO (gS rows) (.int (r.1:Int))=some (a7 r):=by
 have b:intsD (rows.map λr=>nD r.1)=_:=vC _ _;rw[gS,ko,b,qd,H_]
 have f:rows.find? (λq=>q.1==r.1)=some r:=by
  cases e:rows.find? _ with
  | none=>
    grind
  | some q=>
    have g:=List.mem_of_find?_eq_some e
    have d:q.1=r.1:=by grind
    clear e b
    induction rows with
    | nil=>cases c
    | cons a l h=>
      grind
 rw[f];rfl
theorem Zf(hB:jy R R.length BL)(hBl:BL.length<=1000)(hK:K.Pairwise (·<·))(hK60:∀k∈K,k<60)(hS60:∀x∈S,x<60)(hT:∀k∈K,∀x,x<60->b8 R BL k x=true->x∈S\/x∈K):
 ∃rows:List cG,Mk S (b8 R BL) (ej R BL) rows/\rows.map (·.1)=K/\xp [.lst (aW R BL),.lst (K.map nD)]=some (.tup (rows.map a7)):=by
 have hKl:K.length<=60:=HB (hK.imp λh=>qm h) hK60
 have hc:=dD (fe:=rJ) (r:=[]) (enc:=λr:c1=>aG R r.2) (λr=>.tup [.int r.1,bP R (fl 60 r.2)]) (l:=BL) (λr hr=>by
  have hl:=Pn (hB.1 r hr).1;have hi:=Il R r.2;have ht:bP R (fl 60 r.2)=.tup [.tup ((fl 60 (tP R r.2)).map nD),.bl (aH R (fl 60 r.2))]:=rfl;rw[<-ht]at hi;generalize bP R (fl 60 r.2)=TT,aG R r.2=PW at *
  simp[rJ,hl,hi])
 have hrw:(BL.map λr:c1=>aG R r.2)=aW R BL:=rfl;rw[hrw]at hc;have h1:bV (.lst (BL.map λr=>.tup [.int r.1,bP R (fl 60 r.2)]))=some (BL.map λr=>((r.1:Int),bP R (fl 60 r.2))):=Pq R BL;have hn2:=Y9 hB.2
 have hd:=Pj (BL.map λr=>((r.1:Int),bP R (fl 60 r.2))) [] [] (by
  rw[Qj,Qf];rw[Qf]at hn2
  exact hn2)
 have hlen:(BL.map λr=>((r.1:Int),bP R (fl 60 r.2))).length<1000000:=by rw[qf];ac_nf
 obtain⟨ρ',e1,rows,y4,y5,y6,hM,hrk,rfl⟩:=gM (gt:=ai 4) (fb:=xo) nD (λpre ρ=>∃(rows:List cG) (y4 y5 y6:AQ),Mk S (b8 R BL) (ej R BL) rows/\rows.map (·.1)=pre/\
  ρ=[↑(.lst (aW R BL)),↑(.lst (K.map nD)),some (.od false (bq BL) (iN R BL)),some (.od false (rows.map λr=>nD r.1) (rows.map a7)),y4,y5,y6]) K []
  [↑(.lst (aW R BL)),↑(.lst (K.map nD)),some (.od false (bq BL) (iN R BL)),some (.od false [] []),none,none,none] ⟨[],none,none,none,.nil,rfl,rfl⟩ (by
   rintro q k r ρ e ⟨rows,y4,y5,y6,hM,hrk,rfl⟩;rw[Qj]at e
   have hkK:k∈K:=by rw[e];simp
   have hk60:=hK60 k hkK;have hpw:=hK;rw[e,List.pairwise_append]at hpw;have hlt:∀r∈rows,r.1<k:=λr hr=>hpw.2.2 r.1 (by rw[<-hrk];exact Qs (f:=(·.1)) hr) k nofun;have hok:=sy hM
   have hrl:rows.length<=1000:=by
    have g1:=congrArg List.length hrk;have g2:=congrArg List.length e;simp at g1 g2;ac_nf
   obtain⟨z5,z6,hst⟩:=Ze hB hk60 (rows:=rows) hrl (λr hr=>⟨hlt r hr,(hok r hr).2.1,λy hy=>hS60 y ((hok r hr).2.2 y hy).1⟩) (↑(.lst (aW R BL))) (↑(.lst (K.map nD))) y5 y6;refine⟨_,_,rfl,hst,rows++[eJ rows k (b8 R BL k) (ej R BL k)],_,_,_,.snoc hM hlt (Pp hB hk60) λx hx hTx=>?_,?_,rfl⟩
   .rcases hT k hkK x ∅ hTx with h|h
    .exact .inl h
    .right
     rw[hrk];rw[e]at h;rcases qw h with h|h
     .exact h
     .rcases qu h with h|h
      .lia
      .have h3:=hpw.2.1
       rw[List.pairwise_cons]at h3;have:=h3.1 x h;ac_nf
   .rw[wu,hrk]
    rfl)
 rw[Qj]at hrk
 have hn:(rows.map (·.1)).Nodup:=by rw[hrk];exact hK.imp λh=>qm h
 have hc1:=dD (fe:=GG) (r:=[↑(gS rows)]) (enc:=λr:cG=>nD r.1) a7 (l:=rows) (λr hr=>by
  have hg:=Ir hn hr;generalize gS rows=sd,a7 r=rr at *
  simp[GG,hg])
 have hkk:(rows.map λr:cG=>nD r.1)=K.map nD:=by rw[<-hrk,Qf];rfl
 rw[hkk]at hc1;refine⟨rows,hM,hrk,?_⟩
 have hdct:fw 2 (lF (bu (b1 (ab 0) Yc) [none] (ai 0) tY (rJ))) [↑(.lst (aW R BL)),↑(.lst (K.map nD)),none,none,none,none,none]=some (.nx [↑(.lst (aW R BL)),↑(.lst (K.map nD)),some (.od false (bq BL) (iN R BL)),none,none,none,none]):=by
  have hcomp:(lF (bu (b1 (ab 0) Yc) [none] (ai 0) tY rJ)) [↑(.lst (aW R BL)),↑(.lst (K.map nD)),none,none,none,none,none]=some (.lst (BL.map λr=>.tup [.int r.1,bP R (fl 60 r.2)])):=by
   generalize aW R BL=RB at *;simp[ak,hc]
  rw[Mb,hcomp,qd,h1,qd,Ey,if_pos hlen,hd];simp[wv,bq,iN]
 have hsd:gS rows=.dct false (rows.map λr=>nD r.1) (rows.map a7):=rfl;rw[hsd]at hc1;rw[xp,Yj (by rfl)];have hst0:Yd 7 [.lst (aW R BL),.lst (K.map nD)]=[↑(.lst (aW R BL)),↑(.lst (K.map nD)),none,none,none,none,none]:=rfl;rw[hst0,GH,eh,hdct,qd,l_];clear hdct hd hc h1 hn2 hlen hrw hsd hkk hn hrk hM;generalize (rows.map λr=>nD r.1)=RK,rows.map a7=RS,bq BL=KB,iN R BL=TB,aW R BL=RB,K.map nD=KK at *
 have h3:rL [↑(.lst RB),↑(.lst KK),some (.od false KB TB),some (.od false RK RS),y4,y5,y6]=some (.rt (.tup RS)):=by
  have hfz:frz [3] [↑(.lst RB),↑(.lst KK),some (.od false KB TB),some (.od false RK RS),y4,y5,y6]=[↑(.lst RB),↑(.lst KK),some (.od false KB TB),↑(.dct false RK RS),y4,y5,y6]:=rfl;rw[rL,kE,hfz];simp[ak,hc1]
 simp[e1,h3,-rL]
abbrev xM(R:List Sm):D:=.tup [.str "sums",.tup (R.map bh)]
theorem Iu(h:tP R W x=true):∃p,(rg R p).1 x=true:=by
 have a:=by simpa [tP]using h
 unfold bp at a
 cases e:(fl 60 W).filter λp=>decide (x∈fl 60 (rg R p).1)with
 | nil=>grind
 | cons p l=>
   have:p∈(fl 60 W).filter λp=>decide (x∈fl 60 (rg R p).1):=by rw[e];simp
   grind
theorem Iv(h:(rg R p).1 x=true):rg R p∈R/\p<R.length:=by
 by_cases a:p<R.length
 .unfold rg
  ext
 .unfold rg at h
  ext
def mK(h:x∈aB hs st b):x<hs.length:=Qb (Qc h).1
def Pr(R:List Sm)(st n:Nat):Prop:=∀q∈R,∀x,x<60->q.1 x=true->st<=x/\x<n
theorem sA(d:st<=x)(c:x<hs.length):x∈aB hs st false\/x∈aB hs st true:=by
 have a:∀b,hs.getD x false=b->x∈aB hs st b:=λb e=>by
  unfold aB;grind
 grind
theorem xN:∀x∈aB hs st false,x∉aB hs st true:=λx a b=>by
 unfold aB at a b;grind
structure jA(R:List Sm)(K S:AE)(rows:List cG):Prop where
 ks:rows.map (·.1)=K
 row:∀r∈rows,r.1<60/\r.2.1.Pairwise (·<·)/\∀y∈r.2.1,y∈S/\y<r.1
 kept:∀p,p<R.length->kp rows (rg R p).1 (rg R p).2
noncomputable def bX(a:Bool)(b:D):D:=.tup [.str (if a=true then .ofString "storm" else .ofString "keeper"),b]
theorem Zg(hR:R.length<=60)(N:Yc c=some (hs.map aF))(O:hs.length<=60)(y:st<=hs.length)(B:Pr R st hs.length):
 (∃W:AH,iM R (aB hs st false) W/\mx [xM R,c,.int st]=some (bX true (.tup [.str "odd",.tup ((fl 60 W).map nD)])))\/
 (∃rows:List cG,jA R (aB hs st true) (aB hs st false) rows/\mx [xM R,c,.int st]=some (bX false (.tup [.str "sums",.tup (rows.map a7)]))):=by
 have b1:=mD hs N (by lia) st y true;have b2:=mD hs N (by lia) st y false;simp only[aF,if_true,Qo,if_false]at b1 b2;obtain⟨BL,U,i,T,Q,u,b⟩:=Y1 hR;have a:qW [xM R]=_:=b;clear b;obtain⟨V,H,C,d⟩:=Zd i T (aB hs st false)
 have m:∀W x,x<60->tP R W x=true->st<=x/\x<hs.length:=λW x v E=>by
  obtain⟨p,A⟩:=Iu E;exact B _ (Iv A).1 x v A
 have Y:BL.length<=60:=by
  have:=HB i.2 (λx v=>by
   obtain⟨r,j,rfl⟩:=qy v
   exact(i.1 r j).1.1)
  ext
 cases V with
 | some W=>
   refine .inl ⟨W,C W rfl,?_⟩;have Z:cU (some W)=.tup ((fl 60 W).map nD):=rfl;rw[Z]at d;rw[mx,Yj (by rfl)];simp[GJ,Yd,b1,b2,a,d,bX]
 | none=>
   obtain⟨G,F⟩:=H rfl;subst G;have s:(aB hs st true).Pairwise (·<·):=List.Pairwise.filter _ List.pairwise_lt_range
   have E:∀k∈aB hs st true,∀x,x<60->b8 R BL k x=true->_:=λk z x v g=>by
    unfold b8 at g;by_cases h:k∈BL.map (·.1)
    .rw[if_pos h]at g
     obtain⟨K,L⟩:=m _ x v g;exact sA K L
    ext
   obtain⟨rows,M,l,f⟩:=Zf i (by lia) (K:=aB hs st true) (S:=aB hs st false) s (λk z=>Qi (mK z) O) (λk z=>Qi (mK z) O) E;refine .inr ⟨rows,⟨l,sy M,λp A=>?_⟩,?_⟩
   .refine Red.kp (R:=R) (BL:=BL) (λr j=>?_) (u p A)
    have w:=(i.1 r j).1;obtain⟨K,L⟩:=m _ r.1 w.1 w.2.1;have n:=(sA K L).resolve_left (F r j);rw[<-l]at n;obtain⟨q,hq,e⟩:=qy n;have t:=Ik M q hq;rw[e]at t;have o:r.1∈BL.map (·.1):=Qs (f:=(·.1)) j;have I:=(mC (λ_=>D.non) o).1;have S:=O9 i.2 I j rfl;unfold b8 ej at t
    ext<;>lia
   .rw[mx,Yj (by rfl)]
    have J:cU none=.non:=rfl;rw[J]at d a;simp[GJ,Yd,b1,b2,a,d,f,bX]
def Hl(A:AE)(r:bL):Prop:=(∀x∈r.1,x∈A)->∃y,r.2=some y/\y∈A
theorem sC{A b fs:AE}(h:kn b fs=true)(a:∀x∈fs,x∈A):∀x∈b,x∈A:=λx c=>by
 unfold kn at h
 ext
theorem xO(h:0<=i/\i<R.length):aA R i∈R:=by
 unfold aA
 ext
theorem Iw(h:r∈R):∃i:Nat,i<R.length/\aA R (i:Int)=r:=by
 obtain⟨i,a,e⟩:=List.mem_iff_getElem.mp h;refine⟨i,a,?_⟩;unfold aA
 ext
structure eU(R:List bL)(K S:AE)(first:AE)(rows:List jz):Prop where
 fK:first.Pairwise (·<·)/\∀y∈first,y∈K
 rs:rows.map (·.1)=S
 rK:∀r∈rows,r.2.Pairwise (·<·)/\(∀y∈r.2,y∈K)/\(r.2.filter λy=>decide (y<r.1))=first.filter λy=>decide (y<r.1)
 h0:∀q∈R,Hl (S++first) q
 hb:∀r∈rows,∀q∈R,Hl ((S.filter λy=>!decide (y=r.1))++r.2) q
noncomputable abbrev ci(js:AE):AF:=js.map λi:Nat=>i
theorem iO:∀{js fs:AE},Der R fs js->ec R fs (ci js)=true
 | [],_,_=>rfl
 | i::js,fs,h=>by
   obtain⟨⟨b,⟨x,c⟩,d⟩,a⟩:=h;show(_&&_)=true;rw[Qe];refine⟨?_,iO a⟩;unfold rT
   ext
theorem sD(R:List bL)(js:AE):dy R (ci js)=js.map λi:Nat=>bw (aA R i):=by
 unfold dy
 ext
theorem Pt:∀{p:AF}{fs:AE}{i:Int}{q:AF},ec R fs (p++i::q)=true->ec R fs p=true/\rT R (fs++dy R p) i=true
 | [],fs,i,q,h=>by
   have b:(_&&_)=true:=h;refine⟨rfl,?_⟩;have:fs++dy R []=fs:=w9 _;grind
 | a::p,fs,i,q,h=>by
   have b:(_&&_)=true:=h;rw[Qe]at b;obtain⟨c,d⟩:=Pt b.2;refine⟨?_,?_⟩
   .show(_&&_)=true
    grind
   .have e:fs++dy R (a::p)=(fs++[bw (aA R a)])++dy R p:=by rw[ja];rfl
    grind
theorem Pu(a:ec R fs (ci p)=true)(e:i<R.length)(d:kn (aA R (i:Int)).1 (fs++dy R (ci p))=true)(c:(aA R (i:Int)).2=none\/(aA R (i:Int)).2=b):iJ R b (ci (p++[i])) fs=true:=by
 unfold iJ
 ext
theorem Pv(h:cD R fs l js)(j:cD R a k d)(hs:∀x∈a,x∈l):∀x∈k,x∈l:=by
 have v:∀r∈R,r.2≠none->Hl l r:=λr s D F=>by
  obtain⟨i,m,rfl⟩:=Iw s
  cases e:(aA R i).2 with
  | none=>symm
  | some y=>
    refine⟨y,rfl,h.none i m y e ?_⟩;unfold kn
    ext
 have f:∀(b c:_),Der R c b->(∀x∈c,x∈l)->∀x∈c++b.map λi:Nat=>bw (aA R i),x∈l:=λb=>by
  induction b with
  | nil=>simp
  | cons i b u=>
    intro c hd n x g;obtain⟨⟨E,⟨y,q⟩,t⟩,p⟩:=hd;obtain⟨z,A,o⟩:=v _ (xO ⟨by ac_nf,by ac_nf⟩) (by rw[q];simp) (sC t n)
    have C:bw (aA R i)=z:=by unfold bw;rw[A];rfl
    refine u _ p (λw B=>?_) x (by ext);symm
 intro x g;exact f d a j.der hs x ((j.mem x).mp g)
theorem Pw(h:cD R fs l js)(hn:∀r∈R,r.2=none->kn r.1 l=false)(a:∀x,x∈A↔x∈l):∀q∈R,Hl A q:=λq b f=>by
 have d:kn q.1 l=true:=by
  unfold kn
  ext
 cases e:q.2 with
 | none=>
   grind
 | some y=>
   obtain⟨i,c,rfl⟩:=Iw b;exact⟨y,rfl,(a y).mpr (h.none i c y e d)⟩
theorem jB{i:Type}(enc:i->D)(I:List i->Ro->Prop)(O:D->Prop):∀(l c:List i) (ρ:Ro),I c ρ->
 (∀q a r ρ,c++l=q++a::r->I q ρ->∃f,gt (enc a) ρ=some f/\((∃g,fb f=some (.nx g)/\I (q++[a]) g)\/∃d,fb f=some (.rt d)/\O d))->
 (∃ρ',M.forM gt fb (l.map enc) ρ=some (.nx ρ')/\I (c++l) ρ')\/∃d,M.forM gt fb (l.map enc) ρ=some (.rt d)/\O d
 | [],c,ρ,k,_=>.inl ⟨ρ,rfl,by grind⟩
 | a::l,c,ρ,k,m=>by
   obtain⟨f,o,h⟩:=m c a l ρ rfl k;rw[Qd,M.forM];rcases h with⟨g,n,j⟩|⟨d,n,j⟩
   .have:=jB enc I O l _ g j λq b r ρ e=>m q b r ρ (by grind)
    ext
   ext
def Px(r:bL):Yc (dY r)=some [.tup (r.1.map nD),av r.2]:=rfl
def c8(l js:AE):D:=.tup [.lst (l.map nD),.tup (js.map nD)]
def xP(l js:AE):Yc (c8 l js)=some [.lst (l.map nD),.tup (js.map nD)]:=rfl
def jC(R:List bL)(l:AE)(i:Nat):Bool:=(aA R i).2.isNone&&kn (aA R i).1 l
theorem Zh(R:List bL)(q:js.length<=1000):
 (∃i,i<R.length/\jC R l i=true/\rF [bg R,c8 l js]=some (.tup ((js++[i]).map nD)))\/((∀i,i<R.length->jC R l i=false)/\rF [bg R,c8 l js]=some .non):=by
 rw[rF,Yj (by rfl)];have g:Yd 4 [bg R,c8 l js]=[some _,some _,none,none]:=rfl;rw[g]
 have h:=HK (gt:=ez 2 3) (fb:=rE) (λi:Nat=>.tup [.int i,dY (aA R i)]) (jC R l) (λi=>.tup ((js++[i]).map nD)) (λm=>∃y z,m=[↑(bg R),↑(c8 l js),y,z]) (.range R.length)
  _ ⟨none,none,rfl⟩ (by
   rintro i p m ⟨y,z,rfl⟩;refine⟨[some _,some _,some _,some _],rfl,?_⟩;have e:=YW (d:=.lst _) (aA R i) l rfl;have c:=xP l js;have a:=Px (aA R i)
   have b:o7 (.tup (js.map nD)) (.tup [.int i])=some (.tup ((js++[i]).map nD)):=by
    rw[wu];exact if_pos (by simp;lia)
   unfold jC
   cases k:(aA R _).2 with
   | some x=>
     left;rw[k]at a;simp only[av]at a;simp[rE,a,j3]
   | none=>
     rw[k]at a;simp only[av]at a
     cases d:kn _ l with
     | false=>
       left;rw[d]at e;refine⟨rfl,[some _,some _,↑(.int i),↑(dY (aA R i))],?_,_,_,rfl⟩;simp[rE,a,c,e]
     | true=>
       right;rw[d]at e;refine⟨rfl,?_⟩;generalize (js++[i]).map nD=s at *
       simp[rE,a,c,e,b])
 rw[On];rcases h with⟨i,j,f⟩|⟨j,o,f,t⟩
 .left
  have n:=List.mem_of_find?_eq_some j;have r:=List.find?_some j;refine⟨i,Qb n,r,?_⟩;simp[fH,xG,f]
 .right
  refine⟨λi p=>?_,?_⟩
  .simp_all
  .simp[fH,xG,f]
theorem Py(x:Nat):∀l:AE,(l.map λy:Nat=>(y:Int)).idxOf (x:Int)=l.idxOf x
 | []=>rfl
 | y::l=>by
   rw[Qd,List.idxOf_cons,Py x l];grind
theorem Pz{x:Nat}:∀{js:AE},x∈js.map f->∃p i q,js=p++i::q/\f i=x/\js.take ((js.map f).idxOf x+1)=p++[i]
 | [],h=>nomatch h
 | j::js,h=>by
   by_cases e:f j=x
   .refine⟨[],j,js,rfl,e,?_⟩
    ext
   .have a:x∈js.map f:=by
     grind
    obtain⟨p,i,q,b,c,d⟩:=Pz a;grind
theorem Iy{b:Type}(f:b->D)(l:List b)(k:Nat):bN (l.map f) none (some (k:Int))=(l.take k).map f:=by
 have a:HT.sIx (l.map f).length (l.map f).length (some k)=min k l.length:=by
  have:=HT.sIx_nat (l.map f).length (l.map f).length k;grind
 unfold bN;rw[a,HT.sIx_none]
 ext
theorem Der.mem:∀{b ks:AE},Der R ks b->∀i∈b,i<R.length/\av (aA R (i:Int)).2=nD (bw (aA R (i:Int)))
 | [],_,_,i,a=>nomatch a
 | j::b,ks,h,i,a=>by
   rcases qu a with rfl|a
   .obtain⟨⟨c,⟨x,d⟩,_⟩,_⟩:=h
    refine⟨c,?_⟩;unfold bw;rw[d];rfl
   .exact Der.mem h.2 i a
theorem Zi(h:cD R fs l js)(x:Nat):
 (∃(p:AE) (i:Nat) (q:AE),js=p++i::q/\bw (aA R (i:Int))=x/\y8 [bg R,c8 l js,.int (x:Int)]=some (.tup ((p++[i]).map nD)))\/(x∉js.map (λi:Nat=>bw (aA R (i:Int)))/\y8 [bg R,c8 l js,.int (x:Int)]=some .non):=by
 have k:=dD (fe:=Gy) (r:=[↑(bg R)]) (enc:=nD) (λi:Nat=>nD (bw (aA R i))) (λi w=>by
  obtain⟨z,t⟩:=h.der.mem i w;have j:=lj (R:=R) (i:=i) ⟨by ac_nf,by ac_nf⟩;have f:=Px (aA R (i:Int));have g:=YV R
  simp[Gy,g,j,f,t])
 have s:(js.map λi:Nat=>nD (bw (aA R (i:Int))))=(js.map λi:Nat=>bw (aA R (i:Int))).map nD:=by ext
 rw[s]at k;have c:=xP l js;have b:=eG (c:=.lst _) x (js.map λi:Nat=>bw (aA R i)) true rfl;by_cases d:x∈js.map λi:Nat=>bw (aA R i)
 .obtain⟨p,i,q,u,r,o⟩:=Pz d
  refine .inl ⟨p,i,q,u,r,?_⟩
  have m:iA (.lst ((js.map λi:Nat=>bw (aA R (i:Int))).map nD)) (.int (x:Int))=some (.int ((js.map λi:Nat=>bw (aA R (i:Int))).idxOf x)):=by
   have e:∀L:AE,L.map nD=(L.map λy:Nat=>(y:Int)).map D.int:=λL=>by ext
   rw[e,ES,if_pos (Qs d),Py]
  have a:=Iy nD js ((js.map λi:Nat=>bw (aA R (i:Int))).idxOf x+1);rw[o]at a
  have n:(((js.map λi:Nat=>bw (aA R (i:Int))).idxOf x+1:Nat))=((js.map λi:Nat=>bw (aA R (i:Int))).idxOf x:Int)+1:=by ac_nf
  rw[n]at a;simp only[d,if_true]at b;rw[y8,Yj (by rfl)];generalize (js.map _).map nD=v,(p++[i]).map nD=A at *;simp[Gz,Yd,c,ak,k,b,m,a]
 .refine .inr ⟨d,?_⟩
  simp only[d,if_true]at b;rw[y8,Yj (by rfl)];generalize (js.map _).map nD=v at *;simp[Gz,Yd,c,ak,k,b]
noncomputable def b9(K l:AE):AE:=K.filter λy=>decide (y∈l)
theorem PC(K l:AE):rG [.lst (K.map nD),.lst (l.map nD)]=some (.tup ((b9 K l).map nD)):=by
 rw[rG,Yj (by rfl)];unfold b9
 simp[Oo,Yd,ak,gO (fc:=GA) (fe:=GB) (r:=[↑(.lst (l.map nD))]) (enc:=nD) (λy=>decide (y∈l)) nD (l:=K) (λy _=>by
  simp[GA,eG (c:=.lst _) y l false rfl]) (λy _ _=>by simp[GB])]
def eV(x:Nat)(S first:AE):AE:=gR (some x) S++first.filter λy=>decide (y<x)
theorem Zj{x:Nat}(c:S.length<=100)(f:first.length<=100):xl [.int (x:Int),.lst (S.map nD),.tup (first.map nD)]=some (.lst ((eV x S first).map nD)):=by
 have b:=Y8 S (some x);have g:av (some x)=.int _:=rfl;rw[g]at b;have d:(gR (some x) S).length<=100:=Qg (Qn _ _) c;have e:(first.filter λy=>decide (y<x)).length<=100:=Qg (Qn _ _) f
 have a:cY (.lst ((gR (some x) S).map nD)) (.lst ((first.filter λy=>decide (y<x)).map nD))=some ((eV x S first).map nD):=by
  unfold eV;rw[M0 (by simp;lia),wu]
 rw[xl,Yj (by rfl)];simp[Oq,Yd,b,Za first x,λ_=>rfl,a]
def xQ(R:List bL)(st n:Nat):Prop:=∀r∈R,r.1.Pairwise (·<·)/\(∀x∈r.1,st<=x/\x<n)/\∀x,r.2=some x->st<=x/\x<n
def lr(b:AL)(a js:AF):AN:=[.str "lone",av b,.tup (a.map .int),.tup (js.map .int)]
def PD(first:AE)(rows:List jz):AN:=[.str "rows",.tup (first.map nD),.tup (rows.map c4)]
theorem lu(l:AE):l.map nD=(ci l).map D.int:=by ext
def iP(R:List bL)(K S:AE)(b:AL)(a js:AF):Prop:=ll R K S b a js=true/\a.length<=100/\js.length<=100
theorem Iz(c:xQ R st n)(h:cD R fs l js)(d:x∈l):x∈fs\/(st<=x/\x<n):=by
 rcases qw ((h.mem x).mp d)with w|w
 .exact .inl w
 .obtain⟨i,b,rfl⟩:=qy w
  obtain⟨f,a⟩:=h.der.mem i b
  cases e:(aA R i).2 with
  | none=>rw[e]at a;cases a
  | some y=>
    have:bw (aA R i)=y:=by unfold bw;rw[e];rfl
    rw[this];exact .inr ((c _ (xO (R:=R) (i:=i) ⟨by ac_nf,by ac_nf⟩)).2.2 y e)
def sE(h:cD R fs l js)(a:x∈fs):x∈l:=(h.mem x).mpr (List.mem_append.mpr (.inl a))
theorem Zk(h:cD R S l js)(c:i<R.length)(a:jC R l i=true):iP R K S none [] (ci (js++[i])):=by
 unfold jC at a;rw[Qe,Option.isNone_iff_eq_none]at a;refine⟨?_,by simp,by have:=h.len;simp;lia⟩;unfold ll;rw[Qe];refine⟨rfl,?_⟩
 have b:gR none S=S:=List.filter_eq_self.mpr λy _=>by simp
 have d:gR none S++lk R K none []=S:=by rw[b];exact w9 _
 rw[d];refine Pu (iO h.der) c ?_ (.inl a.1);rw[sD,<-a.2];exact(HX λx=>h.mem x).symm
theorem IA(h:cD R S l js)(a:∀x∈S,x∉K)(x:Nat):eV x S (b9 K l)=gR (some x) S++lk R K (some x) (ci js):=by
 unfold eV b9
 congr 1
 rw[List.filter_filter];refine List.filter_congr λy b=>?_
 congr 1
 rw[sD];refine decide_eq_decide.mpr ⟨λw=>?_,λw=>(h.mem y).mpr (List.mem_append.mpr (.inr w))⟩;rcases qw ((h.mem y).mp w)with z|z
 .grind
 .exact z
theorem Zl{p q:AE}(h:cD R S l js)(a:∀x∈S,x∉K)(c:x∈S)(d:cD R (eV x S (b9 K l)) s (p++i::q))(o:bw (aA R (i:Int))=x):iP R K S (some x) (ci js) (ci (p++[i])):=by
 have f:=d.len;have k:=h.len;refine⟨?_,by simp;lia,by ext<;>lia⟩;unfold ll;rw[Qe];refine⟨?_,?_⟩
 .show(_&&_)=true
  rw[iO h.der,wn c];rfl
 .rw[<-IA h a x]
  have hd:=iO d.der
  have e:ci (p++i::q)=ci p++(i:Int)::ci q:=by
   grind
  rw[e]at hd;obtain⟨m,b⟩:=Pt hd;unfold rT at b;rw[Qe,Qe]at b;obtain⟨r,j,n⟩:=b;refine Pu m (by ext) n (.inr ?_);obtain⟨y,g⟩:=Option.isSome_iff_exists.mp j
  have:bw (aA R i)=y:=by unfold bw;rw[g];rfl
  grind
def sF(R:List bL)(K S c:AE)(r:jz):Prop:=∃b a:AE,cD R (eV r.1 S (b9 K c)) b a/\r.1∉a.map (λi:Nat=>bw (aA R i))/\r.2=b9 K b
theorem Zm(E:xQ R st n)(p:K.Pairwise (·<·))(C:∀x∈S,x∉K)(t:∀x,st<=x->x<n->x∈S\/x∈K)(h:cD R S l js)(hn:∀i,i<R.length->jC R l i=false)(o:rows.map (·.1)=S)(g:∀r∈rows,sF R K S l r):eU R K S (b9 K l) rows:=by
 have s:∀x∈l,x∈S\/x∈K:=λx b=>by
  rcases Iz E h b with w|w
  .exact .inl w
  ext
 have m:∀r∈R,r.2=none->kn r.1 l=false:=λr g e=>by
  obtain⟨i,D,rfl⟩:=Iw g;have:=hn i D;unfold jC at this;grind
 refine⟨⟨p.filter _,λy c=>(Qc c).1⟩,o,λr j=>?_,?_,λr j=>?_⟩
 .obtain⟨f,u,b,k,e⟩:=g r j
  have a:=Pv h b λy c=>by
   rcases qw c with w|w
   .exact sE h (Qc w).1
   .exact wt (Qc (Qc w).1).2
  refine⟨by rw[e];exact p.filter _,λy c=>by rw[e]at c;exact(Qc c).1,?_⟩;rw[e];unfold b9;rw[List.filter_filter,List.filter_filter];refine List.filter_congr λy c=>?_;by_cases d:y<r.1
  .have:(y∈f)↔(y∈l):=⟨a y,λw=>sE b (List.mem_append.mpr (.inr (List.mem_filter.mpr ⟨List.mem_filter.mpr ⟨c,wn w⟩,wn d⟩)))⟩
   ext
  .simp[d]
 .refine Pw h m λx=>?_
  rw[List.mem_append];constructor
  .rintro(w|w)
   .exact sE h w
   .exact wt (Qc w).2
  .intro w
   rcases s x w with z|z
   .exact .inl z
   .exact .inr (List.mem_filter.mpr ⟨z,wn w⟩)
 .obtain⟨f,u,b,k,e⟩:=g r j
  have a:=Pv h b λy c=>by
   rcases qw c with w|w
   .exact sE h (Qc w).1
   .exact wt (Qc (Qc w).1).2
  have v:r.1∉f:=λw=>by
   rcases qw ((b.mem _).mp w)with z|z
   .rcases qw z with z|z
    .have:=(Qc z).2
     simp at this
    ext
   grind
  refine Pw b (λq F e=>?_) λx=>?_
  .cases B:kn q.1 f with
   | false=>rfl
   | true=>
     have:kn q.1 l=true:=by
      exact List.all_eq_true.mpr λx b=>wn (sC B a x b)
     grind
  .rw[List.mem_append]
   constructor
   .rintro(w|w)
    .obtain⟨A,G⟩:=Qc w
     refine sE b (List.mem_append.mpr (.inl (List.mem_filter.mpr ⟨A,?_⟩)));grind
    .rw[e]at w
     exact wt (Qc w).2
   .intro w
    rcases s x (a x w)with z|z
    .grind
    .rw[e]
     exact .inr (List.mem_filter.mpr ⟨z,wn w⟩)
def PF(h:K.length<=60):(b9 K l).length<=60:=Qg (Qn _ _) h
theorem Zn(hc:Yc c=some (hs.map aF))(hl:hs.length<=60)(hst:st<=hs.length)(j:xQ R st hs.length):
 (∃b E js,iP R (aB hs st true) (aB hs st false) b E js/\k7 [bg R,c,.int st]=some (bX true (.tup (lr b E js))))\/
 (∃first rows,eU R (aB hs st true) (aB hs st false) first rows/\k7 [bg R,c,.int st]=some (bX false (.tup (PD first rows)))):=by
 have b1:=mD hs hc (by lia) st hst true;have b2:=mD hs hc (by lia) st hst false;simp only[aF,if_true,Qo,if_false]at b1 b2;have a:(aB hs st true).Pairwise (·<·):=List.Pairwise.filter _ List.pairwise_lt_range;have h:=xN (hs:=hs) (st:=st);have f:∀x,st<=x->x<hs.length->x∈aB hs st false\/x∈aB hs st true:=λx h1 h2=>sA h1 h2;have hSl:(aB hs st false).length<=60:=Qg (Qn _ _) (by ext);have U:(aB hs st true).length<=60:=Qg (Qn _ _) (by ext);have C:∀x∈aB hs st false,x<60:=λx V=>Qi (mK V) hl;have hK60:∀x∈aB hs st true,x<60:=λx V=>Qi (mK V) hl;have Y:∀r∈R,∀x,r.2=some x->x<60:=λr t x V=>Qi ((j r t).2.2 x V).2 hl;generalize aB hs st false=S,aB hs st true=K at *;obtain⟨l,js,u,k⟩:=r_ (c:=.lst (S.map nD)) R Y S C (by lia) rfl;have g:Yv [bg R,.lst (S.map nD)]=some (c8 l js):=k;clear k;have Q:=xP l js;have hso:=PC K l;have hst0:Yd 11 [bg R,c,.int (st:Int)]=[↑(bg R),↑c,↑(.int st),none,none,none,none,none,none,none,none]:=rfl;rw[k7,Yj (by rfl),hst0];rcases Zh R (l:=l) (js:=js) (by have:=u.len;lia)with⟨i,hi,hp,J⟩|⟨T,J⟩
 .refine .inl ⟨none,[],ci (js++[i]),Zk u hi hp,?_⟩
  have H:D.tup (lr none [] (ci (js++[i])))=.tup [.str "lone",.non,.tup [],.tup ((js++[i]).map nD)]:=by
   unfold lr;rw[<-lu];rfl
  rw[H];clear u f j h a;generalize (js++[i]).map nD=JI,c8 l js=fu,S.map nD=SS,K.map nD=KK,bg R=bk at *;simp[xn,b1,b2,g,J,bX]
 .have A:xn [↑(bg R),↑c,↑(.int st),none,none,none,none,none,none,none,none] =
   GC [↑(bg R),↑c,↑(.int st),↑(.lst (K.map nD)),↑(.lst (S.map nD)),↑(c8 l js),↑.non,↑(.tup ((b9 K l).map nD)),some (.ow []),none,none]:=by
   clear u f j h a T;generalize (b9 K l).map nD=SO at *;generalize l.map nD=LL at *;generalize js.map nD=JJ,c8 l js=fu,S.map nD=SS,K.map nD=KK,bg R=bk at *;simp[xn,b1,b2,g,J,Q,hso,-GC]
  rw[A]
  have F:=jB (gt:=ai 9) (fb:=xm) nD (λA ρ=>∃(rows:List jz) (y6 y9 v:AQ),rows.map (·.1)=A/\(∀r∈rows,sF R K S l r)/\
   ρ=[↑(bg R),↑c,↑(.int st),↑(.lst (K.map nD)),↑(.lst (S.map nD)),↑(c8 l js),y6,↑(.tup ((b9 K l).map nD)),some (.ow (rows.map c4)),y9,v])
   (λd=>∃b E js,iP R K S b E js/\d=bX true (.tup (lr b E js))) S []
   [↑(bg R),↑c,↑(.int st),↑(.lst (K.map nD)),↑(.lst (S.map nD)),↑(c8 l js),↑.non,↑(.tup ((b9 K l).map nD)),some (.ow []),none,none] ⟨[],_,_,_,rfl,λr t=>(nomatch t),rfl⟩ (by
    rintro q x r ρ e ⟨rows,y6,y9,v,z,o,rfl⟩;rw[Qj]at e
    have hxS:x∈S:=by rw[e];simp
    have hrl:rows.length<=1000:=by
     grind
    have O:=Zj (x:=x) (S:=S) (first:=b9 K l) (by lia) (by have:=PF (l:=l) U;lia)
    have hfl:(eV x S (b9 K l)).length<=1000:=by
     have g1:(gR (some x) S).length<=S.length:=Qn _ _;have g3:=PF (l:=l) U;unfold eV;grind
    obtain⟨n,I,L,s⟩:=r_ (c:=.lst ((eV x S (b9 K l)).map nD)) R Y (eV x S (b9 K l)) (λy hy=>by
     rcases qw hy with w|w
     .exact C y (Qc w).1
     grind) hfl rfl
    have m:Yv [bg R,.lst ((eV x S (b9 K l)).map nD)]=some (c8 n I):=s;clear s;refine⟨[↑(bg R),↑c,↑(.int st),↑(.lst (K.map nD)),↑(.lst (S.map nD)),↑(c8 l js),y6,↑(.tup ((b9 K l).map nD)),some (.ow (rows.map c4)),↑(.int (x:Int)),v],rfl,?_⟩;rcases Zi L x with⟨p,i,q',hj,he,G⟩|⟨M,G⟩
    .right
     rw[hj]at L;refine⟨bX true (.tup (lr (some x) (ci js) (ci (p++[i])))),?_,some x,ci js,ci (p++[i]),Zl u h hxS L he,rfl⟩
     have H:D.tup (lr (some x) (ci js) (ci (p++[i])))=.tup [.str "lone",.int (x:Int),.tup (js.map nD),.tup ((p++[i]).map nD)]:=by
      unfold lr;rw[<-lu,<-lu];rfl
     rw[H];clear u f j h a T o L hj;generalize (p++[i]).map nD=PI,(eV x S (b9 K l)).map nD=FA at *;generalize (b9 K l).map nD=SO at *;generalize l.map nD=LL,js.map nD=JJ,c8 n I=fx,c8 l js=fu,S.map nD=SS,K.map nD=KK,bg R=bk,rows.map c4=RW at *;simp[xm,O,m,G,Q,bX]
    .left
     have hsx:=PC K n;have hfx:=xP n I;have N:∀d:D,cb (rows.map c4) d=some (rows.map c4++[d]):=λd=>vE (by ext<;>lia)
     have Z:(rows++[(x,b9 K n)]).map c4=rows.map c4++[.tup [.int (x:Int),.tup ((b9 K n).map nD)]]:=by rw[wu];rfl
     refine⟨[↑(bg R),↑c,↑(.int st),↑(.lst (K.map nD)),↑(.lst (S.map nD)),↑(c8 l js),↑.non,↑(.tup ((b9 K l).map nD)),some (.ow ((rows++[(x,b9 K n)]).map c4)),↑(.int (x:Int)),↑(c8 n I)],?_,rows++[(x,b9 K n)],_,_,_,by ext,λr t=>?_,rfl⟩
     .rw[Z]
      clear u f j h a T o L M Z;generalize (b9 K n).map nD=SX,(eV x S (b9 K l)).map nD=FA at *;generalize (b9 K l).map nD=SO at *;generalize l.map nD=LL,n.map nD=LX,js.map nD=JJ,I.map nD=JX,c8 n I=fx,c8 l js=fu,S.map nD=SS,K.map nD=KK,bg R=bk,rows.map c4=RW at *;simp[xm,O,m,G,hfx,hsx,N]
     .rcases qw t with t|t
      .grind
      .rw[List.mem_singleton]at t
       subst t
       exact⟨n,I,L,M,rfl⟩)
  rcases F with⟨ρ',e1,rows,y6,y9,v,z,o,rfl⟩|⟨d,e1,b,E,js',hW,rfl⟩
  .rw[Qj]at z
   refine .inr ⟨b9 K l,rows,Zm j a h f u T z o,?_⟩;clear u f j h a T o z A;unfold PD;generalize (b9 K l).map nD=SO,c8 l js=fu,S.map nD=SS,K.map nD=KK,bg R=bk,rows.map c4=RW at *;simp[e1,bX]
  .refine .inl ⟨b,E,js',hW,?_⟩
   ext
def eK(l:AX):Prop:=l.length<=2/\l.Nodup
def iQ(s:aC):aP (aP s)=s:=by
 simp[aP]
def IB(s:aC):aP s≠s:=by
 obtain⟨a,b⟩:=s;simp[aP]
def ed(L:AW)(s t:aC):Prop:=∃l∈L,aP s∈l/\t∈l/\(t=aP s->l.length=1)
def IC(h:ed L s t):ed L (aP t) (aP s):=by
 obtain⟨l,a,c,d,b⟩:=h;refine⟨l,a,by rwa [iQ],c,λe=>b ?_⟩;rw[iQ]at e;exact e.symm
inductive Rch (L:AW) (s:aC):aC->Prop
 | refl:Rch L s s
 | step {t u:aC}:Rch L s t->ed L t u->Rch L s u
theorem Rch.trans(h:Rch L s t)(h':Rch L t u):Rch L s u:=by
 induction h' with
 | refl=>exact h
 | step _ e a=>exact .step a e
def Rch.one(h:ed L s t):Rch L s t:=.step .refl h
theorem Rch.skew(h:Rch L s t):Rch L (aP t) (aP s):=by
 induction h with
 | refl=>exact .refl
 | step _ e a=>exact(Rch.one (IC e)).trans a
def ID(e:lp):mH e≠e:=by
 obtain⟨a,b⟩:=e;simp[mH]
theorem IE(h:s.1∉rows.map (·.1)):dZ rows s=(some s.1,s.2):=by
 unfold dZ;grind
theorem IF(h:s.1∈rows.map (·.1)):∃r∈rows,r.1=s.1/\dZ rows s=(r.2.1,s.2==r.2.2):=by
 unfold dZ;grind
structure gy(L:AW)(K S:AE)(rows:List fO):Prop where
 ks:rows.map (·.1)=K
 row:∀r∈rows,iK S r=true
 kept:∀l∈L,se (l.map (dZ rows))=true
inductive bY (L:AW) (K S:AE):Prop
 | broken:[]∈L->bY L K S
 | clash (s:aC):Rch L s (aP s)->Rch L (aP s) s->bY L K S
 | cross (s t:aC):s.1∈S->t.1∈S->s≠t->Rch L s t->bY L K S
 | late (s t:aC):s.1∈S->t.1∈K->t.1<s.1->Rch L s t->Rch L t s->bY L K S
def fD(L:AW)(S:AE)(k:Nat)(s:aC):Prop:=s.1∈S/\Rch L s (k,true)/\Rch L (k,true) s
def loose(L:AW)(S:AE)(k:Nat):Prop:=∀s,¬fD L S k s
structure eL(L:AW)(K S:AE)(τ:AH)(rows:List fO):Prop where
 ks:rows.map (·.1)=K
 row:∀r∈rows,(∃s,fD L S r.1 s/\r.2=(some s.1,s.2))\/(loose L S r.1/\r.2=(none,τ r.1))
structure Tr(L:AW)(K S:AE)(τ:AH):Prop where
 one:∀k∈K,loose L S k->∀s:aC,s.1∈S->∀v,Rch L s (k,v)->τ k=v
 two:∀k∈K,loose L S k->∀j∈K,loose L S j->∀v,Rch L (k,τ k) (j,v)->τ j=v
def PH(c:¬bY L K S)(hs:s.1∈S)(b:t.1∈S)(h:Rch L s t):s=t:=
 Classical.byContradiction λz=>c (.cross s t hs b z h)
theorem cls(l:∀x∈S,x∉K)(c:eL L K S τ rows)(b:a.1∈S\/a.1∈K):
 (∃e:aC,e.1∈S/\dZ rows a=(some e.1,e.2)/\Rch L a e/\Rch L e a)\/(a.1∈K/\loose L S a.1/\dZ rows a=(none,a.2==τ a.1)):=by
 rcases b with b|b
 .exact .inl ⟨a,b,IE (by rw[c.ks];grind),.refl,.refl⟩
 .obtain⟨r,o,m,h⟩:=IF (by rwa [c.ks])
  rcases c.row r o with⟨s,n,g⟩|⟨k,g⟩
  .left
   rw[g]at h;obtain⟨i,d,f⟩:=n;rw[m]at d f;obtain⟨p,j⟩:=a
   cases j with
   | true=>
     refine⟨s,i,?_,f,d⟩
     ext
   | false=>
     refine⟨aP s,i,?_,d.skew,f.skew⟩;rw[h];show(some s.1,_)=(some s.1,!s.2);cases s.2<;>rfl
  ext
def xR(h:((none,true):lp)∈a):se a=true:=List.any_eq_true.mpr ⟨_,h,by simp⟩
def IG(h:e∈a)(b:mH e∈a):se a=true:=List.any_eq_true.mpr ⟨e,h,by simp[b]⟩
def IH(h:¬v=a.2):(a.1,v)=aP a:=by
 obtain⟨x,y⟩:=a
 cases v<;>cases y<;>first|rfl|exact absurd rfl h
theorem PJ(c:∀x∈S,x∉K)(t:¬bY L K S)(d:eL L K S τ rows)(i:Tr L K S τ)(r:a.1∈S\/a.1∈K)(o:b.1∈S\/b.1∈K)(h:Rch L (aP a) b):
 dZ rows a=(none,true)\/dZ rows b=(none,true)\/mH (dZ rows a)=dZ rows b:=by
 have q:=by
  have:=h.skew
  rwa [iQ]at this
 rcases cls c d r with⟨e,n,v,p,w⟩|⟨l,m,y⟩
 .rcases cls c d o with⟨f,j,k,g,s⟩|⟨b1,b2,b3⟩
  .have:=PH t (s:=aP e) n j ((p.skew.trans h).trans g)
   refine .inr (.inr ?_);rw[v,k,<-this];rfl
  .have:=i.one b.1 b1 b2 (aP e) n b.2 (p.skew.trans h)
   symm
 .by_cases u:τ a.1=a.2
  .simp_all
  .rcases cls c d o with⟨f,j,k,g,s⟩|⟨b1,b2,b3⟩
   .have:=i.one a.1 l m (aP f) j a.2 (g.skew.trans q)
    symm
   .have e:=IH u
    have:=i.two a.1 l m b.1 b1 b2 b.2 ⋯;symm
theorem Zo(w:∀l∈L,eK l)(d:∀l∈L,∀s∈l,s.1∈S\/s.1∈K)(g:∀x∈S,x∉K)(i:¬bY L K S)(f:eL L K S τ rows)(m:Tr L K S τ):gy L K S rows:=by
 refine⟨f.ks,λr q=>?_,λl c=>?_⟩
 .rcases f.row r q with⟨s,⟨A,y,v⟩,p⟩|⟨_,p⟩
  .have j:r.1∈K:=by rw[<-f.ks];grind
   have u:s.1<r.1:=by
    rcases Nat.lt_trichotomy s.1 r.1 with h|h|h
    .exact h
    .simp_all
    .exact absurd (.late s _ A j h y v) i
   unfold iK
   ext
  .unfold iK
   rw[p]
 .obtain⟨t,n⟩:=w l c
  match l,t,n,c with
  | [],_,_,c=>exact absurd (.broken c) i
  | [a],_,_,c=>
    have h:Rch L (aP a) a:=.one ⟨[a],c,by rw[iQ];simp,by simp,λ_=>rfl⟩;have o:=d [a] c a nofun;rcases PJ g i f m o o h with e|e|e
    .exact xR (by simp[e])
    .exact xR (by simp[e])
    .exact absurd e (ID _)
  | [a,b],_,n,c=>
    have k:¬a=b:=by grind
    have h:Rch L (aP a) b:=.one ⟨[a,b],c,by rw[iQ];simp,by simp,λz=>absurd (by rw[z,iQ]) k⟩;rcases PJ g i f m (d _ c a nofun) (d _ c b nofun) h with e|e|e
    .exact xR (by simp[e])
    .exact xR (by simp[e])
    .exact IG (e:=dZ rows a) nofun (by rw[e];simp)
def ly(L:AW)(s:aC)(f g:Nat->Option Bool):Prop:=∀j,(∀v,Rch L s (j,v)->(g j).isSome=true)/\(∀v,g j=some v->Rch L s (j,v)\/((∀u,¬Rch L s (j,u))/\f j=some v))/\((∀u,¬Rch L s (j,u))->g j=f j)
structure sG(L:AW)(T:AX)(f:Nat->Option Bool):Prop where
 up:∀j v,f j=some v->∃s∈T,Rch L s (j,v)
 dom:∀j,∀s∈T,∀v,Rch L s (j,v)->(f j).isSome=true
def II(L:AW):sG L [] λ_=>none:=⟨λj v h=>(nomatch h),λj s a=>nomatch a⟩
theorem IJ(h:sG L T f)(a:ly L s f g):sG L (T++[s]) g:=by
 refine⟨λj v e=>?_,λj t b v c=>?_⟩
 .rcases(a j).2.1 v e with w|⟨_,w⟩
  .grind
  .obtain⟨t,b,c⟩:=h.up j v w
   grind
 .by_cases z:∃u,Rch L s (j,u)
  .obtain⟨u,d⟩:=z
   exact(a j).1 u d
  .rw[(a j).2.2 (λu a=>z ⟨u,a⟩)]
   rcases qw b with b|b
   .exact h.dom j t b v c
   grind
def xS(k:Nat)(v:Bool):aP (k,v)=(k,!v):=rfl
theorem Zp(h:¬bY L K S)(b:loose L S k)(hs:s.1∈S)(i:t.1∈S)(c:Rch L s (k,v))(f:Rch L t (k,u)):v=u:=by
 refine Classical.byContradiction λz=>?_
 have e:(k,u)=aP (k,v):=by
  cases v<;>cases u<;>first|rfl|grind
 rw[e]at f;have g:=f.skew;rw[iQ]at g;have j:=PH h (t:=aP t) hs i (c.trans g)
 have d:Rch L (k,v) s:=by grind
 cases v with
 | true=>exact b s ⟨hs,c,d⟩
 | false=>
   refine b (aP s) ⟨hs,?_,?_⟩
   .have:=d.skew
    exact this
   .have:=c.skew
    exact this
structure mL(L:AW)(K S:AE)(f:Nat->Option Bool):Prop where
 one:∀k,loose L S k->∀s:aC,s.1∈S->∀v,Rch L s (k,v)->f k=some v
 two:∀k j,loose L S k->loose L S j->∀v u,f k=some v->Rch L (k,v) (j,u)->f j=some u
 dom:∀k,¬loose L S k->(f k).isSome=true
theorem Zq(r:¬bY L K S)(d:∀s:aC,s∈T↔s.1∈S)(h:sG L T f):mL L K S f:=by
 have c:∀k,_->∀s,_->∀v,_->f k=some v:=λk m s i v g=>by
  have hd:=h.dom k s ((d s).mpr i) v g
  cases e:f k with
  | none=>grind
  | some u=>
    obtain⟨t,l,a⟩:=h.up k u e;rw[Zp r m i ((d t).mp l) g a]
 refine⟨c,λk j n q v u e g=>?_,λk n=>?_⟩
 .obtain⟨t,l,a⟩:=h.up k v e
  exact c j q t ((d t).mp l) u (a.trans g)
 .have:∃s,_:=Classical.byContradiction λz=>n λs i=>z ⟨s,i⟩
  obtain⟨s,p,o,_⟩:=this;exact h.dom k s ((d s).mpr p) _ o
def sH(L:AW)(k:Nat)(l:aC):Prop:=l.1=k/\¬Rch L l (aP l)
theorem IK(G:¬bY L K S)(h:mL L K S f)(E:f k=none)(p:sH L k l)(b:ly L l f g):mL L K S g/\(g k).isSome=true/\∀j,(f j).isSome=true->(g j).isSome=true:=by
 have q:=Classical.byContradiction λz=>by
  have:=h.dom k z;grind
 have y:∀j v u,Rch L l (j,v)->Rch L l (j,u)->v=u:=λj v u B t=>by
  refine Classical.byContradiction λz=>p.2 ?_
  have e:(j,u)=aP (j,v):=by
   cases v<;>cases u<;>first|rfl|grind
  rw[e]at t;have m:=t.skew;rw[iQ]at m;exact B.trans m
 have o:∀j v,_->g j=some v:=λj v n=>by
  have hd:=(b j).1 v n
  cases e:g j with
  | none=>grind
  | some u=>
    rcases(b j).2.1 u e with w|⟨w,_⟩
    .grind
    grind
 have c:∀j,_->∀v,_->g j=some v:=λj d v e=>by
  by_cases z:∃u,Rch L l (j,u)
  .obtain⟨u,x⟩:=z
   have:u=v:=Classical.byContradiction λF=>by
    have A:(j,u)=aP (j,v):=by
     cases v<;>cases u<;>first|rfl|grind
    rw[A]at x;have m:=x.skew;rw[iQ]at m
    have r:aP l=(k,!l.2):=by rw[<-p.1];rfl
    rw[r]at m;have:=h.two j k d q v _ e m;grind
   grind
  .rw[(b j).2.2 λu b=>z ⟨u,b⟩]
   exact e
 refine⟨⟨λj d s D v n=>c j d v (h.one j d s D v n),λi j C d v u e n=>?_,λj d=>?_⟩,?_,λj d=>?_⟩
 .rcases(b i).2.1 v e with w|⟨_,w⟩
  .exact o j u (w.trans n)
  .exact c j d u (h.two i j C d v u w n)
 .have hd:=h.dom j d
  by_cases z:∃u,Rch L l (j,u)
  .grind
  .rw[(b j).2.2 λu b=>z ⟨u,b⟩]
   exact hd
 .have:Rch L l (k,l.2):=by rw[<-p.1];exact .refl
  grind
 .by_cases z:∃u,Rch L l (j,u)
  .grind
  .rw[(b j).2.2 λu b=>z ⟨u,b⟩]
   exact d
theorem IL(h:mL L K S f)(hd:∀k∈K,(f k).isSome=true):Tr L K S λk=>(f k).getD false:=by
 have g:∀k∈K,f k=some ((f k).getD false):=λk b=>by
  cases e:f k with
  | none=>grind
  | some v=>rfl
 refine⟨λk b a s i v c=>?_,λk b a j l d v c=>?_⟩
 .rw[h.one k a s i v c]
  rfl
 .rw[h.two k j a d _ v (g k b) c]
  rfl
noncomputable def kN(s:aC):AF:=[s.1,if s.2 then 1 else 0]
theorem IM(h:kN s=kN t):s=t:=by
 unfold kN at h;grind
def xT(s:aC):eD (af s)=some (kN s):=rfl
theorem mM:∀l:AX,fj (l.map af)=some (l.map kN)
 | []=>rfl
 | s::l=>by
   rw[Qd,fj,mM l];rfl
def mem_kN{l:AX}:kN s∈l.map kN↔s∈l:=by
 constructor
 .intro h
  obtain⟨t,ht,e⟩:=qy h;rw[<-IM e];exact ht
 .exact λh=>Qs h
def PK(a:Bool)(s:aC)(l:AX)(vs:AN):cN a (af s) (.dct true (l.map af) vs)=some (decide (s∈l)!=a):=by
 show(fj _).bind _=_;rw[mM,qd,xT,Option.map_some,decide_eq_decide.mpr mem_kN]
def bT:Option aC->D
 | none=>.non
 | some s=>af s
abbrev Wy:=List (aC×Option aC)
noncomputable def au(W:Wy):AX:=W.map (·.1)
def bx(W:Wy):D:=.dct true ((au W).map af) (W.map λp=>bT p.2)
structure WOk(L:AW)(s:aC)(W:Wy):Prop where
 nd:(au W).Nodup
 hd:∃X,W=(s,none)::X
 par:∀i p,W[i]?=some p->0<i->∃(k:Nat) (q:aC×Option aC),k<i/\W[k]?=some q/\p.2=some q.1/\p.1∈bG L q.1
theorem IP(h:WOk L s W){j:Nat}(hj:W[j]?=some q)(ht:t∈bG L q.1)(hn:t∉au W):WOk L s (W++[(t,some q.1)]):=by
 refine⟨?_,?_,λi p hi hp=>?_⟩
 .unfold au
  rw[wu,List.nodup_append];refine⟨h.nd,by simp,λx hx y hy e=>?_⟩;simp at hy;subst hy e;exact hn hx
 .obtain⟨X,e⟩:=h.hd
  exact⟨X++[(t,some q.1)],by rw[e];rfl⟩
 .by_cases hlt:i<W.length
  .rw[List.getElem?_append_left hlt]at hi
   obtain⟨k,r,h1,h2,h3⟩:=h.par i p hi hp;exact⟨k,r,h1,by rw[List.getElem?_append_left ∅];exact h2,h3⟩
  .rw[List.getElem?_append_right ∅]at hi
   have hi0:i-W.length=0:=by
    by_cases z:i-W.length=0
    .exact z
    .rw[List.getElem?_eq_none (by simp;ac_nf)]at hi
     cases hi
   rw[hi0]at hi;have:p=(t,some q.1):=(w5 hi).symm;subst this;have hjl:j<W.length:=(qo hj).1;exact⟨j,q,by ac_nf,by rw[List.getElem?_append_left hjl];exact hj,rfl,ht⟩
def dE(bk:D)(s:aC)(W:Wy)(j:Nat)(y:AQ):Ro:=[↑bk,↑(af s),some (.od true ((au W).map af) (W.map λp=>bT p.2)),some (.ow ((au W).map af)),↑(.int j),y]
theorem IQ(a:W.length<=1000)(hn:t∉au W)(d:D):kh ((au W).map af) (W.map λp=>bT p.2) (af t) d=some ((au W).map af++[af t],(W.map λp=>bT p.2)++[d]):=by
 unfold kh;rw[mM,qd,xT,qd,if_pos (by rw[qf];show _<1000000;ac_nf),if_neg (λz=>hn (mem_kN.mp z))]
theorem IR:∀(b:AX) (W:Wy) (y:AQ),WOk L s W->W.length+b.length<=1000->W[j]?=some q->(∀t∈b,t∈bG L q.1)->
 ∃(X:Wy) (g:AQ),WOk L s (W++X)/\(∀t∈b,t∈au (W++X))/\(∀p∈X,p.1∈b)/\M.forM (ai 5) ml (b.map af) (dE bk s W j y)=some (.nx (dE bk s (W++X) j g))
 | [],W,y,v,_,_,_=>⟨[],y,by grind,λt h=>(nomatch h),λp l=>(nomatch l),by rw[w9];rfl⟩
 | t::b,W,y,v,O,w,h=>by
   have N:bD ((au W).map af) (j:Int)=some (af q.1):=by
    have K:j<W.length:=(qo w).1;rw[gN]
    have:(au W)[j]?=some q.1:=by unfold au;grind
    rw[lM this];rfl
   rw[Qd,M.forM];have H:ai 5 (af t) (dE bk s W j y)=some (dE bk s W j (↑(af t))):=rfl;rw[H,qd]
   have G:W.length+b.length+1<=1000:=by omega
   have n:=PK true t (au W) (W.map λp=>bT p.2);by_cases d:t∈au W
   .have A:ml (dE bk s W j (↑(af t)))=some (.nx (dE bk s W j (↑(af t)))):=by
     simp only[d,decide_true]at n;unfold dE;generalize (au W).map af=c,(W.map λp=>bT p.2)=k,af t=f,af s=m at *;simp[ml,n]
    obtain⟨X,g,o,D,F,r⟩:=IR b W (↑(af t)) v (by lia) w λu a=>h u (qg _ a);refine⟨X,g,o,λu a=>?_,λp l=>qg _ (F p l),?_⟩
    .rcases qu a with rfl|a
     .unfold au
      rw[wu];exact List.mem_append.mpr (.inl d)
     grind
    .rw[A,qd]
     exact r
   .have z:=IP v w (h t nofun) d
    have A:ml (dE bk s W j (↑(af t)))=some (.nx (dE bk s (W++[(t,some q.1)]) j (↑(af t)))):=by
     simp only[d,decide_false]at n;have l:=IQ (by lia) d (af q.1);have e:cb ((au W).map af) (af t)=some ((au W).map af++[af t]):=vE (by unfold au;simp;lia)
     have E:(au (W++[(t,some q.1)])).map af=(au W).map af++[af t]:=by unfold au;grind
     have C:((W++[(t,some q.1)]).map λp=>bT p.2)=(W.map λp=>bT p.2)++[af q.1]:=by rw[wu];rfl
     unfold dE;rw[E,C];clear E C;generalize (au W).map af=c,(W.map λp=>bT p.2)=k,af t=f,af s=m,af q.1=J at *;have I:ig 2 [↑bk,↑m,some (.od true c k),some (.ow c),↑(.int (j:Int)),↑f]=some (c,k):=rfl
     have i:ij 2 (aa 5) (b2 (aa 3) (aa 4) ao) [↑bk,↑m,some (.od true c k),some (.ow c),↑(.int (j:Int)),↑f]=some (.nx [↑bk,↑m,some (.od true (c++[f]) (k++[J])),some (.ow c),↑(.int (j:Int)),↑f]):=by
      unfold ij
      ext
     simp[ml,n,i,e]
    have x:(W++[(t,some q.1)])[j]?=some q:=by
     grind
    obtain⟨X,g,o,D,F,r⟩:=IR b (W++[(t,some q.1)]) (↑(af t)) z (by ext<;>lia) x λu a=>h u (qg _ a);rw[ja]at o D r;refine⟨[(t,some q.1)]++X,g,o,λu a=>?_,λp l=>?_,?_⟩
    .rcases qu a with rfl|a
     .unfold au
      grind
     grind
    .grind
    .rw[A,qd]
     exact r
theorem sI(hn:(au W).Nodup)(h:∀s∈au W,s.1<60):W.length<=120:=by
 have hm:((au W).map λs:aC=>2*s.1+(if s.2 then 1 else 0)).Nodup:=by
  rw[List.Nodup,List.pairwise_map];refine hn.imp λ{a b} hab e=>hab ?_;obtain⟨a1,a2⟩:=a;obtain⟨b1,b2⟩:=b
  cases a2<;>cases b2<;>simp at e<;>first|(exfalso;lia)|(rw[show a1=b1 by lia])
 have:=r9 120 _ hm λx hx=>by
  obtain⟨s,hs,rfl⟩:=qy hx;have:=h s hs;cases s.2<;>simp<;>lia
 simpa [au]using this
def IS(c:∀l∈L,∀s∈l,s.1<60)(h:t∈bG L s):t.1<60:=by
 obtain⟨l,b,e⟩:=List.mem_filterMap.mp h;unfold iH at e
 split at e
 .rename_i d
  injection e with e;subst e
  cases f:l.filter _ with
  | nil=>exact c l b _ d
  | cons a r=>
    have:a∈l.filter λt=>!decide (t=aP s):=by rw[f];simp
    exact c l b a (Qc this).1
 .cases e
def xU(L:AW)(W:Wy)(j:Nat):Prop:=∀k q,W[k]?=some q->k<j->∀t∈bG L q.1,t∈au W
theorem Zr(u:L.length<=500)(J:∀l∈L,∀s∈l,s.1<60):∀(m a j:Nat) (W:Wy) (y:AQ),121<=j+m->m+1<=a->WOk L s W->(∀t∈au W,t.1<60)->j<=W.length->xU L W j->
 ∃(f:Wy) (C:Nat) (x:AQ),WOk L s f/\(∀t∈au f,t.1<60)/\xU L f f.length/\c5 (b2 (aa 4) (cC (Yb (aa 3) ae) aU) gE) qU a (dE (aT L) s W j y)=some (.nx (dE (aT L) s f C x)):=by
 intro m
 induction m with
 | zero=>
   intro a j W y S K n c O E;have:=sI n.nd c;omega
 | succ m N=>
   intro a j W y S K n c O E
   cases a with
   | zero=>ext
   | succ a=>
     have d:(b2 (aa 4) (cC (Yb (aa 3) ae) aU) gE) (dE (aT L) s W j y)=some (decide (j<W.length)):=by
      have F:(((au W).map af).length:Int)=(W.length:Int):=by unfold au;simp
      unfold dE
      ext
     rw[c5,d];by_cases w:j<W.length
     .have H:W[j]?=some W[j]:=qr w
      have i:=HQ (L:=L) (by lia) W[j].1;have M:=sI n.nd c;have T:(bG L W[j].1).length<=500:=Qg (List.length_filterMap_le _ _) u;obtain⟨X,A,R,k2,Q,D⟩:=IR (bk:=aT L) (j:=j) (q:=W[j]) (bG L W[j].1) W y n (by lia) H λt b=>b
      have r:qU (dE (aT L) s W j y)=some (.nx (dE (aT L) s (W++X) (j+1) A)):=by
       have v:bD ((au W).map af) (j:Int)=some (af W[j].1):=by
        rw[gN]
        have:(au W)[j]?=some W[j].1:=by unfold au;ext
        rw[lM this];rfl
       have h:((j+1:Nat):Int)=(j:Int)+1:=by lia
       unfold dE at D ⊢;rw[h];generalize ((W++X).map λp=>bT p.2)=VX,(au W).map af=Y,af W[j].1=Z,af s=V,aT L=bk at *;simp[qU,v,i,D]
      have g:∀t∈au (W++X),t.1<60:=λt b=>by
       unfold au at b;rw[wu]at b;rcases qw b with b|b
       .exact c t b
       .obtain⟨p,G,rfl⟩:=qy b
        exact IS J (Q p G)
      have o:xU L (W++X) (j+1):=λk q z I t b=>by
       by_cases e:k=j
       .grind
       .rw[List.getElem?_append_left (by grind)]at z
        have:=E k q z (by lia) t b;unfold au at this ⊢;grind
      obtain⟨f,C,x,U,r2,r3,r4⟩:=N a (j+1) (W++X) A (by lia) (by lia) R g (by grind) o;grind
     grind
structure eM(L:AW)(s:aC)(W:Wy):Prop extends WOk L s W where
 cl:xU L W W.length
 lt:∀t∈au W,t.1<60
theorem Zs(hLl:L.length<=500)(hL:∀l∈L,∀s∈l,s.1<60)(hs:s.1<60):∃W:Wy,eM L s W/\mm [aT L,af s]=some (bx W):=by
 have h0:WOk L s [(s,none)]:=⟨by simp[au],⟨[],rfl⟩,λi p hi hp=>by
  rw[List.getElem?_eq_none (by simp;lia)]at hi
  cases hi⟩
 obtain⟨W,j,y,h1,h2,h3,h4⟩:=Zr hLl hL (s:=s) 121 4000 0 [(s,none)] none (by lia) (by lia) h0 (λt ht=>by simp[au]at ht;rw[ht];exact hs) (Qh _) (λk q _ hk=>by lia);refine⟨W,{h1 with cl:=h3,lt:=h2},?_⟩;rw[mm,Yj (by rfl)];have hst0:Yd 6 [aT L,af s]=[↑(aT L),↑(af s),none,none,none,none]:=rfl;have hdisp:ki 2 (ab 1) (kD .non) [↑(aT L),↑(af s),none,none,none,none]=some (.nx [↑(aT L),↑(af s),some (.od true [af s] [.non]),none,none,none]):=rfl;rw[hst0,FF,eh,hdisp,qd,l_];have h4':c5 (b2 (aa 4) (cC (Yb (aa 3) ae) aU) gE) qU 4000 [↑(aT L),↑(af s),some (.od true [af s] [.non]),some (.ow [af s]),↑(.int 0),none]=some (.nx (dE (aT L) s W j y)):=h4;have h5:v_ (dE (aT L) s W j y)=some (.rt (bx W)):=rfl;generalize dE (aT L) s W j y=sw,bx W=wd,af s=ds,aT L=bk at *;simp[h4',h5,-v_]
theorem IT(j:∀l∈L,eK l):t∈bG L s↔ed L s t:=by
 unfold bG ed;rw[List.mem_filterMap];constructor
 .rintro⟨l,g,e⟩
  unfold iH at e
  split at e
  .rename_i i
   injection e with e
   cases k:l.filter _ with
   | nil=>
     rw[k]at e;refine⟨l,g,i,by grind,λ_=>?_⟩
     have c:∀x∈l,x=aP s:=λx o=>by
      grind
     obtain⟨_,f⟩:=j l g
     match l,f,i,c with
     | [a],_,_,_=>rfl
     | a::b::r,f,_,c=>
       ext
   | cons a r=>
     grind
  .cases e
 .rintro⟨l,g,d,h,m⟩
  refine⟨l,g,?_⟩;unfold iH;obtain⟨n,f⟩:=j l g;by_cases e:t=aP s
  .match l,m e,d with
   | [a],_,d=>
     ext
  .have k:l.filter (λt=>!decide (t=aP s))=[t]:=by
    match l,n,f,d,h with
    | [a],_,_,d,h=>
      (simp at*;lia)
    | [a,b],_,f,d,h=>
      grind
   ext
theorem xV(f:∀l∈L,eK l)(h:eM L s W):t∈au W↔Rch L s t:=by
 have b:∀(n i:Nat) p,i<n->W[i]?=some p->Rch L s p.1:=λn=>by
  induction n with
  | zero=>ext
  | succ n d=>
    intro i p c a;by_cases r:i=0
    .subst r
     obtain⟨X,e⟩:=h.hd;rw[e]at a;cases a;exact .refl
    .obtain⟨k,q,u,g,v,o⟩:=h.par i p a (by lia)
     exact .step (d k q (by lia) g) ((IT f).mp o)
 constructor
 .intro m
  obtain⟨p,a,rfl⟩:=qy m;obtain⟨i,c,e⟩:=List.mem_iff_getElem.mp a;exact b (i+1) i p (by lia) (by ext)
 .intro j
  induction j with
  | refl=>
    obtain⟨X,e⟩:=h.hd;rw[e];constructor<;>lia
  | step _ e d=>
    obtain⟨p,a,rfl⟩:=qy d;obtain⟨i,c,w⟩:=List.mem_iff_getElem.mp a;exact h.cl i p (by ext) c _ ((IT f).mpr e)
inductive ee (L:AW) (s:aC):AX->aC->Prop
 | one:ee L s [s] s
 | cons {p:AX}{q t:aC}:ee L s p q->t∈bG L q->ee L s (t::p) t
theorem IU:∀{W:List (aC×b)}{i:Nat}{p:aC×b},(W.map (·.1)).Nodup->W[i]?=some p->Yn ((W.map (·.1)).map kN) (W.map (·.2)) (kN p.1)=some p.2
 | [],i,p,_,h=>by simp at h
 | w::W,i,p,a,h=>by
   rw[Qd,List.nodup_cons]at a;rw[Qd,Qd,Qd,Yn]
   cases i with
   | zero=>
     ext
   | succ i=>
     rw[List.getElem?_cons_succ]at h;rw[if_neg (λz=>a.1 (by rw[IM z];exact(Qs (f:=(·.1)) (List.mem_of_getElem? h))))];exact IU a.2 h
theorem IV(hn:(au W).Nodup){i:Nat}(h:W[i]?=some p):bA (bx W) (af p.1)=some (bT p.2):=by
 show(fj _).bind _=_;rw[mM,xT];have:=IU (W:=W.map λp=>(p.1,bT p.2)) (i:=i) (p:=(p.1,bT p.2)) (by rwa [Qf]) (by ext)
 have a:((W.map λp=>(p.1,bT p.2)).map (·.1))=au W:=by rw[Qf];rfl
 have b:((W.map λp=>(p.1,bT p.2)).map (·.2))=W.map λp=>bT p.2:=by ext
 ext
theorem Zt(h:WOk L s W)(C:W.length<=120)(d:AQ):∀(n a i:Nat) (p:aC×Option aC) (R:AX),i<n->i+2<=a->R.length+i<=500->W[i]?=some p->
 ∃b:AX,ee L s b p.1/\b.length<=i+1/\c5 (b2 (aa 3) (kD .non) (bU true)) v9 a [↑(bx W),d,some (.ow (R.map af)),↑(af p.1)]=some (.nx [↑(bx W),d,some (.ow ((R++b).map af)),↑.non]):=by
 intro n
 induction n with
 | zero=>symm
 | succ n r=>
   intro a i p R A E v l
   cases a with
   | zero=>ext
   | succ a=>
     have c:∀(x:aC) (R:AX),b2 (aa 3) (kD .non) (bU true) [↑(bx W),d,some (.ow (R.map af)),↑(af x)]=some true:=λx R=>rfl;have j:∀R:AX,b2 (aa 3) (kD .non) (bU true) [↑(bx W),d,some (.ow (R.map af)),↑.non]=some false:=λR=>rfl;have u:=IV h.nd l
     have f:v9 [↑(bx W),d,some (.ow (R.map af)),↑(af p.1)]=some (.nx [↑(bx W),d,some (.ow ((R++[p.1]).map af)),↑(bT p.2)]):=by
      have g:cb (R.map af) (af p.1)=_:=vE ⋯;rw[wu];have m:[p.1].map af=[af p.1]:=rfl;rw[m];simp[v9,g,u]
     rw[c5,c,qd,if_pos rfl,f,qd];by_cases o:i=0
     .subst o
      obtain⟨X,e⟩:=h.hd;rw[e]at l;cases l;refine⟨[s],.one,by simp,?_⟩
      cases a with
      | zero=>ext
      | succ a=>
        show c5 _ _ (a+1) [_,d,some (.ow ((R++[s]).map af)),↑.non]=_;rw[c5,j,qd,if_neg qi]
     .obtain⟨k,q,D,t,y,w⟩:=h.par i p l ∅
      obtain⟨b,b1,z,b3⟩:=r a k q (R++[p.1]) ∅ ∅ (by simp;ac_nf) t;refine⟨p.1::b,.cons b1 w,by simp;ac_nf,?_⟩;rw[y]
      have e:R++p.1::b=(R++[p.1])++b:=by simp
      rw[e];exact b3
structure eN(L:AW)(s t:aC)(r:AX):Prop where
 ok:iI L r=true
 fst:eT r 0=s
 lst:mG r=t
 len:r.length<=120
theorem xW(h:i<r.length)(x:aC):eT (r++[x]) i=eT r i:=by
 unfold eT;grind
def PL(r:AX)(x:aC):eT (r++[x]) r.length=x:=by
 unfold eT;simp
theorem Zu(h:ee L s b t):iI L b.reverse=true/\eT b.reverse 0=s/\mG b.reverse=t:=by
 induction h with
 | one=>
   refine⟨?_,rfl,rfl⟩;unfold iI;simp
 | @cons p q t _ d j=>
   obtain⟨a,l,f⟩:=j;rw[List.reverse_cons];refine⟨?_,by rwa [xW (Ph a)],?_⟩
   .unfold iI at a ⊢
    rw[Qe,List.all_eq_true]at a ⊢;refine⟨by simp,λi k=>?_⟩;have c:=Qb k;rw[qz,jb]at c;unfold Pg;by_cases e:i+1<p.reverse.length
    .have:=a.2 i (List.mem_range.mpr (by omega))
     rwa [xW e,xW (by ext)]
    .have g:i+1=p.reverse.length:=by lia
     rw[g,PL,xW (by ext)]
     have:eT p.reverse i=q:=by
      rw[<-f]
      congr 1
      grind
     rw[this];exact wn d
   .unfold mG
    rw[qz,jb,Nat.add_sub_cancel,PL]
theorem sJ(h:eM L s W)(g:t∈au W):∃r:AX,eN L s t r/\jv [bx W,af t]=some (.tup (r.map af)):=by
 obtain⟨p,o,rfl⟩:=qy g;obtain⟨i,u,e⟩:=List.mem_iff_getElem.mp o;have l:=sI h.nd h.lt;obtain⟨b,b1,m,b3⟩:=Zt h.toWOk l (↑(af p.1)) (i+1) 4000 i p [] (by lia) (by lia) (by simp;lia) (by grind);obtain⟨f,n,k⟩:=Zu b1;refine⟨b.reverse,⟨f,n,k,by ext<;>lia⟩,?_⟩;rw[jv,Yj (by rfl)];have a:Yd 4 [bx W,af p.1]=[_,_,none,none]:=rfl;rw[a];rw[Qj,List.map_nil]at b3;rw[List.map_reverse];generalize b.map _=d,bx W=q,af p.1=j at *;have c:j9 (aa 2) [↑q,↑j,some (.ow d),↑.non]=some _:=rfl;simp[NI,b3,c]
noncomputable def aD(B:AE):AX:=B.flatMap λb=>[(b,false),(b,true)]
theorem mem_sayL{B:AE}:s∈aD B↔s.1∈B:=by
 unfold aD;rw[List.mem_flatMap];constructor
 .grind
 .intro h
  refine⟨s.1,h,?_⟩;obtain⟨a,b⟩:=s;cases b<;>simp
theorem IW(B:AE):(aD B).length=2*B.length:=by
 induction B with
 | nil=>rfl
 | cons b B a=>
   have:aD (b::B)=_++aD B:=rfl
   ext<;>lia
theorem mN{B:AE}(i:Yc c=some (B.map nD))(n:B.length<=1000):Yu [c]=some (.lst ((aD B).map af)):=by
 obtain⟨k,j,g,rfl⟩:=gM (gt:=ai 2) (fb:=Ge) nD (λd h=>∃g:Option M.B,h=[↑c,some (.ow ((aD d).map af)),g]) B []
  [↑c,some (.ow []),none] ⟨none,rfl⟩ (by
   rintro q b r h e ⟨g,rfl⟩
   have m:q.length<=1000:=by
    ext<;>lia
   refine⟨_,[↑c,some _,↑(nD b)],rfl,?_,_,rfl⟩
   have f:(aD (q++[b])).map af=(aD q).map af++[.tup [.int (b:Int),.bl false],.tup [.int (b:Int),.bl true]]:=by
    unfold aD;rw[List.flatMap_append,wu];rfl
   have l:=IW q
   have a:eC ((aD q).map af) (.lst [.tup [.int (b:Int),.bl false],.tup [.int (b:Int),.bl true]])=some ((aD q).map af++[.tup [.int (b:Int),.bl false],.tup [.int (b:Int),.bl true]]):=by
    unfold eC;simp;lia
   rw[f]
   simp[Ge,a])
 rw[Yu,Yj (by rfl)];simp[Gg,Yd,i,j]
def aL(A:AX)(wf:aC->Wy):D:=.dct true (A.map af) (A.map λs=>bx (wf s))
theorem gT(hn:A.Nodup)(h:s∈A):bA (aL A wf) (af s)=some (bx (wf s)):=by
 show(fj _).bind _=_;rw[mM,xT];obtain⟨i,c,e⟩:=List.mem_iff_getElem.mp h;have:=IU (W:=A.map λs=>(s,bx (wf s))) (i:=i) (p:=(s,bx (wf s))) (by grind) (by ext)
 have d:((A.map λs=>(s,bx (wf s))).map (·.1))=A:=by simp[wv]
 have b:((A.map λs=>(s,bx (wf s))).map (·.2))=A.map λs=>bx (wf s):=by ext
 ext
structure dQ(L:AW)(A:AX)(wf:aC->Wy):Prop where
 nd:A.Nodup
 all:∀s∈A,eM L s (wf s)
def xX(t:aC):cN false (af t) (bx W)=some (decide (t∈au W)):=by
 unfold bx;rw[PK];simp
def IX(h:dQ L A wf)(hs:s∈A)(d:t∈A):Yq [aL A wf,af s,af t]=some (.bl (decide (t∈au (wf s))&&decide (s∈au (wf t)))):=by
 have c:=gT (wf:=wf) h.nd hs;have a:=xX (W:=wf s) t;rw[Yq,Yj (by rfl)]
 cases b:decide (t∈au _)with
 | true=>
   rw[b]at a;simp[Gh,Yd,c,gT (wf:=wf) h.nd d,a,xX (W:=wf t) s]
 | false=>
   rw[b]at a;simp[Gh,Yd,c,a]
inductive aS (L:AW) (K S:AE):D->Prop
 | clash {s:aC}{a b:AX}:eN L s (aP s) a->eN L (aP s) s b->aS L K S (.tup [.str "clash",.tup (a.map af),.tup (b.map af)])
 | cross {s t:aC}{a:AX}:s.1∈S->t.1∈S->s≠t->eN L s t a->aS L K S (.tup [.str "cross",.tup (a.map af)])
 | late {s t:aC}{a b:AX}:s.1∈S->t.1∈K->t.1<s.1->eN L s t a->eN L t s b->aS L K S (.tup [.str "late",.tup (a.map af),.tup (b.map af)])
theorem Zv(C:A.length<=1000)(h:dQ L A wf)(g:∀s∈A,aP s∈A)(K S:AE):
 (∃d,aS L K S d/\ro [aL A wf]=some d)\/((∀s∈A,¬(aP s∈au (wf s)/\s∈au (wf (aP s))))/\ro [aL A wf]=some .non):=by
 have f:=jB (gt:=ai 1) (fb:=w_) af (λm w=>(∀s∈m,¬(aP s∈au (wf s)/\s∈au (wf (aP s))))/\∃o j:Option M.B,w=[↑(aL A wf),o,j]) (aS L K S) A []
  _ ⟨λs c=>(nomatch c),none,none,rfl⟩ (by
   rintro q s r w e ⟨p,o,j,rfl⟩;rw[Qj]at e
   have c:s∈A:=by rw[e];simp
   have u:=xD s;have k:=IX h c (g s c);refine⟨[some _,some _,j],rfl,?_⟩;by_cases i:aP s∈au (wf s)/\s∈au (wf (aP s))
   .right
    obtain⟨a,z,F⟩:=sJ (h.all s c) i.1;obtain⟨b,E,B⟩:=sJ (h.all _ (g s c)) i.2;refine⟨_,?_,.clash z E⟩;have D:=gT (wf:=wf) h.nd c;have y:=gT (wf:=wf) h.nd (g s c);simp [i.1,i.2,Bool.and_self]at k;simp[w_,u,k,D,y,F,B]
   .left
    have l:(decide (aP s∈au (wf s))&&decide (s∈au (wf (aP s))))=false:=by
     ext
    rw[l]at k;refine⟨[some _,↑(af s),↑(af (aP s))],?_,λt G=>?_,_,_,rfl⟩
    .simp[w_,u,k]
    symm)
 have v:qG (aL A wf)=some (A.map af):=by
  unfold aL;rw[Uc,if_pos (by rw[qf];show _<=1000000;ac_nf)]
 rw[ro,Yj (by rfl)];rcases f with⟨x,n,p,o,j,rfl⟩|⟨d,n,hd⟩
 .refine .inr ⟨p,?_⟩
  simp[Gj,Yd,v,n]
 .refine .inl ⟨d,hd,?_⟩
  simp[Gj,Yd,v,n]
theorem Zw(h:dQ L A wf)(y:S.length<=1000)(O:∀s∈aD S,s∈A)(K:AE):
 (∃d,aS L K S d/\ru [aL A wf,.lst (S.map nD)]=some d)\/((∀s∈aD S,∀t∈aD S,¬(t≠s/\t∈au (wf s)))/\ru [aL A wf,.lst (S.map nD)]=some .non):=by
 have g:=mN (c:=.lst (S.map nD)) (B:=S) rfl y
 have l:=jB (gt:=ai 2) (fb:=xa) af (λj v=>(∀s∈j,∀t∈aD S,¬(t≠s/\t∈au (wf s)))/\∃D o:Option M.B,v=[↑(aL A wf),↑(.lst (S.map nD)),D,o]) (aS L K S) (aD S) []
  _ ⟨λs m=>(nomatch m),none,none,rfl⟩ (by
   rintro q s r v e ⟨x,D,o,rfl⟩;rw[Qj]at e
   have p:s∈aD S:=by rw[e];simp
   have m:=O s p;have G:=gT (wf:=wf) h.nd m;refine⟨[↑(aL A wf),some _,↑(af s),o],rfl,?_⟩
   have C:=jB (gt:=ai 3) (fb:=rq) af (λj v=>(∀t∈j,¬(t≠s/\t∈au (wf s)))/\∃o:Option M.B,v=[↑(aL A wf),↑(.lst (S.map nD)),↑(af s),o]) (aS L K S) (aD S) []
    _ ⟨λs m=>(nomatch m),o,rfl⟩ (by
     rintro I t V v H ⟨E,N,rfl⟩;rw[Qj]at H
     have B:t∈aD S:=by rw[H];simp
     have f:=Pf true t s;have w:=xX (W:=wf s) t;refine⟨[↑(aL A wf),some _,↑(af s),↑(af t)],rfl,?_⟩
     have i:_->(∀u∈I++[t],¬_):=λn u b=>by
      rcases qw b with b|b
      .exact E u b
      .rw[List.mem_singleton]at b
       rw[b];exact n
     by_cases c:t=s
     .left
      refine⟨[↑(aL A wf),some _,↑(af s),↑(af t)],?_,i (λz=>z.1 c),_,rfl⟩;simp only[c,decide_true,if_true,Bool.not_true]at f;rw[c];simp[rq,f]
     .simp only[c,decide_false,if_true,Bool.not_false]at f
      by_cases n:t∈au (wf s)
      .right
       obtain⟨a,Q,R⟩:=sJ (h.all s m) n;refine⟨_,?_,.cross (mem_sayL.mp p) (mem_sayL.mp B) (λz=>c z.symm) Q⟩;simp only[n,decide_true]at w;simp[rq,f,G,w,R]
      .left
       refine⟨[↑(aL A wf),some _,↑(af s),↑(af t)],?_,i (λz=>n z.2),_,rfl⟩;simp only[n,decide_false]at w
       simp[rq,f,G,w])
   rcases C with⟨T,k,F,J,rfl⟩|⟨d,k,hd⟩
   .left
    refine⟨[↑(aL A wf),some _,↑(af s),J],?_,λu b=>?_,_,_,rfl⟩
    .simp[xa,g,k]
    .rcases qw b with b|b
     .exact x u b
     .rw[List.mem_singleton]at b
      rw[b];exact F
   .right
    refine⟨d,?_,hd⟩
    simp[xa,g,k])
 rw[ru,Yj (by rfl)];rcases l with⟨U,k,x,Y,D,rfl⟩|⟨d,k,hd⟩
 .refine .inr ⟨x,?_⟩
  simp[Gk,Yd,g,k]
 .refine .inl ⟨d,hd,?_⟩
  simp[Gk,Yd,g,k]
def gz(wf:aC->Wy)(s t:aC):Prop:=t.1<s.1/\t∈au (wf s)/\s∈au (wf t)
theorem Zx(h:dQ L A wf)(H:K.length<=1000)(F:S.length<=1000)(Y:∀s∈aD K,s∈A)(V:∀s∈aD S,s∈A):
 (∃d,aS L K S d/\rz [aL A wf,.lst (K.map nD),.lst (S.map nD)]=some d)\/((∀s∈aD S,∀t∈aD K,¬gz wf s t)/\rz [aL A wf,.lst (K.map nD),.lst (S.map nD)]=some .non):=by
 have x:=mN (c:=.lst (S.map nD)) (B:=S) rfl F;have B:=mN (c:=.lst (K.map nD)) (B:=K) rfl H
 have j:=jB (gt:=ai 3) (fb:=xb) af (λm y=>(∀s∈m,∀t∈aD K,¬gz wf s t)/\∃E o:Option M.B,y=[↑(aL A wf),↑(.lst (K.map nD)),↑(.lst (S.map nD)),E,o]) (aS L K S) (aD S) []
  _ ⟨λs k=>(nomatch k),none,none,rfl⟩ (by
   rintro q s r y e ⟨N,E,o,rfl⟩;rw[Qj]at e
   have w:s∈aD S:=by rw[e];simp
   have k:=V s w;have g1:=gT (wf:=wf) h.nd k;refine⟨[↑(aL A wf),↑(.lst (K.map nD)),↑(.lst (S.map nD)),↑(af s),o],rfl,?_⟩
   have D:=jB (gt:=ai 4) (fb:=ry) af (λm y=>(∀t∈m,¬gz wf s t)/\∃o:Option M.B,y=[↑(aL A wf),↑(.lst (K.map nD)),↑(.lst (S.map nD)),↑(af s),o]) (aS L K S) (aD K) []
    _ ⟨λs k=>(nomatch k),o,rfl⟩ (by
     rintro Z t r' y Q ⟨hq',y3',rfl⟩;rw[Qj]at Q
     have v:t∈aD K:=by rw[Q];simp
     have G:=Y t v;have T:=gT (wf:=wf) h.nd G;have C:=IX h k G;have i:Yc (af s)=some [.int (s.1:Int),.bl s.2]:=rfl;have n:Yc (af t)=some [.int (t.1:Int),.bl t.2]:=rfl;refine⟨[↑(aL A wf),↑(.lst (K.map nD)),↑(.lst (S.map nD)),↑(af s),↑(af t)],rfl,?_⟩
     have g:¬gz wf s t->(∀u∈Z++[t],¬gz wf s u):=λp u hu=>by
      grind
     by_cases f:t.1<s.1
     .have c:(t.1:Int)<(s.1:Int):=by ext
      by_cases p:t∈au (wf s)/\s∈au (wf t)
      .right
       obtain⟨a,ra,U⟩:=sJ (h.all s k) p.1;obtain⟨b,rb,eb⟩:=sJ (h.all t G) p.2;refine⟨_,?_,.late (mem_sayL.mp w) (mem_sayL.mp v) f ra rb⟩;simp only[p.1,p.2,decide_true,Bool.and_self]at C;simp[ry,i,n,f,c,C,g1,T,U,eb]
      .left
       refine⟨[↑(aL A wf),↑(.lst (K.map nD)),↑(.lst (S.map nD)),↑(af s),↑(af t)],?_,g (λz=>p z.2),_,rfl⟩
       have I:(decide (t∈au (wf s))&&decide (s∈au (wf t)))=false:=by
        ext
       rw[I]at C;simp[ry,i,n,f,c,C]
     .left
      have c:¬(t.1:Int)<(s.1:Int):=by ext
      refine⟨[↑(aL A wf),↑(.lst (K.map nD)),↑(.lst (S.map nD)),↑(af s),↑(af t)],?_,g (λz=>f z.1),_,rfl⟩
      simp[ry,i,n,f,c])
   rcases D with⟨ρ2,l,J,y4,rfl⟩|⟨d,l,hd⟩
   .left
    rw[Qj]at J;refine⟨[↑(aL A wf),↑(.lst (K.map nD)),↑(.lst (S.map nD)),↑(af s),y4],?_,λu hu=>?_,_,_,rfl⟩
    .generalize af s=R at *
     simp[xb,B,l]
    grind
   .right
    refine⟨d,?_,hd⟩;generalize af s=R,S.map nD=O at *
    simp[xb,B,l])
 rw[rz,Yj (by rfl)];rcases j with⟨ρ',l,N,y1,E,rfl⟩|⟨d,l,hd⟩
 .rw[Qj]at N
  refine .inr ⟨N,?_⟩;generalize aL A wf=ws,S.map nD=O,K.map nD=KK at *;simp[Gm,Yd,x,l]
 .refine .inl ⟨d,hd,?_⟩
  generalize aL A wf=ws,S.map nD=O,K.map nD=KK at *;simp[Gm,Yd,x,l]
theorem IY(l:AX):mE .e (.ei l)=decide (l=[]):=by
 show bQ (.tup _) (.tup [])=_
 cases l with
 | nil=>simp
 | cons a l=>
   ext
theorem IZ(L:AW):(L.map Rl.ei).any (mE .e)=decide ([]∈L):=by
 rw[List.any_map]
 cases h:decide ([]∈L)with
 | true=>
   have:=wt h;exact List.any_eq_true.mpr ⟨[],this,rfl⟩
 | false=>
   rw[List.any_eq_false];intro l a;show ¬mE .e _=true;rw[IY];grind
def xY(L:AW)(st n:Nat):Prop:=∀l∈L,gj (.ei l)/\∀s∈l,st<=s.1/\s.1<n
theorem Zy(h:xY L st n):rm [aT L]=some (.bl (decide ([]∈L))):=by
 have c:=Y4 (R:=L.map .ei) (λr b=>by
  obtain⟨l,a,rfl⟩:=qy b;refine⟨⟨rfl,λs d=>((h l a).2 s d).2⟩,?_⟩;have:=(h l a).1.1;show l.length<=_
  lia)
 rwa [IZ,HR]at c
theorem jD(h:aS L K S d):∃l,d=.tup l:=by
 cases h
 .grind
 .grind
 grind
def I0(L:AW)(K S:AE)(d:D):Prop:=aS L K S d\/([]∈L/\d=.tup [.str "broken"])
theorem Zz(hL:∀l∈L,eK l)(u:xY L st n)(hKl:K.length<=60)(hSl:S.length<=60)(v:∀x,st<=x->x<n->x∈S\/x∈K)(p:∀s:aC,s∈A↔s.1∈S\/s.1∈K)(O:A.length<=1000)(h:dQ L A wf):
 (∃d,I0 L K S d/\mv [aT L,aL A wf,.lst (K.map nD),.lst (S.map nD)]=some d)\/(¬bY L K S/\mv [aT L,aL A wf,.lst (K.map nD),.lst (S.map nD)]=some .non):=by
 have c:=Zy u;have hK:∀s∈aD K,s∈A:=λs m=>(p s).mpr (.inr (mem_sayL.mp m));have U:∀s∈aD S,s∈A:=λs m=>(p s).mpr (.inl (mem_sayL.mp m));have I:∀s∈A,aP s∈A:=λs m=>(p _).mpr ((p s).mp m);have q1:=Zv O h I K S;have V:=Zw h (S:=S) (by lia) U K;have E:=Zx h (K:=K) (S:=S) (by lia) (by lia) hK U;rw[mv,Yj (by rfl)];by_cases y:[]∈L
 .left
  refine⟨_,.inr ⟨y,rfl⟩,?_⟩;simp only[y,decide_true]at c;generalize aL A wf=i,aT L=k at *;simp[Ys,Yd,c]
 .simp only[y,decide_false]at c
  have q:∀(a:D) (l:AN),bD (a::l) 0=some a:=λa l=>by ext
  rcases q1 with⟨d1,G,g⟩|⟨n1,g⟩
  .left
   refine⟨d1,.inl G,?_⟩;obtain⟨l1,rfl⟩:=jD G;clear G;rcases V with⟨T,F,f⟩|⟨R,f⟩
   .obtain⟨Z,rfl⟩:=jD F
    rcases E with⟨C,j,b⟩|⟨B,b⟩
    .obtain⟨Q,rfl⟩:=jD j
     generalize aL A wf=i,aT L=k at *;simp[Ys,Yd,c,g,f,b,ak,cT,Yp,Yr,q]
    .generalize aL A wf=i at *
     generalize aT L=k at *;simp[Ys,Yd,c,g,f,b,ak,cT,Yp,Yr,q]
   .rcases E with⟨C,j,b⟩|⟨B,b⟩
    .obtain⟨Q,rfl⟩:=jD j
     generalize aL A wf=i,aT L=k at *;simp[Ys,Yd,c,g,f,b,ak,cT,Yp,Yr,q]
    .generalize aL A wf=i at *
     generalize aT L=k at *;simp[Ys,Yd,c,g,f,b,ak,cT,Yp,Yr,q]
  .rcases V with⟨T,F,f⟩|⟨R,f⟩
   .left
    refine⟨T,.inl F,?_⟩;obtain⟨Z,rfl⟩:=jD F;rcases E with⟨C,j,b⟩|⟨B,b⟩
    .obtain⟨Q,rfl⟩:=jD j
     generalize aL A wf=i,aT L=k at *;simp[Ys,Yd,c,g,f,b,ak,cT,Yp,Yr,q]
    .generalize aL A wf=i at *
     generalize aT L=k at *;simp[Ys,Yd,c,g,f,b,ak,cT,Yp,Yr,q]
   .rcases E with⟨C,j,b⟩|⟨B,b⟩
    .left
     refine⟨C,.inl j,?_⟩;obtain⟨Q,rfl⟩:=jD j;generalize aL A wf=i,aT L=k at *;simp[Ys,Yd,c,g,f,b,ak,cT,Yp,Yr,q]
    .right
     refine⟨λr=>?_,?_⟩
     .have M:∀s∈A,∀t,t∈au (wf s)↔Rch L s t:=λs m t=>xV hL (h.all s m)
      cases r with
      | broken z=>exact y z
      | clash s o w=>
        have hsA:s∈A:=by
         have hne:s≠aP s:=λz=>IB s z.symm
         have:s.1∈S\/s.1∈K:=by
          have H:∀t,Rch L s t->t=s\/∃l∈L,t∈l:=λt ht=>by
           cases ht with
           | refl=>grind
           | step _ e=>
             obtain⟨l,Y,_,h2,_⟩:=e;grind
          rcases H _ o with z|⟨l,Y,hm⟩
          .grind
          .obtain⟨g1,g2⟩:=(u l Y).2 _ hm
           exact v s.1 g1 g2
         grind
        grind
      | cross s t o w N J=>exact R s (mem_sayL.mpr o) t (mem_sayL.mpr w) ⟨λz=>N z.symm,(M s ((p s).mpr (.inl o)) _).mpr J⟩
      | late s t o w N J z5=>exact B s (mem_sayL.mpr o) t (mem_sayL.mpr w) ⟨N,(M s ((p s).mpr (.inl o)) _).mpr J,(M t ((p t).mpr (.inr w)) _).mpr z5⟩
     .generalize aL A wf=i at *
      generalize aT L=k at *;simp[Ys,Yd,c,g,f,b,ak,cT,Yp]
theorem PM(i:Int)(y:b)(k:Int):∀{ns:AF}{vs:List b},ns.length=vs.length->i∈ns->Yn ns (aJ ns vs i y) k=if k=i then some y else Yn ns vs k
 | [],_,_,h=>nomatch h
 | n::ns,[],a,_=>by simp at a
 | n::ns,v::vs,a,h=>by
   rw[aJ];by_cases e:n=i
   .subst e
    rw[if_pos rfl,Yn,Yn];grind
   .have c:i∈ns:=by
     grind
    rw[if_neg e,Yn,Yn,PM i y k (by ext) c]
    split<;>ext
theorem PN(i:Int)(y:b)(k:Int):∀{ns:AF}{vs:List b},ns.length=vs.length->i∉ns->Yn (ns++[i]) (vs++[y]) k=if k=i then some y else Yn ns vs k
 | [],[],_,_=>by
   show Yn [i] [y] k=_;rw[Yn];grind
 | [],_::_,a,_=>by simp at a
 | n::ns,[],a,_=>by simp at a
 | n::ns,v::vs,a,h=>by
   rw[List.cons_append,List.cons_append,Yn,Yn,PN i y k (by grind) (λz=>h (qg _ z))];grind
def I1(a:ns.length=vs.length)(i:Int)(y:b)(k:Int):Yn (ba ns vs i y).1 (ba ns vs i y).2 k=if k=i then some y else Yn ns vs k:=by
 unfold ba;by_cases h:i∈ns
 .rw[if_pos h]
  exact PM i y k a h
 .rw[if_neg h]
  exact PN i y k a h
noncomputable def fP{β:Type}(k:Int):List (Int×β)->Option β->Option β
 | [],z=>z
 | p::ps,z=>fP k ps (if k=p.1 then some p.2 else z)
theorem I_(k:Int):∀(ps:List (Int×b)) {ns:AF}{vs:List b},ns.length=vs.length->Yn (ay ns vs ps).1 (ay ns vs ps).2 k=fP k ps (Yn ns vs k)
 | [],_,_,_=>rfl
 | p::ps,ns,vs,a=>by
   rw[ay,I_ k ps (Cv a),I1 a];rfl
theorem Ja:∀(ps:List (Int×c)) {ns:AF}{vs:List c},ns.Nodup->ns.length=vs.length->(ay ns vs ps).1.Nodup/\(ay ns vs ps).1.length=(ay ns vs ps).2.length
 | [],_,_,a,b=>⟨a,b⟩
 | p::ps,ns,vs,a,b=>Ja ps (Ma a) (Cv b)
theorem PP(k:Int):∀{a:AF}{b:List g}{z:Option g},a.length=b.length->a.Nodup->fP k (a.zip b) z=(Yn a b k).or z
 | [],[],z,_,_=>by
   rfl
 | [],_::_,_,c,_=>by simp at c
 | _::_,[],_,c,_=>by simp at c
 | m::a,w::b,z,c,d=>by
   rw[List.nodup_cons]at d;rw[List.zip_cons_cons,fP,PP k ⋯ d.2,Yn];by_cases e:k=m
   .subst e
    have f:Yn a b k=none:=(j8 (by ext)).mpr d.1
    ext
   symm
theorem PQ(k:Int):∀{ps:List (Int×a)}{z:Option a}{y:a},fP k ps z=some y->(k,y)∈ps\/((∀p∈ps,p.1≠k)/\z=some y)
 | [],z,y,h=>.inr ⟨λp b=>(nomatch b),h⟩
 | p::ps,z,y,h=>by
   rw[fP]at h;rcases PQ k h with c|⟨c,d⟩
   .grind
   grind
theorem Jb(k:Int):∀{ps:List (Int×a)}{z:Option a},(∃p∈ps,p.1=k)\/z.isSome=true->(fP k ps z).isSome=true
 | [],z,h=>by
   rcases h with⟨p,b,_⟩|h
   .cases b
   .exact h
 | p::ps,z,h=>by
   rw[fP];refine Jb k ?_;symm
theorem PR(k:Int):∀{ps:List (Int×a)}{z:Option a},(∀p∈ps,p.1≠k)->fP k ps z=z
 | [],z,_=>rfl
 | p::ps,z,h=>by
   rw[fP,if_neg (λe=>h p qh e.symm)];exact PR k λq b=>h q (qg _ b)
structure lz(ns:AF)(vs:AG):Prop where
 nd:ns.Nodup
 len:ns.length=vs.length
def bJ(ns:AF)(vs:AG)(j:Nat):Option Bool:=Yn ns vs j
noncomputable def cH(l:AX):List (Int×Bool):=l.map λs=>(s.1,s.2)
def bK(ns:AF)(vs:AG)(l:AX):List Int×AG:=ay ns vs ((ay [] [] (cH l)).1.zip (ay [] [] (cH l)).2)
def PU(h:lz ns vs)(l:AX):lz (bK ns vs l).1 (bK ns vs l).2:=by
 obtain⟨a,b⟩:=Ja _ h.nd h.len;exact⟨a,b⟩
theorem PX(n:∀l∈L,eK l)(i:eM L s W)(h:lz ns vs):ly L s (bJ ns vs) (bJ (bK ns vs (au W)).1 (bK ns vs (au W)).2):=λj=>by
 obtain⟨o,m⟩:=Ja (cH (au W)) (vs:=[]) List.nodup_nil rfl
 have g:∀k,Yn (bK ns vs _).1 (bK ns vs _).2 k=(fP k _ none).or _:=λk=>by
  unfold bK;rw[I_ k _ h.len,PP k m o,I_ k (cH _) rfl];rfl
 have f:∀v,Rch L s _↔((j:Int),v)∈cH _:=λv=>by
  rw[<-xV n i];constructor
  .intro c
   exact List.mem_map.mpr ⟨(j,v),c,rfl⟩
  .intro c
   obtain⟨t,q,e⟩:=qy c
   (simp at*;lia)
 have d:(∀u,¬Rch L s (j,u))->∀p∈cH (au W),p.1≠j:=λb p r e=>by
  grind
 unfold bJ;refine⟨λv a=>?_,λv a=>?_,λb=>?_⟩
 .have:=Jb j (z:=none) (.inl ⟨_,(f v).mp a,rfl⟩)
  ext
 .rw[g]at a
  cases e:fP _ _ _ with
  | some y=>
    rw[e]at a;rcases PQ _ e with w|⟨_,w⟩
    .grind
    .cases w
  | none=>
    rw[e]at a;refine .inr ⟨λu b=>?_,a⟩;have:=Jb j (z:=none) (.inl ⟨_,(f u).mp b,rfl⟩);grind
 .rw[g,PR _ (d b)]
  rfl
theorem PY(i:Int)(y:Bool):∀(ns:AF) (vs:AG),aJ ns (vs.map D.bl) i (.bl y)=(aJ ns vs i y).map D.bl
 | [],vs=>by cases vs<;>simp[aJ]
 | n::ns,[]=>by simp[aJ]
 | n::ns,v::vs=>by
   rw[Qd,aJ,aJ];by_cases e:n=i
   .grind
   .rw[if_neg e,if_neg e,PY i y ns vs]
    rfl
theorem Jc:∀(ps:List (Int×Bool)) (ns:AF) (vs:AG),ay ns (vs.map D.bl) (ps.map λp=>(p.1,D.bl p.2))=((ay ns vs ps).1,(ay ns vs ps).2.map D.bl)
 | [],ns,vs=>rfl
 | p::ps,ns,vs=>by
   rw[Qd,ay]
   have e:ba ns (vs.map D.bl) p.1 (.bl p.2)=((ba ns vs p.1 p.2).1,(ba ns vs p.1 p.2).2.map .bl):=by
    unfold ba;by_cases h:p.1∈ns
    .rw[if_pos h,if_pos h,PY]
    ext
   rw[e];exact Jc ps _ _
theorem PZ:∀l:AX,fv (l.map af)=some ((cH l).map λp=>(p.1,D.bl p.2))
 | []=>rfl
 | s::l=>by
   show fv (.tup _::_)=_;rw[fv,PZ l];rfl
theorem sL(b:W.length<=1000)(f:AU)(ρ:Ro)(e:f ρ=some (.lst ((au W).map af))):
 fB f ρ=some (.dct false ((ay [] [] (cH (au W))).1.map D.int) ((ay [] [] (cH (au W))).2.map D.bl)):=by
 have c:=PZ (au W);have d:=Jc (cH (au W)) [] []
 have a:((cH (au W)).map λp=>(p.1,D.bl p.2)).length<1000000:=by simp[cH,au];ac_nf
 ext
def Jd:(au W).length=W.length:=by simp[au]
theorem xZ:∀(ps:List (Int×a)) (ns:AF) (vs:List a),(ay ns vs ps).2.length<=vs.length+ps.length
 | [],_,vs=>by simp[ay]
 | p::ps,ns,vs=>by
   rw[ay];have:=xZ ps (ba ns vs p.1 p.2).1 (ba ns vs p.1 p.2).2
   have b:(ba ns vs p.1 p.2).2.length<=vs.length+1:=by
    unfold ba
    split
    .rw[og];lia
    .simp
   grind
theorem P0(a:vs.length<=500000)(c:W.length<=1000):
 iD (ns.map D.int,vs.map D.bl) (.dct false ((ay [] [] (cH (au W))).1.map D.int) ((ay [] [] (cH (au W))).2.map D.bl))=some ((bK ns vs (au W)).1.map D.int,(bK ns vs (au W)).2.map D.bl):=by
 have b:=xZ (cH (au W)) [] []
 have d:(cH (au W)).length=W.length:=by simp[cH,au]
 show(intsD _).bind _=_
 rw[mi,qd,mi,qd,if_pos (by
  show _<1000000
  ext<;>lia)]
 have e:(ay [] [] (cH (au W))).1.zip ((ay [] [] (cH (au W))).2.map .bl)=((ay [] [] (cH (au W))).1.zip (ay [] [] (cH (au W))).2).map λp=>(p.1,D.bl p.2):=by
  rw[List.zip_map_right];rfl
 rw[e,Jc];rfl
def ZD(j:∀l∈L,eK l)(m:¬bY L K S)(h:dQ L A wf)(d:(k,false)∈A)(e:(k,true)∈A):
 ∃l:aC,l∈A/\sH L k l/\k4 [.int (k:Int),aL A wf]=some (af l):=by
 have g:=gT (wf:=wf) h.nd d;have b:=xX (W:=wf (k,false)) (k,true);have f:=xD (k,false);have c:aP (k,false)=(k,true):=rfl;rw[c]at f;have i:∀t,_↔Rch L _ t:=λt=>xV j (h.all _ d);have hd:.tup [_,.bl false]=af (k,_):=rfl;by_cases a:(k,true)∈au (wf (k,false))
 .refine⟨(k,true),e,⟨rfl,λz=>m (.clash _ z ((i _).mp a))⟩,?_⟩
  simp [a]at b;rw[k4,Yj (by rfl)];simp[Gn,Yd,hd,f,g,b]
 .refine⟨(k,false),d,⟨rfl,λz=>a ((i _).mpr z)⟩,?_⟩
  simp [a]at b;rw[k4,Yj (by rfl)];simp[Gn,Yd,hd,f,g,b]
theorem P2{A:AX}{wf:aC->Wy}(a:(wf s).length<=1000):iC [bx (wf s)]=some ((au (wf s)).map af):=by
 unfold bx;rw[Ui,if_pos (by rw[qf,Jd];show _<=1000000;lia)]
theorem P3(ns:AF)(vs:AG)(W:Wy)(d:W.length<=120):(bK ns vs (au W)).2.length<=vs.length+120:=by
 unfold bK;have c:=xZ ((ay [] [] (cH (au W))).1.zip (ay [] [] (cH (au W))).2) ns vs;have b:=xZ (cH (au W)) [] []
 have a:(cH (au W)).length=W.length:=by simp[cH,au]
 ext<;>ac_nf
theorem ZH(hL:∀l∈L,eK l)(hKl:K.length<=60)(hSl:S.length<=60)(nb:¬bY L K S)(hA:∀s:aC,s∈A↔s.1∈S\/s.1∈K)(h:dQ L A wf):
 ∃(ns:AF) (vs:AG),lz ns vs/\mL L K S (bJ ns vs)/\(∀k∈K,(bJ ns vs k).isSome=true)/\xg [aL A wf,.lst (K.map nD),.lst (S.map nD)]=some (.dct false (ns.map D.int) (vs.map D.bl)):=by
 have hso:=mN (c:=.lst (S.map nD)) (B:=S) rfl (by lia);have hsl:=IW S
 obtain⟨ρ1,e1,ns1,vs1,y4,t1,p1,l1,rfl⟩:=gM (gt:=ai 4) (fb:=Gp) af (λpre ρ=>∃(ns:AF) (vs:AG) (y4:Option M.B),lz ns vs/\sG L pre (bJ ns vs)/\vs.length<=120*pre.length/\
  ρ=[↑(aL A wf),↑(.lst (K.map nD)),↑(.lst (S.map nD)),some (.od false (ns.map D.int) (vs.map D.bl)),y4,none]) (aD S) []
  [↑(aL A wf),↑(.lst (K.map nD)),↑(.lst (S.map nD)),some (.od false [] []),none,none] ⟨[],[],none,⟨List.nodup_nil,rfl⟩,II L,by simp,rfl⟩ (by
   rintro q s r ρ e ⟨ns,vs,y4,t0,p0,l0,rfl⟩;rw[Qj]at e;have hsA:s∈A:=(hA s).mpr (.inl (mem_sayL.mp (by rw[e];simp)));have hW:=h.all s hsA;have hWl:=sI hW.nd hW.lt
   have hq:q.length<=120:=by
    grind
   have g:=gT (wf:=wf) h.nd hsA;have hlk:=P2 (A:=A) (wf:=wf) (s:=s) (by lia)
   have hdc:=sL (W:=wf s) (by lia) (lF (cF (Yb (b2 (aa 0) (aa 4) bA) ae) iC)) [↑(aL A wf),↑(.lst (K.map nD)),↑(.lst (S.map nD)),some (.od false (ns.map D.int) (vs.map D.bl)),↑(af s),none] (by
    ext)
   have hup:=P0 (W:=wf s) (ns:=ns) (vs:=vs) (by lia) (by lia);refine⟨[↑(aL A wf),↑(.lst (K.map nD)),↑(.lst (S.map nD)),some (.od false (ns.map D.int) (vs.map D.bl)),↑(af s),none],[↑(aL A wf),↑(.lst (K.map nD)),↑(.lst (S.map nD)),some (.od false ((bK ns vs (au (wf s))).1.map D.int) ((bK ns vs (au (wf s))).2.map D.bl)),↑(af s),none],rfl,?_,_,_,_,PU t0 _,IJ p0 (PX hL hW t0),?_,rfl⟩
   .have hgo:fI 3 [↑(aL A wf),↑(.lst (K.map nD)),↑(.lst (S.map nD)),some (.od false (ns.map D.int) (vs.map D.bl)),↑(af s),none]=some (ns.map D.int,vs.map D.bl):=rfl
    rw[Gp,Nl,hgo,qd,hdc,qd,hup];rfl
   .have:=P3 ns vs (wf s) hWl
    ext<;>lia)
 rw[Qj]at p1 l1;have ph:=Zq (K:=K) nb (T:=aD S) (λs=>mem_sayL) p1
 obtain⟨ρ2,e2,ns2,vs2,y5,t2,p2,k2,l2,rfl⟩:=gM (gt:=ai 5) (fb:=xc) nD (λpre ρ=>∃(ns:AF) (vs:AG) (y5:Option M.B),lz ns vs/\mL L K S (bJ ns vs)/\(∀k∈pre,(bJ ns vs k).isSome=true)/\vs.length<=20000+120*pre.length/\
  ρ=[↑(aL A wf),↑(.lst (K.map nD)),↑(.lst (S.map nD)),some (.od false (ns.map D.int) (vs.map D.bl)),y4,y5]) K []
  [↑(aL A wf),↑(.lst (K.map nD)),↑(.lst (S.map nD)),some (.od false (ns1.map D.int) (vs1.map D.bl)),y4,none] ⟨ns1,vs1,none,t1,ph,λk hk=>(nomatch hk),by simp;lia,rfl⟩ (by
   rintro q k r ρ e ⟨ns,vs,y5,t0,p0,k0,l0,rfl⟩;rw[Qj]at e
   have hkK:k∈K:=by rw[e];simp
   have hq:q.length<=60:=by
    grind
   have hhas:dn true (.int (k:Int)) (.dct false (ns.map D.int) (vs.map D.bl))=some (decide ((k:Int)∈ns)!=true):=by ext
   by_cases hm:(k:Int)∈ns
   .refine⟨_,[↑(aL A wf),↑(.lst (K.map nD)),↑(.lst (S.map nD)),some (.od false (ns.map D.int) (vs.map D.bl)),y4,↑(nD k)],rfl,?_,ns,vs,_,t0,p0,λj hj=>?_,by simp;lia,rfl⟩
    .rw[wn hm]at hhas
     generalize aL A wf=ws,ns.map D.int=NN,vs.map D.bl=VV at *;simp[xc,hhas,-Ci]
    .rcases qw hj with hj|hj
     .exact k0 j hj
     .rw[List.mem_singleton]at hj
      subst hj;unfold bJ
      cases z:Yn ns vs (j:Int)with
      | some v=>rfl
      | none=>exact absurd hm ((j8 t0.len.symm).mp z)
   .have hnone:bJ ns vs k=none:=(j8 t0.len.symm).mpr hm
    obtain⟨l,hlA,hfr,hfs⟩:=ZD hL nb h (k:=k) ((hA _).mpr (.inr hkK)) ((hA _).mpr (.inr hkK));have hW:=h.all l hlA;have hWl:=sI hW.nd hW.lt;have g:=gT (wf:=wf) h.nd hlA;have hlk:=P2 (A:=A) (wf:=wf) (s:=l) (by lia)
    have hdc:=sL (W:=wf l) (by lia) (lF (cF (Yb (b2 (aa 0) (cC (Yb (ab 5) (Yb (ab 0) ae)) k4) bA) ae) iC)) [↑(aL A wf),↑(.lst (K.map nD)),↑(.lst (S.map nD)),some (.od false (ns.map D.int) (vs.map D.bl)),y4,↑(nD k)] (by
     ext)
    have hup:=P0 (W:=wf l) (ns:=ns) (vs:=vs) (by lia) (by lia);obtain⟨s1,s2,s3⟩:=IK nb p0 hnone hfr (PX hL hW t0);refine⟨_,[↑(aL A wf),↑(.lst (K.map nD)),↑(.lst (S.map nD)),some (.od false ((bK ns vs (au (wf l))).1.map D.int) ((bK ns vs (au (wf l))).2.map D.bl)),y4,↑(nD k)],rfl,?_,_,_,_,PU t0 _,s1,λj hj=>?_,?_,rfl⟩
    .have hgo:fI 3 [↑(aL A wf),↑(.lst (K.map nD)),↑(.lst (S.map nD)),some (.od false (ns.map D.int) (vs.map D.bl)),y4,↑(nD k)]=some (ns.map D.int,vs.map D.bl):=rfl
     have hup2:gk 3 (fB (lF (cF (Yb (b2 (aa 0) (cC (Yb (ab 5) (Yb (ab 0) ae)) k4) bA) ae) iC))) [↑(aL A wf),↑(.lst (K.map nD)),↑(.lst (S.map nD)),some (.od false (ns.map D.int) (vs.map D.bl)),y4,↑(nD k)]=some (.nx [↑(aL A wf),↑(.lst (K.map nD)),↑(.lst (S.map nD)),some (.od false ((bK ns vs (au (wf l))).1.map D.int) ((bK ns vs (au (wf l))).2.map D.bl)),y4,↑(nD k)]):=by
      ext
     rw[wq hm]at hhas;generalize (bK ns vs (au (wf l))).1.map D.int=N2,(bK ns vs (au (wf l))).2.map D.bl=V2,aL A wf=ws,ns.map D.int=NN,vs.map D.bl=VV at *;simp[xc,hhas,hup2,-Ci,-Nl]
    .grind
    .have:=P3 ns vs (wf l) hWl
     ext<;>lia)
 rw[Qj]at k2;refine⟨ns2,vs2,t2,p2,k2,?_⟩;rw[xg,Yj (by rfl)];have h3:xf [↑(aL A wf),↑(.lst (K.map nD)),↑(.lst (S.map nD)),some (.od false (ns2.map D.int) (vs2.map D.bl)),y4,y5]=some (.rt (.dct false (ns2.map D.int) (vs2.map D.bl))):=rfl;generalize aL A wf=ws,ns2.map D.int=N2,vs2.map D.bl=V2,ns1.map D.int=N1,vs1.map D.bl=V1,(aD S).map af=SL,S.map nD=SS,K.map nD=KK at *;simp[Gq,Yd,hso,e1,e2,h3,-xf]
theorem ZJ(O:∀l∈L,eK l){K S:AE}(J:S.length<=60)(H:∀s:aC,s∈A↔s.1∈S\/s.1∈K)(h:dQ L A wf)(b:lz ns vs)(N:k∈K)(hd:(bJ ns vs k).isSome=true):
 ∃r:fO,r.1=k/\((∃s,fD L S k s/\r.2=(some s.1,s.2))\/(loose L S k/\r.2=(none,(bJ ns vs k).getD false)))/\rA [.int (k:Int),aL A wf,.lst (S.map nD),.dct false (ns.map D.int) (vs.map D.bl)]=some (cR r):=by
 have j:=mN (c:=.lst (S.map nD)) (B:=S) rfl ∅;have i:(k,true)∈A:=(H _).mpr (.inr N);have y:∀s∈A,∀t,t∈au (wf s)↔Rch L s t:=λs a t=>xV O (h.all s a);have m:D.tup [.int (k:Int),.bl true]=af (k,true):=rfl
 have f:=jB (gt:=ai 4) (fb:=xh) af (λB I=>(∀s∈B,¬fD L S k s)/\∃G:Option M.B,I=[↑(.int (k:Int)),↑(aL A wf),↑(.lst (S.map nD)),↑(.dct false (ns.map D.int) (vs.map D.bl)),G]) (λd=>∃s,fD L S k s/\d=cR (k,some s.1,s.2)) (aD S) []
  _ ⟨λs a=>(nomatch a),none,rfl⟩ (by
   rintro q s r I e ⟨x,G,rfl⟩;rw[Qj]at e;have u:s.1∈S:=mem_sayL.mp (by rw[e];simp);have g:s∈A:=(H s).mpr (.inl u);have p:=IX h g i;have F:Yc (af s)=_:=rfl;refine⟨[↑(.int (k:Int)),↑(aL A wf),↑(.lst (S.map nD)),some _,↑(af s)],rfl,?_⟩;by_cases w:(k,true)∈au (wf s)/\s∈au (wf (k,true))
   .right
    refine⟨cR (k,some s.1,s.2),?_,s,⟨u,(y s g _).mp w.1,(y _ i _).mp w.2⟩,rfl⟩;have c:cR (k,some s.1,s.2)=.tup [.int (k:Int),.int (s.1:Int),.bl s.2]:=rfl;rw[c];simp only[w.1,w.2,decide_true,Bool.and_self]at p;rw[<-m]at p;simp[xh,p,F]
   .left
    have E:(decide ((k,true)∈au (wf s))&&decide (s∈au (wf (k,true))))=false:=by
     ext
    rw[E,<-m]at p;refine⟨[↑(.int (k:Int)),↑(aL A wf),↑(.lst (S.map nD)),some _,↑(af s)],?_,λt b=>?_,_,rfl⟩
    .simp[xh,p]
    .rcases qw b with b|b
     .exact x t b
     .rw[List.mem_singleton]at b
      rw[b]
      exact λz=>w ⟨(y s g _).mpr z.2.1,(y _ i _).mpr z.2.2⟩)
 rw[rA,Yj (by rfl)];rcases f with⟨Q,C,x,G,rfl⟩|⟨d,C,s,a,rfl⟩
 .rw[Qj]at x
  refine⟨(k,none,(bJ ns vs k).getD false),rfl,.inr ⟨λs a=>x s (mem_sayL.mpr a.1) a,rfl⟩,?_⟩
  have o:cO (.dct false (ns.map D.int) (vs.map D.bl)) (.int (k:Int))=some (.bl ((bJ ns vs k).getD false)):=by
   rw[ko,mi,qd]
   have:∀(ns:AF) (vs:AG),Yn ns (vs.map D.bl) (k:Int)=(Yn ns vs (k:Int)).map D.bl:=λns=>by
    induction ns with
    | nil=>intro vs;cases vs<;>rfl
    | cons n ns R=>
      intro vs
      cases vs with
      | nil=>rfl
      | cons v vs=>
        rw[Qd,Yn,Yn]
        split<;>ext
   rw[this];unfold bJ at hd ⊢
   cases z:Yn ns vs (k:Int)with
   | none=>symm
   | some v=>rfl
  have c:cR (k,none,(bJ ns vs k).getD false)=.tup [.int (k:Int),.non,.bl ((bJ ns vs k).getD false)]:=rfl;rw[c];simp[Gs,Yd,j,C,o,-ko]
 .refine⟨(k,some s.1,s.2),rfl,.inl ⟨s,a,rfl⟩,?_⟩
  simp[Gs,Yd,j,C]
theorem Je(h:gj (.ei l)):eK l:=⟨h.1,h.2.imp λ{a b} c z=>by
 rcases c with h|⟨_,e,d⟩
 .lia
 grind⟩
theorem P4:∀{B:AE},B.Nodup->(aD B).Nodup
 | [],_=>List.nodup_nil
 | b::B,h=>by
   rw[List.nodup_cons]at h;have e:aD (b::B)=_++_:=rfl;rw[e,List.nodup_append];refine⟨by simp,P4 h.2,λx c y d z=>?_⟩;subst z;have a:=mem_sayL.mp d;simp at c;rcases c with rfl|rfl
   .exact h.1 a
   .exact h.1 a
theorem P5(wf:aC->Wy):∀A:AX,mj (A.map λs=>.tup [af s,bx (wf s)])=some (A.map λs=>(af s,bx (wf s)))
 | []=>rfl
 | s::A=>by
   rw[Qd,mj,P5 wf A];rfl
def Jf(rows:List fO):AN:=[.str "plan",.tup (rows.map cR)]
theorem ZK(hLl:L.length<=100)(hc:Yc c=some (hs.map aF))(hl:hs.length<=60)(C:st<=hs.length)(f:xY L st hs.length):
 (∃d,I0 L (aB hs st true) (aB hs st false) d/\rC [aT L,c,.int st]=some (bX true d))\/
 (∃rows,gy L (aB hs st true) (aB hs st false) rows/\rC [aT L,c,.int st]=some (bX false (.tup (Jf rows)))):=by
 have hL:∀l∈L,eK l:=λl v=>Je (f l v).1
 have hL60:∀l∈L,∀s∈l,s.1<60:=λl v s hs=>by have:=((f l v).2 s hs).2;ac_nf
 have H:=mD hs hc ∅ st C true;have Q:=mD hs hc ∅ st C false;simp only[aF,if_true,Qo,if_false]at H Q;have J:(aB hs st true).Pairwise (·<·):=List.Pairwise.filter _ List.pairwise_lt_range;have T:(aB hs st false).Pairwise (·<·):=List.Pairwise.filter _ List.pairwise_lt_range;have F:=xN (hs:=hs) (st:=st);have o:∀x,st<=x->x<hs.length->x∈aB hs st false\/x∈aB hs st true:=λx h1 h2=>sA h1 h2;have t:(aB hs st false).length<=60:=Qg (Qn _ _) (by simpa using hl);have N:(aB hs st true).length<=60:=Qg (Qn _ _) (by simpa using hl);have Y:∀x∈aB hs st false,x<60:=λx O=>Qi (mK O) hl;have R:∀x∈aB hs st true,x<60:=λx O=>Qi (mK O) hl;generalize aB hs st false=S,aB hs st true=K at *;have G:∀l∈L,∀s∈l,s.1∈S\/s.1∈K:=λl v s hs=>o s.1 ((f l v).2 s hs).1 ((f l v).2 s hs).2
 have E:(K++S).Nodup:=by
  rw[List.nodup_append];exact⟨J.imp λh=>qm h,T.imp λh=>qm h,λx O y hy z=>F y hy (by rw[<-z];exact O)⟩
 have I:=P4 E
 have i:∀s:aC,s∈aD (K++S)↔s.1∈S\/s.1∈K:=λs=>by
  rw[mem_sayL,List.mem_append];exact⟨λh=>h.symm,λh=>h.symm⟩
 have hAl:(aD (K++S)).length<=1000:=by rw[IW,qz];ac_nf
 have hw:∀s:aC,∃W:Wy,s.1<60->eM L s W/\mm [aT L,af s]=some (bx W):=λs=>by
  by_cases h60:s.1<60
  .obtain⟨W,h1,h2⟩:=Zs (L:=L) ∅ hL60 h60
   exact⟨W,λ_=>⟨h1,h2⟩⟩
  .exact⟨[],λz=>absurd z h60⟩
 obtain⟨b,V⟩:∃b:aC->Wy,∀s:aC,s.1<60->eM L s (b s)/\mm [aT L,af s]=some (bx (b s)):=⟨λs=>Classical.choose (hw s),λs=>Classical.choose_spec (hw s)⟩
 have n:∀s∈aD (K++S),s.1<60:=λs hs=>by
  rcases(i s).mp hs with h|h
  .exact Y _ h
  .exact R _ h
 have hso:=mN (c:=.lst ((K++S).map nD)) (B:=K++S) rfl (by rw[qz];ac_nf);generalize aD (K++S)=A at *
 have p:dQ L A b:=⟨I,λs hs=>(V s (n s hs)).1⟩
 have Z:cY (.lst (K.map nD)) (.lst (S.map nD))=some ((K++S).map nD):=by rw[M0 (by simp;ac_nf),wu]
 have hcm:=dD (fe:=rB) (r:=[↑(aT L)]) (enc:=af) (λs=>.tup [af s,bx (b s)]) (l:=A) (λs hs=>by
  have:=(V s (n s hs)).2;generalize bx (b s)=w1,af s=ds,aT L=bk at *
  simp[rB,this])
 have hpt:EW (.lst (A.map λs=>.tup [af s,bx (b s)]))=some (A.map λs=>(af s,bx (b s))):=P5 b A
 have hk1:(A.map λs=>(af s,bx (b s))).map (·.1)=A.map af:=by rw[Qf];rfl
 have hk2:(A.map λs=>(af s,bx (b s))).map (·.2)=A.map λs=>bx (b s):=by rw[Qf];rfl
 have hkn:(A.map kN).Nodup:=by
  rw[List.Nodup,List.pairwise_map];exact I.imp λhab e=>hab (IM e)
 have hst0:Yd 8 [aT L,c,.int (st:Int)]=[↑(aT L),↑c,↑(.int st),none,none,none,none,none]:=rfl;rw[rC,Yj (by rfl),hst0]
 have U:iB 5 (lF (bu (b1 (cC (Yb (lF (b2 (aa 3) (aa 4) cY)) ae) Yu) Yc) [none,some 0] (ai 0) tY (rB))) [↑(aT L),↑c,↑(.int st),↑(.lst (K.map nD)),↑(.lst (S.map nD)),none,none,none] =
  some (.nx [↑(aT L),↑c,↑(.int st),↑(.lst (K.map nD)),↑(.lst (S.map nD)),some (.od true (A.map af) (A.map λs=>bx (b s))),none,none]):=by
  have q:(lF (bu (b1 (cC (Yb (lF (b2 (aa 3) (aa 4) cY)) ae) Yu) Yc) [none,some 0] (ai 0) tY (rB))) [↑(aT L),↑c,↑(.int st),↑(.lst (K.map nD)),↑(.lst (S.map nD)),none,none,none]=some (.lst (A.map λs=>.tup [af s,bx (b s)])):=by
   generalize (A.map λs=>D.tup [af s,bx (b s)])=A2,A.map af=A1,(K++S).map nD=KS,K.map nD=KK,S.map nD=SS,aT L=bk at *;simp[Z,hso,ak,hcm]
  rw[Nf,q,qd,hpt,qd,hk1,mM,qd,if_pos ⟨by rw[qf];show A.length<1000000;ac_nf,hkn⟩,hk2];rfl
 have pre:xj [↑(aT L),↑c,↑(.int st),none,none,none,none,none]=Yz [↑(aT L),↑c,↑(.int st),↑(.lst (K.map nD)),↑(.lst (S.map nD)),some (.od true (A.map af) (A.map λs=>bx (b s))),none,none]:=by
  generalize (A.map λs=>bx (b s))=A2,A.map af=A1,K.map nD=KK,S.map nD=SS,aT L=bk at *;simp[xj,H,Q,U,-Yz,-Nf]
 rw[pre];have hsp:=Zz hL f N t o i hAl p;have hfz:∀y6 y7:Option M.B,frz [5] [↑(aT L),↑c,↑(.int st),↑(.lst (K.map nD)),↑(.lst (S.map nD)),some (.od true (A.map af) (A.map λs=>bx (b s))),y6,y7]=[↑(aT L),↑c,↑(.int st),↑(.lst (K.map nD)),↑(.lst (S.map nD)),↑(aL A b),y6,y7]:=λ_ _=>rfl
 have h3:∀d,mv [aT L,aL A b,.lst (K.map nD),.lst (S.map nD)]=some d->Yz [↑(aT L),↑c,↑(.int st),↑(.lst (K.map nD)),↑(.lst (S.map nD)),some (.od true (A.map af) (A.map λs=>bx (b s))),none,none]=xi [↑(aT L),↑c,↑(.int st),↑(.lst (K.map nD)),↑(.lst (S.map nD)),↑(aL A b),↑d,none]:=λd hd=>by
  rw[Yz,eh,kE,hfz];generalize aL A b=ws,K.map nD=KK,S.map nD=SS,aT L=bk at *;simp[hd,-xi]
 rcases hsp with⟨d,hd,e⟩|⟨nb,e⟩
 .refine .inl ⟨d,hd,?_⟩
  rw[h3 d e]
  obtain⟨l,rfl⟩:∃l,d=.tup l:=by
   rcases hd with hd|⟨_,hd⟩
   .exact jD hd
   .exact⟨_,hd⟩
  generalize aL A b=ws at *;constructor<;>ac_nf
 .obtain⟨B,w,t0,p2,kd,etr⟩:=ZH hL N t nb i p
  have m:∀k,∃r:fO,k∈K->_:=λk=>by
   by_cases j:k∈K
   .obtain⟨r,hr⟩:=ZJ hL t i p t0 j (kd k j)
    exact⟨r,λ_=>hr⟩
   .exact⟨(0,none,false),λz=>absurd z j⟩
  obtain⟨g,u⟩:∃g:Nat->fO,∀k∈K,(g k).1=k/\((∃s,fD L S k s/\(g k).2=(some s.1,s.2))\/(loose L S k/\(g k).2=(none,(bJ B w k).getD false)))/\rA [.int (k:Int),aL A b,.lst (S.map nD),.dct false (B.map D.int) (w.map D.bl)]=some (cR (g k)):=⟨λk=>Classical.choose (m k),λk=>Classical.choose_spec (m k)⟩
  refine .inr ⟨K.map g,Zo hL G F nb (τ:=λk=>(bJ B w k).getD false) ⟨?_,λr hr=>?_⟩ (IL p2 kd),?_⟩
  .rw[Qf]
   exact(Qq λk j=>(u k j).1).trans (List.map_id K)
  .obtain⟨k,j,rfl⟩:=qy hr
   obtain⟨g1,g2,_⟩:=u k j;rw[g1];exact g2
  .rw[h3 .non e]
   have hc1:=dD (fe:=Gu) (r:=[↑(aL A b),↑(.lst (S.map nD)),↑(.dct false (B.map D.int) (w.map D.bl))]) (enc:=nD) (λk=>cR (g k)) (l:=K) (λk j=>by
    have:=(u k j).2.2;generalize aL A b=ws,cR (g k)=pr,S.map nD=SS,B.map D.int=NN,w.map D.bl=VV at *
    simp[Gu,this])
   have e5:(K.map λk=>cR (g k))=(K.map g).map cR:=by rw[Qf];rfl
   rw[e5]at hc1;unfold Jf;generalize (K.map g).map cR=RW,aL A b=ws,S.map nD=SS,K.map nD=KK,B.map D.int=NN,w.map D.bl=VV,aT L=bk at *;simp[etr,ak,hc1,bX]
noncomputable def ck(b:Bool):D:=.str (.ofString (if b then "keeper" else "storm"))
abbrev dR(k:Kd)(R:List Rl)(H ev:AG):D:=aY (Yl k R) (.tup (H.map ck)) (.lst (ev.map .bl))
@[simp] def P6(b h x:D):cQ "Watch" "book" (aY b h x)=some b:=nr rfl
@[simp] def P8(b h x:D):cQ "Watch" "hands" (aY b h x)=some h:=nr rfl
@[simp] def P9(b h x:D):cQ "Watch" "truths" (aY b h x)=some x:=nr rfl
def iR(m:Str)(c:m∉qK)(a:AN->Option D)(b h x:D):cA "Watch" m a (aY b h x)=a [aY b h x]:=if_pos ⟨rfl,c⟩
def sM(H ev:AG):D:=match H[ev.length]? with
 | some b=>ck b
 | none=>.non
def x2{H ev:AG}(h:ev.length<H.length):sM H ev=ck (H[ev.length]):=by
 unfold sM;rw[qr h]
theorem P_{H ev:AG}(h:¬ev.length<H.length):sM H ev=.non:=by
 unfold sM;rw[List.getElem?_eq_none (by ext)]
theorem Jg{k:Kd}{R:List Rl}{H ev:AG}(h:ev.length<=H.length):gQ [dR k R H ev]=some (sM H ev):=by
 rw[gQ,Yj (by rfl)];have c:Yd 1 [dR k R H ev]=[some _]:=rfl;rw[c];by_cases e:ev.length=H.length
 .rw[P_ (by lia)]
  simp[GQ,e]
 .have a:ev.length<H.length:=by lia
  rw[x2 a]
  have d:¬(ev.length=(H.length:Int)):=by ext
  have b:bD (H.map ck) ev.length=some (ck (H[ev.length])):=by
   rw[gN,mh a];rfl
  simp[GQ,d,b]
def fQ(k:Kd)(n:Nat)(r:Rl):Prop:=In k n r/\gj r
def dz(k:Kd)(R:List Rl)(H ev:AG):D:=if ev.length<H.length then .non else .str (.ofString (if brk k ev R=[]then "keeper" else "storm"))
def Jh(k:Kd)(R:List Rl)(H ev:AG):ik (dz k R H ev)=true:=by
 unfold dz
 split<;>rfl
theorem Qk{k:Kd}{R:List Rl}{H ev:AG}(h:ev.length<=H.length)(g:∀r∈R,fQ k H.length r/\sz r<=9999):la [dR k R H ev]=some (dz k R H ev):=by
 rw[la,Yj (by rfl)];have c:Yd 1 [dR k R H ev]=[↑(dR k R H ev)]:=rfl;rw[c];have a:=iR "turn" (by decide) gQ (Yl k R) (.tup (H.map ck)) (.lst (ev.map D.bl));rw[(Jg (k:=k) (R:=R) h)]at a;by_cases b:ev.length<H.length
 .rw[x2 b]at a
  have e:bU true (ck H[ev.length]) .non=some true:=rfl;simp[xB,a,e,dz,b]
 .rw[P_ b]at a
  have d:=G_ (c:=.lst (ev.map D.bl)) rfl (λr f=>by rw[show ev.length=H.length by lia];exact(g r f).1.1);by_cases hb:brk k ev R=[]
  .simp[xB,a,d,dz,b,hb]
  .simp[xB,a,d,dz,b,hb]
noncomputable def jE(k:Kd):Nat->AG->List Rl->List Rl
 | _,[],R=>R
 | i,b::ev,R=>jE k (i+1) ev (R.filterMap (bC k i b))
def Ji{k:Kd}{n b:Nat}{g:Bool}{r q:Rl}(c:fQ k n r)(h:bC k b g r=some q):fQ k n q/\sz q<=sz r:=by
 have a:at' (.replicate (b+1) g) b=g:=by simp[at']
 obtain⟨_,_,_,d,e,f⟩:=vM c.1 c.2 (by rwa [a]);exact⟨⟨d,e⟩,f⟩
def ZL{k:Kd}{n b:Nat}{g:Bool}{R:List Rl}(c:∀r∈R,fQ k n r/\sz r<=9999):∀r∈R.filterMap (bC k b g),fQ k n r/\sz r<=9999:=λq f=>by
 obtain⟨r,a,h⟩:=List.mem_filterMap.mp f;obtain⟨d,e⟩:=Ji (c r a).1 h;exact⟨d,Qg e (c r a).2⟩
theorem Jj(k:Kd):∀(ev:AG) (i:Nat) (R:List Rl),(jE k i ev R).length<=R.length
 | [],_,_=>qv _
 | _::ev,i,R=>Qg (Jj k ev _ _) (List.length_filterMap_le _ _)
noncomputable def mO(i:Nat):AG->AN
 | []=>[]
 | b::ev=>.tup [.int i,.bl b]::mO (i+1) ev
theorem sN:∀(ev:AG) (i:Nat),mO i ev=(List.range ev.length).map λj:Nat=>D.tup [.int ((i:Int)+(j:Int)),.bl (ev.getD j false)]
 | [],_=>rfl
 | b::ev,i=>by
   rw[mO,qt,List.range_succ_eq_map,Qd,Qf,sN ev _]
   congr 1
   refine Qq λj _=>?_
   have a:((i+1:Nat))+(j:Int)=i+((j+1)):=by lia
   rw[a];rfl
def Jk(ev:AG):fi (ev.map D.bl)=mO 0 ev:=by
 rw[EA .bl false ev,sN ev 0];simp
theorem Qt{k:Kd}{n:Nat}{y0:AQ}:∀(ev:AG) (i:Nat) (R:List Rl) (a c:AQ),(∀r∈R,fQ k n r/\sz r<=9999)->∃d g,M.forM (ez 2 3) xC (mO i ev) [y0,↑(Yl k R),a,c]=some (.nx [y0,↑(Yl k (jE k i ev R)),d,g])
 | [],i,R,a,c,_=>⟨a,c,rfl⟩
 | b::ev,i,R,a,c,h=>by
   obtain⟨d,g,e⟩:=Qt ev _ _ _ _ (ZL h);refine⟨d,g,?_⟩;rw[mO,M.forM];have j:ez 2 3 (.tup [.int i,.bl b]) [y0,_,a,c]=some [y0,↑(Yl k R),_,_]:=rfl
   have l:xC [y0,↑(Yl k R),↑(.int i),↑(.bl b)]=some (.nx [y0,↑(Yl k (R.filterMap (bC k i b))),↑(.int i),↑(.bl b)]):=by
    simp[xC,O1 (λr f=>(h r f).1.1) (λr f=>Qg (h r f).2 (by lia)) i b]
   rwa [j,qd,l]
def sO{k:Kd}{n:Nat}{R:List Rl}(H ev:AG)(b:∀r∈R,fQ k n r/\sz r<=9999):jx [dR k R H ev]=some (Yl k (jE k 0 ev R)):=by
 rw[jx,Yj (by rfl)];have a:Yd 4 [dR k R H ev]=[_,none,none,none]:=rfl;rw[a];obtain⟨d,c,e⟩:=Qt (y0:=some (.sh (dR k R H ev))) ev 0 R none none b;rw[<-Jk]at e;simp[OD,e]
def ZM(b:Bool):GK [ck b]=some (.bl true):=by
 cases b<;>rfl
theorem Jl{k:Kd}{m:Nat}{R:List Rl}{H:AG}(s:H.length<=60)(p:R.length*m<4000)(d:∀r∈R,fQ k H.length r/\sz r+1<=m){h:D}(g:h=.lst (H.map ck)\/h=.tup (H.map ck)):k9 [Yl k R,h]=some .non:=by
 rw[k9,Yj (by rfl)];have e:Yd 2 [Yl k R,h]=[_,some _]:=rfl;rw[e];obtain⟨l,_,o,t⟩:=YK (by lia) (λr c=>⟨(d r c).1.1,(d r c).2⟩) p
 have f:=dD (fe:=GL) (r:=[]) (enc:=ck) (λ_=>.bl true) (l:=H) (λb _=>by
  have:=ZM b
  simp[GL,this])
 have a:aU [h]=some (.int H.length):=by rcases g with rfl|rfl<;>simp
 have n:=dD (fe:=GM) (r:=[↑h]) (enc:=nD) (λ_=>.bl false) (λb t=>by
  have:b<H.length:=by
   obtain⟨r,c,q⟩:=(o b).mp t;exact qD (d r c).1.1 b q
  simp[GM,a]
  ext)
 have i:¬((60:Int)<H.length):=by lia
 have j:=MV (λ_=>true) H;rcases g with rfl|rfl
 .simp[GN,a,i,ak,f,n,t,j,b1]
 .simp[GN,a,i,ak,f,n,t,j,b1]
theorem sP(f:∀l∈L,eK l)(h:eN L s t r):Rch L s t:=by
 have j:=Ph h.ok
 have a:∀i,i+1<r.length->_:=λi c=>by
  have g:=h.ok;unfold iI at g;rw[Qe,List.all_eq_true]at g;exact wt (g.2 i (List.mem_range.mpr (by grind)))
 have b:∀i,i<_->Rch L s (eT r i):=λi=>by
  induction i with
  | zero=>
    intro _;rw[h.fst];exact .refl
  | succ i d=>
    intro c;exact .step (d (by lia)) ((IT f).mp (a i c))
 have g:=b (r.length-1) (by omega);have e:=h.lst;unfold mG at e
 rwa [e]at g
def ZN(b:∀l∈L,eK l)(h:I0 L K S d):bY L K S:=by
 rcases h with h|⟨h,_⟩
 .cases h with
  | clash c a=>exact .clash _ (sP b c) (sP b a)
  | cross c a e f=>exact .cross _ _ c a e (sP b f)
  | late c a e f g=>exact .late _ _ c a e (sP b f) (sP b g)
 .exact .broken h
def lA:Rl->AX
 | .ei l=>l
 | _=>[]
noncomputable def toS:Rl->Sm
 | .su b o=>(λx=>decide (x∈b),o)
 | _=>(λ_=>false,false)
noncomputable def fR:Rl->bL
 | .im b h=>(b,h)
 | _=>([],none)
def Dr(k:Kd)(st n:Nat)(r:Rl):Prop:=In k n r/\gj r/\∀x∈bZ r,st<=x
def iS:Kd->List Rl->AE->AE->Bool->Prop
 | .e,R,K,S,true=>bY (R.map lA) K S
 | .e,R,K,S,false=>∃a,gy (R.map lA) K S a
 | .s,R,_,S,true=>∃W,iM (R.map toS) S W
 | .s,R,K,S,false=>∃a,jA (R.map toS) K S a
 | _,R,K,S,true=>∃b d c,ll (R.map fR) K S b d c=true
 | _,R,K,S,false=>∃f a,eU (R.map fR) K S f a
theorem Jm(h:p<R.length):rg R p∈R:=by
 unfold rg
 ext
theorem Jn(h:∀r∈R,Dr .e st n r):xY (R.map lA) st n/\Yl .e R=aT (R.map lA):=by
 have i:∀r∈R,r=.ei (lA r):=λr a=>by
  cases r with
  | ei l=>rfl
  | su b o=>cases (h _ a).1.1
  | im b o=>rcases(h _ a).1.1 with z|z<;>cases z
 refine⟨λl g=>?_,?_⟩
 .obtain⟨r,a,rfl⟩:=qy g
  obtain⟨f,c,d⟩:=h r a;rw[i r a]at f c d;exact⟨c,λs e=>⟨d s.1 (List.mem_map.mpr ⟨s,e,rfl⟩),f.2 s e⟩⟩
 .show D.tup _=.tup _
  rw[Qf,Qq λr a=>show aK r=(mF ∘ lA) r by
   grind]
theorem Jo(hn:n<=60)(h:∀r∈R,Dr .s st n r):Pr (R.map toS) st n/\Yl .s R=xM (R.map toS):=by
 refine⟨λq i=>?_,?_⟩
 .obtain⟨r,e,rfl⟩:=qy i
  obtain⟨a,g,f⟩:=h r e
  cases r with
  | ei l=>cases a.1
  | im b o=>rcases a.1 with z|z<;>cases z
  | su b o=>
    intro x _ d;have c:=wt d;exact⟨f x c,a.2 x c⟩
 .show D.tup _=.tup [bf .s,_]
  rw[Qf,Qq λr e=>show aK r=(bh ∘ toS) r by
   obtain⟨a,g,f⟩:=h r e
   cases r with
   | ei l=>cases a.1
   | im b o=>rcases a.1 with z|z<;>cases z
   | su b o=>exact rW g (λx d=>by have:=a.2 x d;lia) o]
theorem sQ(j:k=.i\/k=.n){R:List Rl}(h:∀r∈R,Dr k st n r):xQ (R.map fR) st n/\R.map aK=(R.map fR).map dY/\R.map lh=R:=by
 have c:∀r∈R,r=.im (fR r).1 (fR r).2:=λr c=>by
  cases r with
  | ei l=>rcases j with rfl|rfl<;>cases (h _ c).1.1
  | su b o=>rcases j with rfl|rfl<;>cases (h _ c).1.1
  | im b o=>rfl
 refine⟨λq m=>?_,?_,?_⟩
 .obtain⟨r,a,rfl⟩:=qy m
  obtain⟨g,i,e⟩:=h r a;rw[c r a]at g i e;generalize fR r=q at *;obtain⟨b,o⟩:=q;refine⟨i,λx d=>⟨e x ?_,g.2.1 x d⟩,λx d=>⟨e x ?_,g.2.2 x d⟩⟩
  .cases o with
   | none=>exact d
   | some y=>exact List.mem_append.mpr (.inl d)
  .have f:=d
   subst f;exact List.mem_append.mpr (.inr nofun)
 .rw[Qf,Qq λr a=>show aK r=(dY ∘ fR) r by
   conv=>lhs;rw[c r a]
   rfl]
 .conv=>rhs;rw[<-List.map_id R]
  exact Qq λr a=>by
   rw[c r a];rfl
theorem Jp(v:Yc c=some (hs.map aF))(u:hs.length<=60)(j:st<=hs.length)(C:R.length<=60)(h:∀r∈R,Dr k st hs.length r):
 ∃(w:Bool) (n:D),xq [Yl k R,c,.int st]=some (bX w n)/\iS k R (aB hs st true) (aB hs st false) w:=by
 have q:_->∃(w:Bool) (n:D),k7 [Yl .i R,c,_]=some _/\iS .i R _ _ w:=λE=>by
  obtain⟨m,s,_⟩:=sQ E h
  have e:Yl .i R=bg (R.map fR):=by
   show D.tup _=_;rw[s];rfl
  rw[e];rcases Zn v u j m with⟨b,y,F,g,z⟩|⟨f,a,g,z⟩
  .exact⟨true,_,z,b,y,F,g.1⟩
  .exact⟨false,_,z,f,a,g⟩
 rw[xq,Yj (by rfl)];have o:Yd 3 [Yl k R,c,.int st]=[some _,some _,some _]:=rfl;have i:Yc (Yl k R)=_:=rfl;rw[o]
 cases k with
 | e=>
   obtain⟨m,s⟩:=Jn h;have A:=λl B=>Je (m l B).1;have p:=ZK (by rw[qf];lia) v u j m;rw[<-s]at p;rcases p with⟨d,g,z⟩|⟨a,g,z⟩
   .refine⟨true,d,?_,ZN A g⟩
    simp[k8,i,z]
   .refine⟨false,.tup (Jf a),?_,a,g⟩
    simp[k8,i,z]
 | s=>
   obtain⟨m,s⟩:=Jo u h;have p:=Zg (by rw[qf];lia) v u j m;rw[<-s]at p;rcases p with⟨W,g,z⟩|⟨a,g,z⟩
   .refine⟨true,.tup [.str "odd",.tup ((fl 60 W).map nD)],?_,W,g⟩
    simp[k8,z]
   .refine⟨false,.tup [.str "sums",.tup (a.map a7)],?_,a,g⟩
    simp[k8,z]
 | i=>
   obtain⟨w,n,z,g⟩:=q (.inl rfl);refine⟨w,n,?_,g⟩;simp[k8,i,z]
 | n=>
   obtain⟨w,n,z,g⟩:=q (.inr rfl)
   have t:=YT λr x=>⟨(h r x).1,(h r x).2.1⟩
   rw[(sQ (.inr rfl) h).2.2]at t;have t:_=some (Yl .i R):=t;refine⟨w,n,?_,by cases w<;>exact g⟩;simp[k8,i,t,z]
def Jq(i:Yc c=some (hs.map aF))(j:hs.length<=60)(d:st<=hs.length)(b:R.length<=60)(h:∀r∈R,Dr k st hs.length r):
 ∃w:Bool,gn [Yl k R,c,.int st]=some (aF (!w))/\iS k R (aB hs st true) (aB hs st false) w:=by
 obtain⟨w,e,z,g⟩:=Jp i j d b h;refine⟨w,?_,g⟩;rw[gn,Yj (by rfl)];have a:Yd 4 [Yl k R,c,.int st]=[_,_,_,none]:=rfl;rw[a]
 have f:bX w e=.tup [aF (!w),e]:=by
  cases w<;>rfl
 rw[f]at z;simp[OA,z,f_,h9,h_]
def gv(Hd:AG->Prop)(hs:AG):Nat->AG->Prop
 | 0,ev=>Hd ev
 | m+1,ev=>if at' hs ev.length=true then ∃b,gv Hd hs m (ev++[b])else ∀b,gv Hd hs m (ev++[b])
def fE(hs:AG)(w:Bool)(f:AG->Bool)(n:Nat)(e:AG):Prop:=∀i,n<=i->i<e.length->at' hs i=w->at' e i=f (e.take i)
def Jr(ev:AG)(b:Bool)(t:AG):at' (ev++b::t) ev.length=b:=by simp[at']
theorem Qu{hs:AG}{w:Bool}{f:AG->Bool}{ev t:AG}{b:Bool}(c:at' hs ev.length=w->b=f ev)(h:fE hs w f (ev.length+1) (ev++b::t)):fE hs w f ev.length (ev++b::t):=λi g d a=>by
 by_cases e:i=ev.length
 .subst e
  rw[Jr,List.take_left']
  .exact c a
  .rfl
 .exact h i (by lia) d a
theorem Qv{g:AG->Prop}{hs:AG}{f:AG->Bool}:∀(m:Nat) (ev:AG),(∀t:AG,t.length=m->fE hs true f ev.length (ev++t)->g (ev++t))->gv g hs m ev
 | 0,ev,h=>by
   have:=h [] rfl (λi n k _=>by simp at k;lia);show g ev;simpa using this
 | m+1,ev,h=>by
   have a:=λb l=>Qv m _ λt j d=>by
    have e:ev++[b]++t=ev++b::t:=by simp
    rw[e]at d ⊢;rw[qz]at d;exact h _ (by simp[j]) (Qu l d)
   unfold gv;by_cases c:at' hs ev.length=true
   .rw[if_pos c]
    exact⟨f ev,a _ λ_=>rfl⟩
   .rw[if_neg c]
    exact λb=>a b λz=>absurd z c
theorem sR{g:AG->Prop}{hs:AG}{f:AG->Bool}:∀(m:Nat) (ev:AG),(∀t:AG,t.length=m->fE hs false f ev.length (ev++t)->¬g (ev++t))->¬gv g hs m ev
 | 0,ev,h=>λz=>by
   have:=h [] rfl (λi n k _=>by simp at k;ac_nf);have z:g ev:=z;exact this (by simpa using z)
 | m+1,ev,h=>by
   have a:=λb l=>sR m _ λt j d=>by
    have e:ev++[b]++t=ev++b::t:=by simp
    rw[e]at d ⊢;rw[qz]at d;exact h _ (by simp[j]) (Qu l d)
   unfold gv;by_cases c:at' hs ev.length=true
   .rw[if_pos c]
    intro ⟨b,z⟩;exact a b (λq=>by rw[c]at q;cases q) z
   .rw[if_neg c]
    exact λz=>a _ (λ_=>rfl) (z _)
theorem Qw{H H':AG->Prop}{hs:AG}:∀(m:Nat) (ev:AG),(∀t:AG,t.length=m->(H (ev++t)↔H' (ev++t)))->(gv H hs m ev↔gv H' hs m ev)
 | 0,ev,h=>by
   have:=h [] rfl;simpa [gv]using this
 | m+1,ev,h=>by
   have a:∀b,gv H hs m (ev++[b])↔_:=λb=>Qw m _ λt c=>by
    have:=h (b::t) (by simp[c]);simpa using this
   unfold gv;simp [a]
def mem_ofH{hs:AG}{st x:Nat}{b:Bool}:x∈aB hs st b↔x<hs.length/\st<=x/\at' hs x=b:=by
 unfold aB at';simp[Ql]
theorem iT{hs:AG}{w:Bool}{f:AG->Bool}{st:Nat}{e:AG}(g:e.length=hs.length)(h:fE hs w f st e){x:Nat}(b:x∈aB hs st w):at' e x=f (e.take x)/\(e.take x).length=x/\∀y,y<x->at' (e.take x) y=at' e y:=by
 obtain⟨i,d,a⟩:=mem_ofH.mp b;refine⟨h x d (by ext) a,by rw[List.length_take];lia,λy c=>?_⟩;unfold at';simp[c]
theorem Qx{b:Type}(key:b->Nat){r:b}:∀{rows:List b},(rows.map key).Nodup->r∈rows->rows.find? (λq=>key q==key r)=some r
 | [],_,h=>nomatch h
 | a::rows,c,h=>by
   rw[Qd,List.nodup_cons]at c;rw[List.find?_cons];by_cases e:key a=key r
   .rcases qu h with rfl|h
    .simp
    .exact absurd (e ▸ Qs h) c.1
   .rcases qu h with rfl|h
    .exact absurd rfl e
    .have d:(key a==key r)=false:=by simp[e]
     rw[d];exact Qx key c.2 h
noncomputable def iU{a:Type}(c:a->Nat)(b:a->AG->Bool)(rows:List a)(ev:AG):Bool:=match rows.find? (λr=>c r==ev.length)with
 | some r=>b r ev
 | none=>false
def Js(hs:AG)(st:Nat)(b:Bool):(aB hs st b).Nodup:=.sublist List.filter_sublist List.nodup_range
def Qy{hs:AG}{st:Nat}{b:Type}{key:b->Nat}{dv:b->AG->Bool}{rows:List b}(d:rows.map key=aB hs st true)(k:∀r∈rows,∀e c:AG,(∀y,y<key r->at' e y=at' c y)->dv r e=dv r c){e:AG}(j:e.length=hs.length)(i:fE hs true (iU key dv rows) st e):∀r∈rows,at' e (key r)=dv r e:=λr a=>by
 have l:key r∈aB hs st true:=by rw[<-d];exact Qs a
 obtain⟨h,g,f⟩:=iT j i l;rw[h];unfold iU;rw[g,Qx key (by rw[d];exact Js ..) a];exact k r a _ _ f
def gA(r:fO)(ev:AG):Bool:=match r.2.1 with
 | none=>r.2.2
 | some x=>at' ev x==r.2.2
def endB(ev:AG)(e:lp):Bool:=match e.1 with
 | none=>e.2
 | some x=>at' ev x==e.2
def Jt{rows:List fO}{ev:AG}(a:∀r∈rows,at' ev r.1=gA r ev)(s:aC):(at' ev s.1==s.2)=endB ev (dZ rows s):=by
 unfold dZ
 cases b:rows.find? _ with
 | none=>rfl
 | some r=>
   have c:=List.find?_some b;simp at c;rw[<-c,a r (List.mem_of_find?_eq_some b)];unfold gA endB;dsimp only
   cases r.2.1 with
   | none=>cases r.2.2<;>cases s.2<;>rfl
   | some x=>
     dsimp only;cases at' ev x<;>cases r.2.2<;>cases s.2<;>rfl
def Ju{rows:List fO}{ev:AG}(b:∀r∈rows,at' ev r.1=gA r ev){l:AX}(a:se (l.map (dZ rows))=true):so .e ev (.ei l)=true:=by
 show(l.any _)=true;unfold se at a;rw[List.any_eq_true]at a ⊢;obtain⟨e,c,a⟩:=a;obtain⟨s,g,rfl⟩:=qy c;rw[Bool.or_eq_true]at a;rcases a with a|a
 .have h:=wt a
  refine⟨s,g,?_⟩;rw[Jt b s,h];rfl
 .have h:=wt a
  obtain⟨t,d,e⟩:=qy h
  cases f:(at' ev s.1==s.2)with
  | true=>exact⟨s,g,f⟩
  | false=>
    refine⟨t,d,?_⟩;rw[Jt b s]at f;rw[Jt b t,e]
    revert f
    unfold endB mH;dsimp only
    cases (dZ _ s).1 with
    | none=>cases (dZ _ s).2<;>simp
    | some x=>cases at' ev x<;>cases (dZ _ s).2<;>simp
def lB(r:cG)(ev:AG):Bool:=od r.2.1 (at' ev)!=r.2.2
theorem Qz(F:Nat->AH)(m:AE):∀l:AE,od l (λx=>od m (λy=>F x y))=od m (λy=>od l (λx=>F x y))
 | []=>by
   rw[xH,mJ];exact λ_ _=>rfl
 | a::l=>by
   rw[gu,Qz F m l,<-xI];exact gw λy _=>(gu a l λx=>F x y).symm
def sS(b:Bool)(l:AE)(f:AH):(b&&od l f)=od l (λy=>b&&f y):=by
 cases b with
 | true=>rfl
 | false=>exact(mJ λ_ _=>rfl).symm
def Jv(T E:AH)(F:Nat->AH):xr T (λx=>xr (F x) E)=xr E (λy=>xr T (λx=>F x y)):=by
 unfold xr;have a:od (.range 60) (λy=>E y&&od (.range 60) λx=>T x&&F x y)=_:=gw λx _=>sS _ _ _;rw[gw λx _=>sS _ _ _,a,Qz]
 exact gw λy _=>gw λx _=>by cases T x<;>cases F x y<;>cases E y<;>rfl
theorem Jw{rows:List cG}{e:AG}(b:∀r∈rows,r.1<60/\r.2.1.Pairwise (·<·)/\∀y∈r.2.1,y<r.1)(c:∀r∈rows,at' e r.1=lB r e){T:AH}{o:Bool}(h:kp rows T o):xr T (at' e)=o:=by
 have f:∀x,x<60->at' e x=(xr (cq _ x).1 _ != (cq _ x).2):=λx f=>by
  unfold cq;by_cases a:x∈rows.map (·.1)
  .obtain⟨g,l⟩:=Ii a
   obtain⟨p,m,i⟩:=b _ g;have:=c _ g;rw[l]at this;rw[this,xJ _ (m.imp qm) λy d=>Nat.lt_trans (i y d) p];rfl
  .rw[xK a,xJ _ nofun (by simpa using f),gu]
   cases at' e x<;>rfl
 have n:_=xr T (λx=>_ != _):=lq λx h=>by rw[<-f x h]
 have k:xr T (λx=>xr (cq rows x).1 (at' e)!=(cq rows x).2)=(xr T (λx=>xr (cq rows x).1 (at' e))!=xr T (λx=>(cq rows x).2)):=by
  unfold xr;rw[<-xI]
  exact gw λx _=>by
   cases T x
   .rfl
   .simp
 rw[n,k,Jv,h.2]
 have j:xr _ _=_:=mJ λy d=>by
  show(at' e y&&xr T λx=>(cq rows x).1 y)=_;rw[h.1 y (Qb d)];cases at' e y<;>rfl
 rw[j];cases o<;>rfl
def sT{e:AG}{b:AE}{o:Bool}(c:b.Pairwise (·<·))(a:∀x∈b,x<60):so .s e (.su b o)=(xr (λx=>decide (x∈b)) (at' e)==o):=by
 rw[xJ _ (c.imp qm) a];rfl
def lC(first:AE)(rows:List jz)(w:Bool)(ev:AG):Bool:=(decide (ev.length∈first)&&rows.all λr=>decide (ev.length<=r.1)||((at' ev r.1==w)||decide (ev.length∈r.2)))==w
theorem ZQ{hs:AG}{st:Nat}{first:AE}{rows:List jz}{w:Bool}{e:AG}(f:rows.map (·.1)=aB hs st false)(A:∀r∈rows,∀x∈r.2,x∈aB hs st true)(o:∀r∈rows,∀x,x∈first->x<r.1->x∈r.2)(D:e.length=hs.length)(E:fE hs true (lC first rows w) st e){x:Nat}(F:st<=x)(C:x<hs.length):
 at' e x=w↔x∈aB hs st false++first/\∀r∈rows,¬at' e r.1=w->x∈(aB hs st false).filter (λy=>!decide (y=r.1))++r.2:=by
 have u:∀r∈rows,r.1∈aB hs st _:=λr d=>by rw[<-f];exact Qs d
 rcases sA F C with a|c
 .have c:=xN x a
  constructor
  .intro j
   refine⟨List.mem_append.mpr (.inl a),λr d hd=>List.mem_append.mpr (.inl (List.mem_filter.mpr ⟨a,?_⟩))⟩;by_cases z:x=r.1
   .exact absurd (z ▸ j) hd
   .simp[z]
  .intro ⟨_,g⟩
   by_cases j:at' e x=w
   .exact j
   .have i:=a
    rw[<-f]at i;obtain⟨r,d,rfl⟩:=qy i;rcases qw (g r d j)with z|z
    .have:=(Qc z).2
     simp at this
    .exact absurd (A r d _ z) c
 .have a:=λz=>xN x z c
  obtain⟨p,n,t⟩:=iT D E c
  have h:at' e x=w↔x∈first/\∀r∈rows,r.1<x->¬at' e r.1=w->x∈r.2:=by
   rw[p];unfold lC;rw[n]
   have s:∀b,(b==w)=w↔b=true:=by cases w<;>intro b<;>cases b<;>simp
   rw[s,Qe,wm,List.all_eq_true];refine and_congr_right λ_=>forall_congr' λr=>forall_congr' λd=>?_;by_cases m:r.1<x
   .rw[t _ m]
    have k:¬x<=r.1:=by lia
    by_cases q:at' e r.1=w<;>simp[m,k,q]
   .have k:x<=r.1:=by ext
    simp[m,k]
  rw[h]
  have s:x∈aB hs st false++first↔x∈first:=by rw[List.mem_append];exact⟨λz=>z.resolve_left a,.inr⟩
  have B:∀r:jz,x∈(aB hs st _).filter (λy=>!decide (y=r.1))++r.2↔x∈r.2:=λr=>by
   rw[List.mem_append];exact⟨λz=>z.resolve_left λz=>a (Qc z).1,.inr⟩
  rw[s];refine and_congr_right λl=>forall_congr' λr=>forall_congr' λd=>?_;rw[B];constructor
  .intro g hd
   by_cases m:r.1<x
   .exact g m hd
   .by_cases v:x=r.1
    .exact absurd (by rw[v];exact u r d) a
    .exact o r d x l (by lia)
  .intro g _ hd
   exact g hd
theorem sU{k:Kd}{w:Bool}(i:decide (k=.i)=w){e:AG}{b:AE}{h:AL}:so k e (.im b h)=true↔((∀x∈b,at' e x=w)->∃y,h=some y/\at' e y=w):=by
 show(_||_)=true↔_;rw[i,Bool.or_eq_true,List.any_eq_true];constructor
 .intro q d
  rcases q with⟨x,c,q⟩|q
  .rw[d x c]at q
   simp at q
  .cases h with
   | none=>cases q
   | some y=>exact⟨y,rfl,by simpa [Bk.hd]using q⟩
 .intro q
  by_cases d:∀x∈b,at' e x=w
  .obtain⟨y,rfl,g⟩:=q d
   exact .inr (by simp[Bk.hd,g])
  .refine .inl ?_
   have ⟨x,c⟩:=Classical.not_forall.mp d;have ⟨f,c⟩:=Classical.not_imp.mp c;exact⟨x,f,by simp[c]⟩
theorem Jx{k:Kd}{R:List Rl}{hs:AG}{st:Nat}(S:hs.length<=60)(D:∀r∈R,Dr k st hs.length r)(v:iS k R (aB hs st true) (aB hs st false) false):∃f,∀e:AG,e.length=hs.length->fE hs true f st e->∀r∈R,so k e r=true:=by
 have L:(k=.i\/k=.n)->(∃f a,eU (R.map fR) (aB hs st true) (aB hs st false) f a)->∃f,∀e,e.length=_->fE hs _ f st e->∀r∈R,so k e r=true:=λJ ⟨j,a,g⟩=>by
  obtain⟨w,O⟩:∃w,decide (k=.i)=w:=⟨_,rfl⟩
  refine⟨lC j a w,λe s t r n=>?_⟩
  have W:=λx (m:st<=x) C=>ZQ g.rs (λr d=>(g.rK r d).2.1) (λr d x c I=>by
   have:x∈j.filter λy=>decide (y<r.1):=List.mem_filter.mpr ⟨c,wn I⟩;rw[<-(g.rK r d).2.2]at this
   exact(Qc this).1) s t m C
  have M:fR r∈_:=Qs n;obtain⟨m,C,u⟩:=D r n
  cases r with
  | ei l=>rcases J with rfl|rfl<;>cases m.1
  | su b o=>rcases J with rfl|rfl<;>cases m.1
  | im b h=>
    have B:∀x∈b,_/\_:=λx c=>⟨u x (by
     cases h with
     | none=>exact c
     | some y=>exact List.mem_append.mpr (.inl c)),m.2.1 x c⟩
    rw[sU O];intro A;obtain⟨y,G,E⟩:=g.h0 _ M λx c=>((W x (B x c).1 (B x c).2).mp (A x c)).1;subst G;refine⟨y,rfl,(W y (u y (List.mem_append.mpr (.inr nofun))) (m.2.2 y rfl)).mpr ⟨E,λr d hd=>?_⟩⟩;obtain⟨T,F,H⟩:=g.hb r d _ M λx c=>((W x (B x c).1 (B x c).2).mp (A x c)).2 r d hd;cases F;exact H
 cases k with
 | e=>
   obtain⟨a,g⟩:=v;refine⟨iU (λr=>r.1) gA a,λe s t r n=>?_⟩
   have p:=Qy g.ks (λr d e F h=>by
    have:=g.row r d;unfold iK at this;unfold gA
    cases q:r.2.1 with
    | none=>rfl
    | some x=>
      rw[q]at this;simp at this;dsimp only
      rw[h x this.2]) s t
   cases r with
   | ei l=>exact Ju p (g.kept l (List.mem_map.mpr ⟨_,n,rfl⟩))
   | su b o=>cases (D _ n).1.1
   | im b h=>rcases(D _ n).1.1 with z|z<;>cases z
 | s=>
   obtain⟨a,g⟩:=v;refine⟨iU (λr=>r.1) lB a,λe s t r n=>?_⟩
   have p:=Qy g.ks (λr d e F h=>by
    unfold lB
    rw[gw λx c=>h x ((g.row r d).2.2 x c).2]) s t
   obtain⟨m,C,_⟩:=D r n
   cases r with
   | ei l=>cases m.1
   | im b h=>rcases m.1 with z|z<;>cases z
   | su b o=>
     rw[sT C λx c=>by have:=m.2 x c;lia];obtain⟨i,K,N⟩:=List.mem_iff_getElem.mp (Qs n);have u:=g.kept i K
     have Q:rg (R.map toS) i=toS (.su b o):=by
      unfold rg;rw[List.getD_eq_getElem?_getD,qr K,N];rfl
     rw[Q]at u;rw[Jw (λr d=>⟨(g.row r d).1,(g.row r d).2.1,λy G=>((g.row r d).2.2 y G).2⟩) p (T:=λx=>decide _) (o:=o) u];simp
 | i=>exact L (.inl rfl) v
 | n=>exact L (.inr rfl) v
def Jy{L:AW}(q:∀l∈L,eK l){e:AG}(o:∀l∈L,∃u∈l,at' e u.1=u.2){s t:aC}(h:ed L s t)(hs:at' e s.1=s.2):at' e t.1=t.2:=by
 obtain⟨l,n,c,j,m⟩:=h;obtain⟨u,f,i⟩:=o l n
 have d:u≠aP s:=λz=>by
  subst z;have i:at' e s.1=!s.2:=i;rw[hs]at i;cases r:s.2<;>rw[r]at i<;>cases i
 by_cases g:u=t
 .subst g
  exact i
 .obtain⟨p,v⟩:=q l n
  match l,p,v,c,j,m,f with
  | [a],_,_,c,_,_,f=>
    simp at c f;exact absurd (f.trans c.symm) d
  | [a,b],_,_,c,j,m,f=>
    have k:t≠aP s:=λz=>by have:=m z;simp at this
    simp at c j f;rcases f with rfl|rfl
    .rcases c with z|z
     .exact absurd z.symm d
     .rcases j with y|y
      .exact absurd y.symm g
      .exact absurd (y.trans z.symm) k
    .rcases c with z|z
     .rcases j with y|y
      .exact absurd (y.trans z.symm) k
      .exact absurd y.symm g
     .exact absurd z.symm d
theorem sV{L:AW}(b:∀l∈L,eK l){e:AG}(a:∀l∈L,∃u∈l,at' e u.1=u.2){s t:aC}(h:Rch L s t)(hs:at' e s.1=s.2):at' e t.1=t.2:=by
 induction h with
 | refl=>exact hs
 | step _ d c=>exact Jy b a d c
theorem Jz{L:AW}(j:∀l∈L,eK l){hs:AG}{st:Nat}(b:bY L (aB hs st true) (aB hs st false)):∃f,∀e:AG,e.length=hs.length->fE hs false f st e->¬∀l∈L,∃u∈l,at' e u.1=u.2:=by
 have q:∀(e:_) (s:aC),¬at' e s.1=s.2->_:=λe s h=>by
  show at' e s.1=!s.2
  cases i:at' e s.1<;>cases a:s.2<;>rw[i,a]at h<;>first|rfl|exact absurd rfl h
 have k:∀(e:_) (s:aC),at' e s.1=s.2->_->False:=λe s h m=>by
  have m:at' e s.1=!s.2:=m;rw[h]at m;cases a:s.2<;>rw[a]at m<;>cases m
 cases b with
 | broken h=>exact⟨λ_=>false,λe _ _ c=>by
  obtain⟨u,B,_⟩:=c [] h
  cases B⟩
 | clash s i a=>
   refine⟨λ_=>false,λe _ _ c=>?_⟩;by_cases hs:at' e s.1=s.2
   .exact k e s hs (sV j c i hs)
   .exact hs (sV j c a (q e s hs))
 | cross s t i a r v=>
   refine⟨λp=>if p.length=s.1 then s.2 else !t.2,λe n o c=>?_⟩;obtain⟨d,w,_⟩:=iT n o i;obtain⟨g,A,_⟩:=iT n o a;rw[w,if_pos rfl]at d;rw[A]at g;have x:=sV j c v d;rw[x]at g;by_cases z:t.1=s.1
   .rw[if_pos z]at g
    exact r (Prod.ext z.symm g.symm)
   .rw[if_neg z]at g
    cases a:t.2<;>rw[a]at g<;>cases g
 | late s t i a r v C=>
   refine⟨λp=>if at' p t.1=t.2 then !s.2 else s.2,λe n o c=>?_⟩;obtain⟨d,w,y⟩:=iT n o i;rw[y _ r]at d;by_cases z:at' e t.1=t.2
   .rw[if_pos z]at d
    exact k e s (sV j c C z) d
   .rw[if_neg z]at d
    exact z (sV j c v d)
theorem JA{R:List Sm}{hs:AG}{st:Nat}{W:AH}(b:iM R (aB hs st false) W):∃f,∀e:AG,e.length=hs.length->fE hs false f st e->¬∀p,p<R.length->xr (rg R p).1 (at' e)=(rg R p).2:=by
 obtain⟨b1,b2⟩:=b
 have c:∀e,(∀p,_->_)->xr (tP R W) _=_:=λe h=>
  HC (Q:=λT o=>xr T (at' e)=o) (sx λ_ _=>rfl) (λa i=>by rw[si,a,i]) (λa i=>by rw[<-a];exact lq λx g=>by rw[i x g]) λp k=>h p (b1 p (Qc k).2)
 rcases b2 with⟨r,a⟩|⟨l,v,d⟩
 .refine⟨λ_=>false,λe _ _ h=>?_⟩
  have:=c e h;rw[sx (fl_nil.mp r),a]at this;cases this
 .refine⟨λt=>!(aH R (fl 60 W)!=xr (wl (tP R W) l) (at' t)),λe m w h=>?_⟩
  obtain⟨y,z,u⟩:=iT m w v
  have q:xr (wl _ l) (at' (e.take l))=xr (wl _ l) (at' e):=lq λx g=>by
   cases j:wl _ l x with
   | false=>rfl
   | true=>
     unfold wl at j;rw[Qe]at j;have a:=d.2.2 x g j.1;rw[u x ∅]
  have:=c e h;rw[iL d.1 d.2.1,y,q]at this;cases s:aH R _<;>cases n:xr _ _<;>rw[s,n]at this<;>cases this
theorem JB{R:List bL}{hs:AG}{st:Nat}{b:AL}{d js:AF}(w:Bool)(L:ll R (aB hs st true) (aB hs st false) b d js=true):∃f,∀e:AG,e.length=hs.length->fE hs false f st e->¬∀q∈R,(∀x∈q.1,at' e x=w)->∃y,q.2=some y/\at' e y=w:=by
 unfold ll at L;rw[Qe]at L;obtain⟨O,J⟩:=L;unfold iJ at J;simp only[Qe,wm,Bool.or_eq_true]at J;obtain⟨_,N,Q,U,T⟩:=J
 have u:∀e,(∀q∈R,(∀x∈q.1,at' e x=w)->∃y,q.2=some y/\at' e y=w)->∀{d:_}{s:_},ec R s d=true->(∀x∈s,at' e x=w)->∀x∈s++dy R d,at' e x=w:=λe j d=>by
  induction d with
  | nil=>
    intro s _ n x a;rcases qw a with h|h
    .exact n x h
    .cases h
  | cons i d Y=>
    intro s hd n x a;have t:(_&&_)=true:=hd;rw[Qe]at t;obtain⟨C,H⟩:=t;unfold rT at C;rw[Qe,Qe,wm]at C;obtain⟨g,G,F⟩:=C;obtain⟨y,p,m⟩:=j _ (xO g) λx a=>n x (wt (List.all_eq_true.mp F x a))
    have S:bw (aA R i)=y:=by unfold bw;rw[p];rfl
    refine Y H (λz k=>?_) x ?_
    .rcases qw k with h|h
     .exact n z h
     .rw[List.mem_singleton]at h
      rw[h,S];exact m
    .rw[ja]
     exact a
 have r:∀e,_->_->∃x,b=some x/\at' e x=w:=λe j n=>by
  have:=u e j Q n;obtain⟨y,p,m⟩:=j _ (xO N) λx a=>this x (wt (List.all_eq_true.mp U x a));rcases T with q|q
  .rw[q]at p
   cases p
  .exact⟨y,q.symm.trans p,m⟩
 cases b with
 | none=>
   refine⟨λ_=>w,λe E D j=>?_⟩
   obtain⟨x,z,_⟩:=r e j λx a=>by
    rcases qw a with q|q
    .exact(iT E D (Qc q).1).1
    .cases q
   cases z
 | some A=>
   have o:(_&&_)=true:=O;rw[Qe,wm]at o;obtain⟨K,B⟩:=o;refine⟨λM=>if M.length=A then (if (lk R (aB hs st true) (some A) d).all (λz=>at' M z==w)=true then !w else w)else w,λe E D j=>?_⟩
   have v:∀x _,_->at' e x=w:=λx a z=>by
    obtain⟨g,G,_⟩:=iT E D a;rw[g,G,if_neg z]
   obtain⟨g,G,F⟩:=iT E D K;rw[G,if_pos rfl]at g
   have l:∀z∈lk R (aB hs st true) (some A) d,_:=λz k=>by
    have:=(Qc k).2;simpa using this
   by_cases c:∀z∈lk R (aB hs st true) (some A) d,at' e z=w
   .rw[if_pos (List.all_eq_true.mpr λz k=>by rw[F z (l z k).1,c z k];simp)]at g
    obtain⟨x,z,a⟩:=r e j λx a=>by
     rcases qw a with q|q
     .obtain⟨C,H⟩:=Qc q
      exact v x C λz=>by simp[z]at H
     .exact c x q
    cases z;rw[a]at g;cases w<;>cases g
   .have I:¬(lk R _ _ d).all (λz=>at' _ z==w)=true:=λz=>c λy m=>by
     have:=List.all_eq_true.mp z y m;rw[F y (l y m).1]at this;simpa using this
    rw[if_neg I]at g
    have V:∀x _,at' e x=w:=λx a=>by
     by_cases z:x=A
     .rw[z,g]
     .exact v x a z
    have:=u e j B V;exact c λz k=>this z (List.mem_append.mpr (.inr (l z k).2))
theorem JC{k:Kd}{R:List Rl}{hs:AG}{st:Nat}(n:hs.length<=60)(d:∀r∈R,Dr k st hs.length r)(v:iS k R (aB hs st true) (aB hs st false) true):∃f,∀e:AG,e.length=hs.length->fE hs false f st e->¬∀r∈R,so k e r=true:=by
 have A:(k=.i\/k=.n)->(∃b y B,ll (R.map fR) (aB hs st true) (aB hs st false) b y B=true)->∃f,∀e,_->_->¬∀r∈R,_=true:=λt ⟨b,y,B,g⟩=>by
  obtain⟨w,H⟩:∃w,decide (k=.i)=w:=⟨_,rfl⟩
  obtain⟨f,m⟩:=JB w g;refine⟨f,λe i j h=>m e i j λq C=>?_⟩;obtain⟨r,a,rfl⟩:=qy C;have:=h r a
  cases r with
  | ei l=>rcases t with rfl|rfl<;>cases (d _ a).1.1
  | su b o=>rcases t with rfl|rfl<;>cases (d _ a).1.1
  | im b o=>exact(sU H).mp this
 cases k with
 | e=>
   have a:∀r∈R,r=.ei (lA r):=λr a=>by
    cases r with
    | ei l=>rfl
    | su b o=>cases (d _ a).1.1
    | im b o=>rcases(d _ a).1.1 with z|z<;>cases z
   obtain⟨f,m⟩:=Jz (λl n=>by
    obtain⟨r,c,rfl⟩:=qy n;have:=(d r c).2.1;rw[a r c]at this
    exact Je this) v
   refine⟨f,λe i j h=>m e i j λl n=>?_⟩;obtain⟨r,c,rfl⟩:=qy n;have:=h r c;rw[a r c]at this;obtain⟨u,E,q⟩:=List.any_eq_true.mp (this);exact⟨u,E,by simpa using q⟩
 | s=>
   obtain⟨W,b⟩:=v;obtain⟨f,m⟩:=JA b;refine⟨f,λe i j h=>m e i j λp I=>?_⟩;have c:=Jm I;obtain⟨r,a,G⟩:=qy c;rw[<-G];obtain⟨s,F,_⟩:=d r a;have:=h r a
   cases r with
   | ei l=>cases s.1
   | im b h=>rcases s.1 with z|z<;>cases z
   | su b o=>
     rw[sT F λx D=>by have:=s.2 x D;ac_nf]at this;show xr (λx=>decide _) _=o;simpa using this
 | i=>exact A (.inl rfl) v
 | n=>exact A (.inr rfl) v
theorem JD{k:Kd}{R:List Rl}{hs:AG}{st:Nat}{w:Bool}(c:hs.length<=60)(i:st<=hs.length)(d:∀r∈R,Dr k st hs.length r)(v:iS k R (aB hs st true) (aB hs st false) w){ev:AG}(h:ev.length=st):gv (λe=>∀r∈R,so k e r=true) hs (hs.length-st) ev↔w=false:=by
 subst h
 cases w with
 | false=>
   obtain⟨f,a⟩:=Jx c d v;exact⟨λ_=>rfl,λ_=>Qv _ _ λt g b=>a _ (by rw[qz];ext) b⟩
 | true=>
   obtain⟨f,a⟩:=JC c d v;exact⟨λz=>absurd z (sR _ _ λt g b=>a _ (by rw[qz];ext) b),λz=>nomatch z⟩
section
variable {f g:Hm}{fe:He}{ρ ρ':Ro}{t:Hs}{Q:cc Hs->Prop}{i:Nat}
def lD{f:AR}(h:f ρ=some (.nx ρ'))(k:g ρ' t Q):bB (fN f) g ρ t Q:=⟨_,h,k⟩
def sW(h:fe ρ t λd t'=>g (ρ.set i (↑d)) t' Q):bB (iF i fe) g ρ t Q:=h
def sX{c:Ro->Hs->Option Bool}{f:Hm}(h:c ρ t=some false)(k:g ρ t Q):bB (vT c f iE) g ρ t Q:=⟨false,h,λz=>(nomatch z),λ_=>k⟩
theorem JE{a:AV}{gt:AS}{b:AN}(h:a ρ=some b)(k:eH gt f b ρ t fun
 | .nx ρ' t'=>g ρ' t' Q
 | o=>Q o):bB (kM a gt f) g ρ t Q:=⟨b,h,k⟩
def QA{gt:AS}{fb:Hm}{m:Type}(enc:m->D)(I:List m->Ro->Hs->Prop):∀(l c:List m) (ρ:Ro) (t:Hs) (Q:cc Hs->Prop),I c ρ t->
 (∀q a r ρ t (Q:cc Hs->Prop),c++l=q++a::r->I q ρ t->(∀d j,I (q++[a]) d j->Q (.nx d j))->∃h,gt (enc a) ρ=some h/\fb h t Q)->(∀ρ' t',I (c++l) ρ' t'->Q (.nx ρ' t'))->eH gt fb (l.map enc) ρ t Q
 | [],c,ρ,t,Q,g,_,k=>k ρ t (by rwa [w9])
 | a::l,c,ρ,t,Q,g,f,k=>by
   refine f c a l ρ t _ rfl g λd j p=>QA enc I l _ d j Q p (λq b r ρ t Q e o s=>f q b r ρ t Q (by rw[<-e,ja];rfl) o s) λρ' t' n=>k ρ' t' ?_
   rwa [ja]at n
end
def JF{t:Hs}{a:Addr}{s s':Option HS}:pt (pt t a s) a s'=pt t a s':=by
 funext b
 by_cases h:b=a
 .rw[h,du,du]
 .rw[b7 h,b7 h,b7 h]
theorem lE{b:Type}{enc:b->D}{t:Hs}(h:∀a,aO t (enc a)=enc a):∀l:List b,dw t (l.map enc)=l.map enc
 | []=>by rw[List.map_nil,dw]
 | a::l=>by rw[Qd,dw,h,lE h l]
def JG(t:Hs)(i:Int):aO t (.int i)=.int i:=by rw[aO]
def JH(t:Hs)(b:Bool):aO t (.bl b)=.bl b:=by rw[aO]
def JK(t:Hs)(b:Bool):aO t (ck b)=ck b:=by unfold ck;rw[aO]
def JL(t:Hs)(s:aC):aO t (af s)=af s:=by
 show aO t (.tup _)=.tup _;simp[aO,dw]
def JM(t:Hs)(o:AL):aO t (av o)=av o:=by
 cases o with
 | none=>show aO t .non=.non;rw[aO]
 | some x=>show aO t (.int _)=.int _;rw[aO]
def sY(t:Hs)(b:AE):aO t (.tup (b.map nD))=.tup (b.map nD):=by
 rw[aO,(lE (enc:=nD) (λn=>JG t n) b)]
def JN(t:Hs)(r:Rl):aO t (aK r)=aK r:=by
 cases r with
 | ei l=>show aO t (.tup _)=.tup _;rw[aO,lE (JL t)]
 | su b o=>show aO t (.tup _)=.tup _;rw[aO,dw,dw,dw,sY,JH]
 | im b h=>show aO t (.tup _)=.tup _;rw[aO,dw,dw,dw,sY,JM]
def JO(t:Hs)(k:Kd):aO t (bf k)=bf k:=by unfold bf;rw[aO]
def JP(t:Hs)(k:Kd)(R:List Rl):aO t (Yl k R)=Yl k R:=by
 show aO t (.tup _)=.tup _;rw[aO,dw,dw,dw,aO,lE (JN t),JO]
def JQ{t:Hs}{k:Kd}{R:List Rl}{H ev:AG}{l:Addr}(h:t l=some (.bls ev)):aO t (aY (Yl k R) (.tup (H.map ck)) (.adr l))=dR k R H ev:=by
 rw[aO,dw,dw,dw,JP,aO,lE (JK t),aO,h];rfl
section
variable {k:Kd}{R:List Rl}{H ev:AG}{l:Addr}{t:Hs}
def QB(b h x:D):cA "Watch" "turn" gQ (aY b h x)=gQ [aY b h x]:=iR "turn" (by decide) gQ b h x
def QC(b h x:D):cA "Watch" "winner" la (aY b h x)=la [aY b h x]:=iR _ (by decide) _ b h x
theorem JR(e:t l=some (.bls ev))(a:ev.length<H.length)(i:H.length<=60)(h:∀r∈R,fQ k H.length r/\sz r<=9999)(c:Bool){W:D->Hs->Prop}(g:W (dz k R H (ev++[c])) (pt t l (some (.bls (ev++[c]))))):
 rP [aY (Yl k R) (.tup (H.map ck)) (.adr l),.bl c] t W:=by
 unfold rP eI;have b:Yd 2 [aY (Yl k R) (.tup (H.map ck)) (.adr l),.bl c]=[some _,↑(.bl c)]:=rfl;rw[b];have f:=QB (Yl k R) (.tup (H.map ck)) (.lst (ev.map D.bl));rw[Jg (Nat.le_of_lt a),x2 a]at f;have d:=QC (Yl k R) (.tup (H.map ck)) (.lst ((ev++[c]).map D.bl));rw[Qk (by rw[qz];exact a) h]at d;refine sX ?_ ?_
 .show(b2 _ (kD .non) (bU false)) (d_ t _)=_
  have:d_ t [↑(aY (Yl k R) (.tup (H.map ck)) (.adr l)),↑(.bl c)]=[↑(dR k R H ev),↑(aO t (.bl c))]:=by
   show([↑_,↑_]:Ro)=_;rw[JQ (H:=H) (k:=k) (R:=R) e]
  rw[this];simp [qd];rw[f];exact rfl
 refine lD (ρ':=[some _,↑(.bl c)]) (by cases c<;>rfl) (⟨_,_,l,ev,c,rfl,e,by ac_nf,rfl,⟨dz k R H (ev++[c]),?_,(Jh k R H (ev++[c])),g⟩⟩)
 have:d_ (pt t l (some (.bls (ev++[c])))) [↑(aY (Yl k R) (.tup (H.map ck)) (.adr l)),↑(.bl c)]=[↑(dR k R H (ev++[c])),↑(aO (pt t l (some (.bls (ev++[c])))) (.bl c))]:=by
  show([↑_,↑(aO _ (.bl c))]:Ro)=_;rw[JQ (H:=H) (k:=k) (R:=R) (t:=pt t l (some (.bls (ev++[c])))) du]
 rw[this];exact d
end
section
variable {t:Hs}{x:Addr}{R Q:D->Hs->Prop}{ρ:Ro}{is:AE}{ga:AV}
theorem JS{C d:Addr}{b h:D}{l:AN}(m:t x=some (.ins "Watch" C d [] [] []))(p:k9 [b,h]=some .non)(n:a9 [h]=some (.tup l))(k:∀a e f t',a≠x->t a=none->t' x=some (.ins "Watch" C d qK [e,f,.ref a] [b,.tup l,.adr a])->t' a=some (.bls [])->(∀y,y≠x->y≠a->t' y=t y)->R .non t'):rO [.adr x,b,h] t R:=by
 unfold rO eI;have i:Yd 3 [.adr x,b,h]=[some _,some _,some _]:=rfl;rw[i];refine lD (ρ':=[↑(.adr x),↑b,↑h]) ?_ ?_
 .simp [p]
 refine⟨x,"Watch",C,d,[],[],[],b,rfl,m,by decide,by decide,by decide,rfl,λe=>⟨x,"Watch",C,d,["book"],[e],[b],.tup l,rfl,du,by decide,by decide,by decide,?_,λf=>?_⟩⟩
 .exact n
 rw[JF];refine⟨x,"Watch",C,d,["book","hands"],[e,f],[b,.tup l],rfl,du,by decide,by decide,by decide,λa g=>?_⟩
 have c:a≠x:=λz=>by rw[z,du]at g;cases g
 rw[b7 c]at g;refine k a e f _ c g du ?_ λy j o=>?_
 .rw[b7 c,du]
 .rw[b7 j,b7 o,b7 j]
theorem JT{b h:D}{l:AN}(F:ga (frz is ρ)=some [b,h])(B:k9 [b,h]=some .non)(u:a9 [h]=some (.tup l))(hb:dW b=true)(E:bF l=true)(k:∀a t',t a=none->t' a=some (.bls [])->(∀y,y≠a->t' y=t y)->Q (aY b (.tup l) (.adr a)) t'):kW "Watch" true is [] ga rO ρ t Q:=by
 refine⟨[b,h],F,λx C p A=>⟨λe t'=>e=.non/\∃a n c,a≠x/\t a=none/\t' x=some (.ins "Watch" C p qK [n,c,.ref a] [b,.tup l,.adr a])/\t' a=some (.bls [])/\(∀y,y≠x->y≠a->t' y=t y),JS du B u (λa n c t' i j g f m=>⟨rfl,a,n,c,i,by rw[b7 i]at j;exact j,g,f,λy o v=>by rw[m y o v,b7 o]⟩),λe t' h=>?_⟩⟩;obtain⟨rfl,a,n,c,i,j,g,f,m⟩:=h;refine⟨λy s h=>?_,rfl,λz=>(nomatch z),λ_=>⟨_,_,_,g,?_⟩⟩
 .by_cases e:y=x
  .subst e
   rw[g]at h;cases h;refine .inr ?_
   have q:∀{d:D},dW d=true->qB d=true:=λ{d} hd=>by cases d<;>first|exact hd|rfl
   have w:qB (.tup l)=true:=q (E);show[b,.tup l,.adr a].all qB=true;simp[q hb,w];rfl
  .by_cases e2:y=a
   .subst e2
    rw[f]at h;cases h;exact .inr rfl
   .rw[m y e e2]at h
    exact .inl h
 .refine k a _ j ?_ λy r=>?_
  .rw[b7 i]
   exact f
  .by_cases e:y=x
   .rw[e,du,A]
   .rw[b7 e]
    exact m y e r
end
def sZ(b:Bool):ck b=aF b:=by cases b<;>rfl
def JU(H:AG):H.map ck=H.map aF:=Qq λb _=>sZ b
def mP(t:Hs)(b:Bool):aO t (aF b)=aF b:=by unfold aF;rw[aO]
theorem s_{b:Type}{enc:b->D}(h:∀a,dW (enc a)=true):∀l:List b,bF (l.map enc)=true
 | []=>by rw[List.map_nil,bF]
 | a::l=>by rw[Qd,bF,h,s_ h l];rfl
abbrev Wa(k:Kd)(R:List Rl)(H:AG)(l:Addr):D:=aY (Yl k R) (.tup (H.map ck)) (.adr l)
section
variable {k:Kd}{R:List Rl}{H:AG}{l:Addr}
def JV{ev:AG}{t:Hs}{ρ:Ro}{b:AU}{f:AV}{Q:D->Hs->Prop}(n:b ρ=some (Wa k R H l)){c:Bool}(j:f ρ=some [.bl c])(h:t l=some (.bls ev))(a:ev.length<H.length)(i:H.length<=60)(g:∀r∈R,fQ k H.length r/\sz r<=9999)(m:∀d,Q d (pt t l (some (.bls (ev++[c]))))):kU "settle" GS b f ρ t Q:=
 ⟨_,_,"Watch",qK,rP,λ_ o=>o=pt t l _,n,j,rfl,by decide,rfl,JR h a i g c rfl,λd o e=>by rw[e];exact m d⟩
end
def JW(r:Rl):dW (aK r)=true:=by
 have a:∀l:AE,bF (l.map nD)=true:=λl=>s_ (λ_=>rfl) l
 cases r with
 | ei l=>exact(λl=>s_ (λ_=>rfl) l) l
 | su l o=>show(bF (l.map nD)&&(dW (.bl o)&&bF []))=true;rw[a];rfl
 | im l h=>show(bF (l.map nD)&&(dW (av h)&&bF []))=true;rw[a];cases h<;>rfl
def QD(k:Kd)(R:List Rl):dW (Yl k R)=true:=by
 show(dW (bf k)&&(bF _&&_))=true;rw[s_ JW];rfl
def JY(H:AG):bF (H.map ck)=true:=s_ (λ_=>rfl) H
def QE(b h x:D):cA "Watch" "left" jx (aY b h x)=jx [aY b h x]:=iR _ (by decide) _ b h x
theorem JZ{k:Kd}{i n:Nat}{b:Bool}{R:List Rl}(p:∀r∈R,Dr k i n r):∀q∈R.filterMap (bC k i b),Dr k (i+1) n q:=λq d=>by
 obtain⟨r,f,h⟩:=List.mem_filterMap.mp d;obtain⟨s,o,e⟩:=p r f
 have a:at' (.replicate (i+1) b) i=b:=by simp[at']
 obtain⟨_,l,_,g,c,_⟩:=vM s o (by rwa [a]);refine⟨g,c,λx m=>?_⟩;obtain⟨j,t⟩:=l x m;have:=e x j;ac_nf
def QF{k:Kd}{i n:Nat}{R:List Rl}(b:∀r∈R,Dr k i n r)(e:AG):(∀r∈R,so k e r=true)↔∀q∈R.filterMap (bC k i (at' e i)),so k e q=true:=by
 constructor
 .intro h q d
  obtain⟨r,a,c⟩:=List.mem_filterMap.mp d;rw[(vM (b r a).1 (b r a).2.1 c).1];exact h r a
 .intro h r a
  cases c:bC k i _ r with
  | none=>exact T5 (b r a).1 (b r a).2.1 c
  | some q=>
    rw[<-(vM (b r a).1 (b r a).2.1 c).1];exact h q (List.mem_filterMap.mpr ⟨r,a,c⟩)
theorem J0{k:Kd}{n:Nat}:∀(t:AG) (i:Nat) (R:List Rl),(∀r∈R,Dr k i n r)->(∀r∈jE k i t R,Dr k (i+t.length) n r)/\∀e:AG,(∀j,j<t.length->at' e (i+j)=at' t j)->((∀r∈R,so k e r=true)↔∀r∈jE k i t R,so k e r=true)
 | [],_,_,h=>⟨h,λ_ _=>.rfl⟩
 | b::t,i,R,h=>by
   obtain⟨f,d⟩:=J0 t _ _ (JZ h);refine⟨λr c=>?_,λe a=>?_⟩
   .have:=f r c
    rwa [qt,show i+(t.length+1)=i+1+t.length by lia]
   .have g:at' e i=b:=by
     have:=a 0 nofun;simpa [at']using this
    have:=QF h e;rw[g]at this;rw[this]
    exact d e λj l=>by
     have:=a (j+1) (by simp;lia);rw[show i+1+j=i+(j+1) by lia,this];simp[at']
theorem J1{k:Kd}{R:List Rl}{hs ev:AG}(h:hs.length<=60)(i:ev.length<hs.length)(a:∀r∈R,Dr k ev.length hs.length r){w:Bool}{wf:Bool->Bool}(v:iS k R (aB hs ev.length true) (aB hs ev.length false) w)(l:∀b,iS k (R.filterMap (bC k ev.length b)) (aB hs (ev.length+1) true) (aB hs (ev.length+1) false) (wf b)):
 (!w)=(if (!wf false)=at' hs ev.length\/(!wf true)=at' hs ev.length then at' hs ev.length else !at' hs ev.length):=by
 have g:=JD h (Nat.le_of_lt i) a v rfl
 have j:∀b,gv (λe=>∀r∈R,_=true) hs (_-(_+1)) _↔wf b=_:=λb=>by
  rw[<-JD h i (JZ a) (l b) (ev:=ev++[b]) nofun];refine Qw _ _ λt _=>?_;have:=QF a (ev++[b]++t)
  rwa [show at' _ _=b by simp[at']]at this
 rw[show hs.length-ev.length=hs.length-(ev.length+1)+1 by ac_nf,gv]at g;simp only[j]at g
 cases f:at' hs _ with
 | true=>
   rw[f]at g
   cases c:wf _ with
   | false=>
     rw[g.mp ⟨false,c⟩];simp
   | true=>
     cases d:wf _ with
     | false=>
       rw[g.mp ⟨true,d⟩];simp
     | true=>
       cases w with
       | true=>simp
       | false=>
         obtain⟨b,m⟩:=g.mpr rfl;cases b<;>ext
 | false=>
   rw[f]at g
   cases c:wf _ with
   | true=>
     cases w with
     | true=>simp
     | false=>
       have:=g.mpr rfl false;rw[c]at this;cases this
   | false=>
     cases d:wf _ with
     | true=>
       cases w with
       | true=>simp
       | false=>
         have:=g.mpr rfl true;rw[d]at this;cases this
     | false=>
       rw[g.mp λb=>by cases b<;>assumption];simp
def tf(a b c:Bool):aI c (aF a) (aF b)=some (if c then !(a==b)else a==b):=by
 cases a<;>cases b<;>cases c<;>first|rfl|decide +kernel
def QG(a:Bool):aI false (aF a) (.str "nobody")=some false:=by
 cases a<;>first|rfl|decide +kernel
def J2{H:AG}{i:Nat}(h:i<H.length):bD (H.map aF) (i:Int)=some (aF (at' H i)):=by
 rw[gN,mh h];simp[at',h]
abbrev QH:cc Hs->Prop:=fun
 | .rt (.bl true) _=>True
 | _=>False
section
variable {k:Kd}{R:List Rl}{H ev:AG}{l:Addr}{t:Hs}{li:Int}
abbrev rs(k:Kd)(R:List Rl)(H:AG)(li:Int)(l:Addr)(b e c d f a:AQ):Ro:=[↑(Yl k R),↑(.tup (H.map aF)),↑(.int li),↑(Wa k R H l),b,e,c,d,f,a]
def ZR{ρ:Ro}{f:AU}{b:Bool}(h:f ρ=some (aF b)):ic ["keeper","storm"] [(kD (.str "storm")),(kD (.str "keeper"))] f ρ=some (aF (!b)):=by
 unfold ic;cases b
 .rw[h];rfl
 .rw[h];rfl
def tj(h:t l=some (.bls ev)):aO t (Wa k R H l)=dR k R H ev:=JQ h
theorem ZU{n:Nat}(Y:H.length<=60)(hRn:R.length<=60)(U:∀r∈R,Dr k 0 H.length r)(hl:t l=some (.bls ev))(C:ev.length<H.length)(hn:n=ev.length)(E j i h g:AQ){Q:cc Hs->Prop}(kk:∀z5 z6 z7 z8 z9 c,Q (.nx (rs k R H li l (↑(.int n)) z5 z6 z7 z8 z9) (pt t l (some (.bls (ev++[c])))))):GV (rs k R H li l (↑(.int n)) E j i h g) t Q:=by
 subst hn
 have T:∀r∈R,fQ k H.length r/\sz r<=9999:=λr s=>⟨⟨(U r s).1,(U r s).2.1⟩,by have:=iy (U r s).1 (U r s).2.1;lia⟩
 obtain⟨G,_⟩:=J0 (k:=k) (n:=H.length) ev 0 R U;rw[Nat.zero_add]at G;have hLn:=Jj k ev 0 R;have o:=QE (Yl k R) (.tup (H.map ck)) (.lst (ev.map D.bl));rw[show aY (Yl k R) (.tup (H.map ck)) (.lst (ev.map D.bl))=dR k R H ev from rfl,sO (n:=H.length) H ev T]at o;have f:=QB (Yl k R) (.tup (H.map ck)) (.lst (ev.map D.bl));rw[show aY (Yl k R) (.tup (H.map ck)) (.lst (ev.map D.bl))=dR k R H ev from rfl,Jg (Nat.le_of_lt C),x2 C,sZ]at f;generalize hLd:jE k 0 ev R=L at *;obtain⟨w,hw,v⟩:=Jq (c:=.tup (H.map aF)) rfl Y (Nat.le_of_lt C) (by lia) G
 have hb:∀b:Bool,∃w:Bool,iG [Yl k L,.int (ev.length:Int),.bl b]=some (Yl k (L.filterMap (bC k ev.length b)))/\gn [Yl k (L.filterMap (bC k ev.length b)),.tup (H.map aF),.int ((ev.length:Int)+1)]=some (aF (!w))/\iS k (L.filterMap (bC k ev.length b)) (aB H (ev.length+1) true) (aB H (ev.length+1) false) w:=λb=>by
  have e1:=O1 (k:=k) (n:=H.length) (R:=L) (λr s=>(G r s).1) (λr s=>by have:=iy (G r s).1 (G r s).2.1;lia) ev.length b;obtain⟨w,g1,g2⟩:=Jq (k:=k) (R:=L.filterMap (bC k ev.length b)) (hs:=H) (st:=ev.length+1) (c:=.tup (H.map aF)) rfl Y C (by have:=List.length_filterMap_le (bC k ev.length b) L;lia) (JZ G);exact⟨w,e1,g1,g2⟩
 obtain⟨y,f1,f2,f3⟩:=hb false;obtain⟨A,g1,g2,g3⟩:=hb true;have u:=J1 (R:=L) Y C G (wf:=λb=>if b=true then A else y) v (λb=>by cases b;exact f3;exact g3);simp only[Qo,if_false,if_true]at u;have I:=J2 C;have q1:=tf (!y) (at' H ev.length) false;have q2:=tf (!A) (at' H ev.length) false
 have hj:(ev.length:Int)%59=((ev.length%59:Nat):Int):=by lia
 have V:=Cp li (ev.length%59);have N:=QG (!y);have O:=QG (!A);have q3:=tf (at' H ev.length) (at' H ev.length) true
 have hHg:H[ev.length]=at' H ev.length:=by simp[at',C]
 rw[hHg]at f
 have q4:∀b:Bool,b=(!w)->aI true (aF (!w)) (aF b)=some false:=λb e=>by
  rw[e,tf];simp
 have hd:=tj (k:=k) (R:=R) (H:=H) hl;unfold GV;refine sW ⟨Yl k L,?_,QD k L,?_⟩
 .show(b1 (ab 3) (cA "Watch" "left" jx)) (d_ t (rs k R H li l (↑(.int (ev.length:Int))) E j i h g))=_
  have:d_ t (rs k R H li l (↑(.int (ev.length:Int))) E j i h g)=some (.sh (aO t (Yl k R)))::some (.sh (aO t (.tup (H.map aF))))::some (.sh (aO t (.int li)))::some (.sh (dR k R H ev))::d_ t [↑(.int (ev.length:Int)),E,j,i,h,g]:=by
   rw[<-hd];rfl
  rw[this];simp only[Ec,T1,TX,qd];exact o
 show GU (rs k R H li l (↑(.int (ev.length:Int))) (↑(Yl k L)) j i h g) t Q
 obtain⟨m,hm⟩:∃m,at' H ev.length=m:=⟨_,rfl⟩
 rw[hm]at I u q1 q2 q3 f
 have F:∀a b c d e:D,aO t a=a->aO t b=b->aO t c=c->aO t d=d->aO t e=e->d_ t (rs k R H li l (↑(.int (ev.length:Int))) (↑a) (↑b) (↑c) (↑d) (↑e))=_:=λa b c d e h1 h2 h3 h4 h5=>by
  show[some (B.sh (aO t (Yl k R))),↑(aO t (.tup (H.map aF))),↑(aO t (.int li)),↑(aO t (Wa k R H l)),↑(aO t (.int (ev.length:Int))),↑(aO t a),↑(aO t b),↑(aO t c),↑(aO t d),↑(aO t e)]=_;rw[hd,JP,h1,h2,h3,h4,h5,JG,JG,aO,lE (mP t)]
 have Z:(aq 6 (cC (Yb (ab 5) (Yb (ab 1) (Yb (ab 4) ae))) gn)) (rs k R H li l (↑(.int (ev.length:Int))) (↑(Yl k L)) j i h g)=some (.nx (rs k R H li l (↑(.int (ev.length:Int))) (↑(Yl k L)) (↑(aF (!w))) i h g)):=by
  unfold rs;generalize Wa k R H l=M,Yl k L=q,Yl k R=K,H.map aF=J at *;simp[hw]
 have s2:∀j i h g,aq 7 (cC (Yb (cC (Yb (ab 5) (Yb (ab 4) (Yb (kD (.bl false)) ae))) iG) (Yb (ab 1) (Yb (b2 (aa 4) (aaa 1) cM) ae))) gn) (rs k R H li l (↑(.int (ev.length:Int))) (↑(Yl k L)) j i h g)=some (.nx (rs k R H li l (↑(.int (ev.length:Int))) (↑(Yl k L)) j (↑(aF (!y))) h g)):=λj i h g=>by
  unfold rs;generalize Wa k R H l=M,Yl k L=q at *;generalize Yl k R=K,Yl k (L.filterMap (bC k ev.length false))=b0 at *;generalize H.map aF=J at *;simp[f1,f2]
 have s3:∀j i h g,aq 8 (cC (Yb (cC (Yb (ab 5) (Yb (ab 4) (Yb (kD (.bl true)) ae))) iG) (Yb (ab 1) (Yb (b2 (aa 4) (aaa 1) cM) ae))) gn) (rs k R H li l (↑(.int (ev.length:Int))) (↑(Yl k L)) j i h g)=some (.nx (rs k R H li l (↑(.int (ev.length:Int))) (↑(Yl k L)) j i (↑(aF (!A))) g)):=λj i h g=>by
  unfold rs;generalize Wa k R H l=M,Yl k L=q at *;generalize Yl k R=K,Yl k (L.filterMap (bC k ev.length true))=b0 at *;generalize H.map aF=J at *;simp[g1,g2]
 have x:∀E j i h g,(b2 (aa 1) (aa 4) ao) (rs k R H li l (↑(.int (ev.length:Int))) E j i h g)=some (aF m):=λE j i h g=>by
  unfold rs;generalize Wa k R H l=M,Yl k R=K,H.map aF=J at *;simp[I]
 unfold GU;refine lD Z ?_;unfold OK;refine lD (s2 _ _ _ _) ?_;unfold OJ;refine lD (s3 _ _ _ _) ?_;unfold OI;refine lD (ρ':=rs k R H li l (↑(.int (ev.length:Int))) (↑(Yl k L)) (↑(aF (!w))) (↑(aF (!y))) (↑(aF (!A))) (↑(aF (!m)))) ?_ ?_
 .rw[MR,ZR (x ..)]
  rfl
 unfold OH;refine lD (ρ':=rs k R H li l (↑(.int (ev.length:Int))) (↑(Yl k L)) (↑(aF (!w))) (↑(aF (!y))) (↑(aF (!A))) (↑(aF (!w)))) ?_ ?_
 .rw[u]
  have p:=x (↑(Yl k L)) (↑(aF (!w))) (↑(aF (!y))) (↑(aF (!A))) (↑(aF (!m)));rw[u]at p;unfold rs at p ⊢;generalize Wa k R H l=M,Yl k L=q,Yl k R=K,H.map aF=J,(b2 (aa 1) (aa 4) ao)=fx at *;clear hw Z s2 s3 x F q4 f o hd;cases m<;>cases y<;>cases A<;>simp[p,q1,q2]<;>ext
 unfold OG;refine sX ?_ ?_
 .show(f6 _ _) (d_ t _)=_
  rw[F _ _ _ _ _ (JP ..) (mP ..) (mP ..) (mP ..) (mP ..)];generalize dR k R H ev=M,Yl k L=q,Yl k R=K,H.map aF=J at *;have q5:=q4 _ rfl;clear F Z s2 s3 x hd;simp[q5,N,O,f,I,q3]
 unfold OF;refine JV (c:=decide (li/2^(ev.length%59)%2=1)) (ev:=ev) rfl ?_ hl C Y T λd=>kk ..;unfold rs;generalize Wa k R H l=M,Yl k L=q,Yl k R=K,H.map aF=J at *
 have S:eE (.int li) (.int ((ev.length:Int)%59))=some (.int (li/2^(ev.length%59))):=by
  rw[hj];exact V
 clear V hj;generalize li/2^(ev.length%59)=z at *;simp[S]
end
section
variable {k:Kd}{R:List Rl}{H:AG}{li:Int}
theorem J3(n:Nat)(h:n<=1000):dh [.int (n:Int)]=some ((List.range' 0 n).map λn:Nat=>D.int (n:Int)):=by
 rw[pV ∅ ∅,mf];simp[List.range_eq_range']
def J4{ev:AG}:brk k ev R=[]↔∀r∈R,so k ev r=true:=by
 unfold brk;rw[List.filter_eq_nil_iff];constructor
 .intro h r b
  obtain⟨i,a,e⟩:=List.mem_iff_getElem.mp b;have:=h i (List.mem_range.mpr a)
  have c:ix R i=r:=by simp[ix,a,e]
  rw[c]at this;simpa using this
 .intro h i a
  have a:=Qb a;rw[h _ (M8 a)];simp
theorem ZV{l:Addr}{t:Hs}{ev:AG}(A:H.length<=60)(K:R.length<=60)(h:∀r∈R,Dr k 0 H.length r)(J:t l=some (.bls ev))(c:ev.length=H.length)(o n m p y s:AQ):OL (rs k R H li l o n m p y s) t QH:=by
 have e:∀r∈R,fQ k _ r/\sz r<=9999:=λr i=>⟨⟨(h r i).1,(h r i).2.1⟩,by have:=iy (h r i).1 (h r i).2.1;ac_nf⟩
 obtain⟨d,x⟩:=J0 ev 0 R h;rw[Nat.zero_add]at d;have C:=Jj k ev 0 R;have a:=QE (Yl k R) (.tup (H.map ck)) (.lst (ev.map D.bl));rw[show aY _ _ _=dR k R H ev from rfl,sO H ev e]at a;have b:=QC (Yl k R) (.tup (H.map ck)) (.lst (ev.map D.bl));rw[show aY _ _ _=dR k R H ev from rfl,Qk (Nat.le_of_eq c) e]at b;have G:=x ev (λj _=>by rw[Nat.zero_add]);generalize F:jE k 0 ev R=L at *;obtain⟨w,I,v⟩:=Jq (R:=L) (c:=.tup _) rfl A (qv _) ∅ (by rw[<-c];rw[c];rw[c]at d;exact d);have g:=JD A (qv _) (by rw[c]at d;exact d) v c;rw[Nat.sub_self,gv,<-G,<-J4]at g
 have u:dz k R H ev=aF (!w):=by
  unfold dz;rw[if_neg ∅]
  cases w with
  | false=>rw[if_pos (g.mpr rfl)];rfl
  | true=>rw[if_neg (λz=>by have:=g.mp z;cases this)];rfl
 rw[u]at b;have hd:=tj (k:=k) (R:=R) (H:=H) J;have q:=tf (!w) (!w) false
 have f:aU [.tup (H.map aF)]=some (.int H.length):=by
  show some (D.int _)=_;rw[qf]
 have E:aO t (.tup (H.map aF))=.tup (H.map aF):=by rw[aO,lE (mP t)]
 refine⟨.bl true,?_,rfl,trivial⟩
 have:d_ t (rs k R H li l o n m p y s)=some (.sh (aO t (Yl k R)))::some (.sh (.tup (H.map aF)))::some (.sh (aO t (.int li)))::some (.sh (dR k R H ev))::d_ t [o,n,m,p,y,s]:=by
  rw[<-hd]
  conv=>rhs;rw[<-E]
  rfl
 rw[this];simp[b,f,a,I,q]
theorem J5(j:H.length<=60)(f:R.length<=60)(b:∀r∈R,Dr k 0 H.length r):rQ [Yl k R,.tup (H.map aF),.int li]=some (.bl true):=by
 rw[rQ,Yj (by rfl)];have z:Yd 10 [Yl k R,.tup (H.map aF),.int li]=[some _,some _,some _,none,none,none,none,none,none,none]:=rfl;rw[z]
 have F:ON [↑(Yl k R),↑(.tup (H.map aF)),↑(.int li),none,none,none,none,none,none,none]=some (.rt (.bl true)):=by
  refine Nn ?_
  have o:k9 [Yl k R,.tup (H.map aF)]=some .non:=by
   rw[<-JU];exact Jl (m:=63) j ∅ (λr d=>⟨⟨(b r d).1,(b r d).2.1⟩,by have:=iy (b r d).1 (b r d).2.1;ac_nf⟩) (.inr rfl)
  refine sW (JT rfl o rfl (QD k R) (by rw[<-JU];exact JY H) λa A _ p _=>?_)
  have K:aY (Yl k R) (.tup (H.map aF)) (.adr a)=Wa k R H a:=by rw[<-JU]
  rw[K];show OM (rs k R H li a none none none none none none) A QH;have d:=J3 H.length ∅;refine JE ?_ (QA (λn:Nat=>D.int n) (λm B v=>(∃l i u x y t,B=rs k R H li a l i u x y t)/\∃h,h.length=m.length/\v a=some (.bls h)) (.range' 0 H.length) [] _ A _ ⟨⟨_,_,_,_,_,_,rfl⟩,[],rfl,p⟩ (λq n r B v Q e s C=>?_) λI v s=>?_)
  .have g:aU [.tup (H.map aF)]=some (.int H.length):=by
    show some (D.int ((H.map aF).length))=_;rw[qf]
   simp[g,d]
  .obtain⟨⟨l,i,u,x,y,t,rfl⟩,h,i2,w⟩:=s
   have J:n=q.length/\q.length<H.length:=by
    rw[Qj]at e;have E:=congrArg List.length e;simp at E
    have p:(List.range' 0 H.length)[q.length]?=some n:=by rw[e];simp
    rw[List.getElem?_range' (by ext)]at p
    ext
   obtain⟨rfl,G⟩:=J;refine⟨_,rfl,?_⟩;refine ZU j f b w (by ext) i2.symm _ _ _ _ _ λO M S N L c=>C _ _ ⟨⟨_,_,_,_,_,_,rfl⟩,h++[c],?_,du⟩;simp[i2]
  .obtain⟨⟨l,i,u,x,y,t,rfl⟩,h,i2,w⟩:=s
   rw[Qj,List.length_range']at i2;exact ZV j f b w i2 _ _ _ _ _ _
 rw[F];rfl
end
def J6{k:Kd}{st m n:Nat}{r:Rl}(h:Dr k st m r)(d:m<=n):Dr k st n r:=by
 obtain⟨a,e,f⟩:=h;refine⟨?_,e,f⟩
 cases r with
 | ei l=>exact⟨a.1,λs g=>Qi (a.2 s g) d⟩
 | su b o=>exact⟨a.1,λx c=>Qi (a.2 x c) d⟩
 | im b o=>exact⟨a.1,λx c=>Qi (a.2.1 x c) d,λx c=>Qi (a.2.2 x c) d⟩
theorem law_true(ns:AF)(J:ns.length<=63):mz [.scr ns]=some (.bl true):=by
 rw[mz,Yj (by rfl)];have t:Yd 8 [D.scr ns]=[↑(.scr ns),none,none,none,none,none,none,none]:=rfl;have O:=G7 ns 0 0 rfl;have B:=G7 ns 1 1 rfl;have Z:=G7 ns 2 2 rfl;generalize ns.getD 0 0=u,ns.getD 1 0=T,ns.getD 2 0=Y at *
 obtain⟨n,y,K,N⟩:∃n:Nat,1+u%12=(n:Int)/\1<=n/\n<=12:=⟨(1+u%12).toNat,by lia,by lia,by ext<;>lia⟩
 obtain⟨d,l,L⟩:=Y2 T n (by grind);obtain⟨v,I,A⟩:=G9 Y 1865811235122147685;subst l
 obtain⟨x,C,q⟩:∃x:Nat,bD [D.int 2,.int 4,.int 8,.int 30] (v%4)=some (.int (x:Int))/\0<x:=by
  rcases(show v%4=0\/v%4=1\/v%4=2\/v%4=3 by lia)with e|e|e|e<;>rw[e]
  .exact⟨2,rfl,by decide⟩
  .exact⟨4,rfl,by decide⟩
  .exact⟨8,rfl,by decide⟩
  .exact⟨30,rfl,by decide⟩
 obtain⟨f,H,i,h⟩:∃f:Nat,fm [.int (d.length:Int),.int (x:Int)]=some (.int (f:Int))/\0<f/\f<=d.length:=by
  by_cases z:(x:Int)<(d.length:Int)
  .exact⟨x,by show some (D.int (if _ then _ else _))=_;rw[if_pos z],q,by lia⟩
  .exact⟨d.length,by show some (D.int (if _ then _ else _))=_;rw[if_neg z],by lia,qv _⟩
 obtain⟨k,V⟩:∃k,bD [D.str "ifs",.str "sums",.str "nots",.str "eithers"] (v/4%4)=some (bf k):=by
  rcases(show v/4%4=0\/v/4%4=1\/v/4%4=2\/v/4%4=3 by lia)with e|e|e|e<;>rw[e]
  .exact⟨.i,rfl⟩
  .exact⟨.s,rfl⟩
  .exact⟨.n,rfl⟩
  .exact⟨.e,rfl⟩
 obtain⟨m,w,M⟩:∃m:Nat,3+v/16%13=(m:Int)/\m<=15:=⟨(3+v/16%13).toNat,by lia,by ext<;>lia⟩
 have p:=G8 ns 3 m
 have g:((ns.drop (min 3 ns.length)).take (min m ns.length-min 3 ns.length)).length<=60:=by
  rw[List.length_take]
  (simp;lia)
 generalize (ns.drop (min 3 ns.length)).take (min m ns.length-min 3 ns.length)=a at *
 obtain⟨R,F,o,j⟩:=drawn (fe:=GX) (r:=[↑(bf k),↑(.int (f:Int))]) (P:=Dr k 0 f) (λc=>by
  obtain⟨r,S,Q,E,s⟩:=HE k c 0 f i (by grind);have s:rN [bf k,.int c,.int 0,.int (f:Int)]=some (aK r):=s;refine⟨r,⟨S,Q,E⟩,?_⟩;generalize bf k=kk at *
  simp[GX,s]) a
 have b:=J5 (k:=k) (R:=R) (H:=d) (li:=v/1024) (by grind) (by ext) λr G=>J6 (o r G) h;have b:rQ [.tup [bf k,.tup (R.map aK)],.tup (d.map aF),.int (v/1024)]=some (.bl true):=b;rw[t];generalize R.map aK=RD,d.map aF=HS,bf k=kk at *;have p:bN (ns.map D.int) (some 3) (some (m:Int))=a.map D.int:=p
 have U:lb [↑(.scr ns),none,none,none,none,none,none,none]=some (.rt (.bl true)):=by
  rw[lb,eh];simp[O,y];rw[OU,eh];simp[B,L];rw[OT,eh];simp[Z,A];rw[OS,eh];simp[C,H];rw[OR,eh];simp;rw[OQ,eh];simp[V];rw[OP,eh];simp[w,p,ak,j];rw[OO];simp[b]
 rw[U];rfl
end Lw
end
noncomputable section
namespace Op
open PySem PySem.W PyProof.Rows PySem.Calls
noncomputable abbrev pg:P7:=PySem.Challenge.pw_duskbook_k67_whole_step_by_step
noncomputable def eO(i j:Nat):Stmt:=L2.inClass (Lw.top i) j
abbrev en(P:Params)(x:Str)(t:Nat)(v:Value):DictEntry:=⟨PyData.keyHash P x,.str x t,v⟩
abbrev fn(e a:Str)(s:Stmt)(i k c h:Value)(f:Option Addr)(d j:Value)(g b:Nat):Data:=.func ⟨e,a,L2.aGa s,.stmts (L2.aFa s),L2.aDa s,g,[],i,k,c,h,f,d,j,b⟩
noncomputable abbrev tu(l:AC):Obj:=⟨.type "tuple",none,.seq ⟨l⟩ 0,#[]⟩
noncomputable abbrev oK(x:Str)(t l b k e:Nat):Obj:=⟨.type "code",none,.fields #[.str x t,.str x (t+1),.str "/claim/cut.py" (t+2),.int l 0,.int 0 0,.int 0 0,.int 0 0,.int 0 0,.ref b,.bool false,.int k 0,.ref (b+1),.none,.none,.none,.none,.int e 0,.int l 0,.str "/claim/cut.py" (e+1)],#[]⟩
noncomputable abbrev oQ(x q:Str)(t l n b:Nat)(u v:Value)(c k e:Nat):Obj:=⟨.type "code",none,.fields #[.str x t,.str q (t+1),.str "/claim/cut.py" (t+2),.int l 0,.int n 0,.int 0 0,.int 0 0,.int 3 0,.ref b,.bool true,.int k 0,.ref (b+1),.none,u,v,.ref c,.int e 0,.int l 0,.str "/claim/cut.py" (e+1)],#[]⟩
noncomputable abbrev oX(a b:Nat)(x:Str)(t:Nat):Obj:=⟨.type "frame",none,.plain,#[some (.ref a),some (.ref 3),some (.ref b),none,some (.str x t),none,some (.ref 0)]⟩
noncomputable abbrev oP:Obj:=⟨.type "builtin_function_or_method",none,.fields #[.builtin "type.__prepare__",.type "type"],#[]⟩
noncomputable abbrev oI(a:Nat):Obj:=⟨.type "builtin_function_or_method",none,.fields #[.builtin "object.__init_subclass__",.ref a],#[]⟩
noncomputable abbrev oS(a:Nat):Obj:=⟨.type "super",none,.fields #[.ref a,.ref a,.ref a],#[]⟩
noncomputable abbrev oD(l:Array DictEntry)(n:Nat):Obj:=⟨.type "dict",none,.dict l n,#[]⟩
abbrev iz(n:Int):Value:=.int n 0
noncomputable abbrev rf(n:Nat):Value:=.ref n
abbrev Z'(P:Params)(x:Str)(t n:Nat):=en P x t (rf n)
noncomputable abbrev fl:Obj:=⟨.none,none,.fields #[],#[]⟩
abbrev oZ(x:Str)(i:Nat):Obj:=⟨.none,none,fn x x (Lw.top i) .none .none .none .none none .none .none 0 0,#[]⟩
abbrev oF(x:Str)(i:Nat)(d:Value)(c:Nat):Obj:=⟨.type "function",none,.func (fnOf x x (L2.aGa (Lw.top i)) (L2.aFa (Lw.top i)) (L2.aDa (Lw.top i)) .none .none .none d none (.ref c) .none),#[]⟩
abbrev oM(x q:Str)(i j:Nat)(d:Value)(c:Nat):Obj:=⟨.type "function",none,.func (fnOf x q (L2.aGa (L2.inClass (Lw.top i) j)) (L2.aFa (L2.inClass (Lw.top i) j)) (L2.aDa (L2.inClass (Lw.top i) j)) .none .none .none d none (.ref c) .none),#[]⟩
noncomputable abbrev oC(x:Str)(t l n b:Nat)(u v:Value)(c k e:Nat):Obj:=⟨.type "code",none,.fields #[.str x t,.str x (t+1),.str "/claim/cut.py" (t+2),.int (.ofNat l) 0,.int (.ofNat n) 0,.int 0 0,.int 0 0,.int 3 0,.ref b,.bool true,.int (.ofNat k) 0,.ref (b+1),.none,u,v,.ref c,.int (.ofNat e) 0,.int (.ofNat l) 0,.str "/claim/cut.py" (e+1)],#[]⟩
abbrev p0:Value:=.str "__main__" 164
abbrev p1:Value:=.str "duskbook.roads" 194
abbrev p2:Value:=.str "duskbook.blends" 231
abbrev p3:Value:=.str "duskbook.parts" 258
abbrev p4:Value:=.str "duskbook.adding" 269
abbrev p5:Value:=.str "duskbook.books" 370
abbrev p6:Value:=.str "duskbook.deriving" 487
abbrev p7:Value:=.str "duskbook.storming" 529
abbrev p8:Value:=.str "duskbook.eitherways" 537
abbrev p9:Value:=.str "duskbook.keeping" 631
abbrev gU:Value:=.str "duskbook.ifways" 650
abbrev jF:Value:=.str "duskbook.sumways" 700
abbrev d3:Value:=.str "duskbook.watches" 746
abbrev eP:Value:=.str "law_duskbook_k67_whole_step_by_step" 839
def ZX(P:Params):List DictEntry:=[en P "__doc__" 166 .none,en P "__package__" 167 .none,en P "__loader__" 168 (.builtin "__main__.__loader__#opaque"),en P "__spec__" 169 .none,Z' P "__annotations__" 170 6,Z' P "__builtins__" 171 4,en P "__file__" 173 (.str "/claim/cut.py" 172),en P "__cached__" 174 .none,Z' P "_wall" 193 21,Z' P "contrary" 202 28,Z' P "led_to" 208 33,Z' P "traced" 218 40,Z' P "ways_from" 230 47,Z' P "EXCHANGED_KINDS" 245 48,Z' P "exchanged_rule" 251 53,Z' P "exchanged" 257 58,Z' P "HANDS" 262 59,Z' P "beacons_with" 268 64,Z' P "both_added" 278 71,Z' P "pairs_added" 286 78,Z' P "cleared" 295 85,Z' P "reduced" 301 90,Z' P "DuskError" 321 100,Z' P "NoHands" 337 113,Z' P "Over" 353 125,Z' P "NoLight" 369 137,en P "BEACON_COUNT" 373 (.int (60) 372),Z' P "either_holds" 379 144,Z' P "sum_holds" 385 149,Z' P "if_holds" 391 154,Z' P "rule_holds" 400 161,Z' P "broken_rules" 406 166,Z' P "holds" 414 173,Z' P "beacons_in" 420 178,Z' P "beacons_of" 429 185,Z' P "is_void" 437 192,Z' P "without" 443 197,Z' P "either_left" 449 202,Z' P "sum_left" 460 209,Z' P "if_left" 470 216]
def ZY(P:Params):List DictEntry:=[Z' P "rule_left" 480 223,Z' P "left_behind" 486 228,Z' P "is_place" 496 235,Z' P "body_is_known" 502 240,Z' P "is_step" 512 247,Z' P "step_to_more" 522 254,Z' P "derived_in_full" 528 259,Z' P "is_broken" 536 264,Z' P "sayings_of" 547 271,Z' P "lead_to_one_another" 556 278,Z' P "clash_found" 565 285,Z' P "cross_found" 575 292,Z' P "late_found" 586 299,Z' P "storms_paper" 592 304,Z' P "free_saying" 601 311,Z' P "truths_made" 613 318,Z' P "plan_row" 624 325,Z' P "either_outcome" 630 330,Z' P "replaced" 643 337,Z' P "ahead_of" 649 342,Z' P "places_to_none" 661 349,Z' P "places_to_beacon" 667 354,Z' P "some_of" 673 359,Z' P "facts_beside" 682 366,Z' P "if_outcome" 699 373,Z' P "last_beacon" 708 380,Z' P "storms_places" 714 385,Z' P "sum_rows" 720 390,Z' P "sum_outcome" 733 397,Z' P "outcome" 745 405,Z' P "is_hand" 754 412,Z' P "check_hands" 760 417,Z' P "Watch" 838 476,Z' P "_law_cell" 848 487,Z' P "_law_mixed" 856 494,Z' P "_law_hands" 862 499,Z' P "_law_own" 868 504,Z' P "_law_rule" 874 509,Z' P "_law_hand" 884 516,Z' P "_law_steps" 900 523]
def ZZ(P:Params):List DictEntry:=[Z' P "law" 906 528]
def et(P:Params):List DictEntry:=ZX P++ZY P++ZZ P
abbrev ns(P:Params)(x:DictEntry)(n k:Nat):Obj:=⟨.type "dict",none,.dict ⟨x::(et P).take n⟩ k,#[]⟩
def Z0:AC:=[iz 1,iz 0,rf 20,iz 5,iz 0,rf 27,iz 7,iz 0,rf 32,iz 15,iz 0,rf 39,iz 22,iz 0,rf 46,iz 35,iz 0,rf 52,iz 41,iz 0,rf 57,iz 46,iz 0,rf 63,iz 49,iz 0,rf 70,iz 51,iz 0,rf 77,iz 53,iz 0,rf 84,iz 58,iz 0,rf 89,iz 70,iz 0,rf 96,iz 72]
def Z1:AC:=[iz 0,rf 109,iz 74,iz 0,rf 121,iz 76,iz 0,rf 133,iz 80,iz 0,rf 143,iz 82,iz 0,rf 148,iz 85,iz 0,rf 153,iz 89,iz 0,rf 160,iz 95,iz 0,rf 165,iz 97,iz 0,rf 172,iz 99,iz 0,rf 177,iz 105,iz 0,rf 184,iz 110,iz 0,rf 191,iz 112,iz 0,rf 196,iz 114,iz 0]
def Z2:AC:=[rf 201,iz 118,iz 0,rf 208,iz 124,iz 0,rf 215,iz 131,iz 0,rf 222,iz 139,iz 0,rf 227,iz 143,iz 0,rf 234,iz 145,iz 0,rf 239,iz 147,iz 0,rf 246,iz 152,iz 0,rf 253,iz 157,iz 0,rf 258,iz 167,iz 0,rf 263,iz 170,iz 0,rf 270,iz 175,iz 0,rf 277,iz 177,iz 0,rf 284]
def Z3:AC:=[iz 183,iz 0,rf 291,iz 189,iz 0,rf 298,iz 195,iz 0,rf 303,iz 201,iz 0,rf 310,iz 204,iz 0,rf 317,iz 212,iz 0,rf 324,iz 217,iz 0,rf 329,iz 227,iz 0,rf 336,iz 233,iz 0,rf 341,iz 236,iz 0,rf 348,iz 241,iz 0,rf 353,iz 246,iz 0,rf 358,iz 248,iz 0,rf 365,iz 250]
def Z4:AC:=[iz 0,rf 372,iz 267,iz 0,rf 379,iz 269,iz 0,rf 384,iz 274,iz 0,rf 389,iz 282,iz 0,rf 396,iz 291,iz 0,rf 404,iz 300,iz 0,rf 411,iz 302,iz 0,rf 416,iz 309,iz 0,rf 423,iz 347,iz 0,rf 486,iz 351,iz 0,rf 493,iz 353,iz 0,rf 498,iz 356,iz 0,rf 503,iz 358,iz 0]
def Z5:AC:=[rf 508,iz 378,iz 0,rf 515,iz 383,iz 0,rf 522,iz 397,iz 0,rf 527]
def ff:AC:=Z0++Z1++Z2++Z3++Z4++Z5
abbrev ft(n:Nat):Obj:=⟨.none,none,.fields ⟨ff.take n⟩,#[]⟩
abbrev dF(x:Str)(i l n t b:Nat)(a:Value)(k:Nat):List Obj:=[tu [],fl,oZ x i,oC x t l n b .none .none (b+2) k (t+3),oF x i a (b+3)]
abbrev dG(x:Str)(i l n t b:Nat)(a:Value)(k:Nat)(u:AC):List Obj:=[tu [],fl,tu u,tu [],oZ x i,oC x t l n b (.ref (b+2)) (.ref (b+3)) (b+4) k (t+3+u.length),oF x i a (b+5)]
def Z6(P:Params):List Obj:=[boot_o_0 P,boot_o_1 P,boot_o_2 P,ns P (en P "__name__" 165 (.str "law_duskbook_k67_whole_step_by_step" 839)) 81 82,boot_o_4 P,boot_o_5 P,boot_o_6 P,boot_o_7 P,boot_o_8 P,boot_o_9 P,boot_o_10 P,tu [],ft 210,oK "<module>" 182 1 11 181 185,oX 13 3 "__main__" 164]++(dG "_wall" 0 1 1 187 15 p0 181 [.str "k" 190]++(dG "contrary" 2 5 1 196 22 p1 181 [.str "saying" 199]++(dF "led_to" 3 7 2 203 29 p1 181++(dG "traced" 4 15 2 209 34 p1 181 [.str "ahead" 212,.str "last" 213,.str "road" 214,.str "saying" 215]++(dG "ways_from" 5 22 2 219 41 p1 181 [.str "book" 222,.str "saying" 223,.str "ahead" 224,.str "reached" 225,.str "place" 226,.str "led" 227]++([(oD #[en P "eithers" 233 (.str "eithers" 234),en P "sums" 235 (.str "sums" 236),en P "ifs" 237 (.str "nots" 238),en P "nots" 239 (.str "ifs" 240)] 4)]++(dF "exchanged_rule" 8 35 2 246 49 p2 181++(dF "exchanged" 9 41 1 252 54 p2 181++([tu [.str "keeper" 260,.str "storm" 261]]++(dF "beacons_with" 12 46 3 263 60 p3 181++(dG "both_added" 14 49 2 271 65 p4 181 [.str "rule" 274,.str "other" 275]++(dG "pairs_added" 15 51 2 279 72 p4 181 [.str "pair" 282,.str "other" 283]++(dG "cleared" 16 53 2 287 79 p4 181 [.str "pair" 290,.str "by_last" 291,.str "left" 292]++(dF "reduced" 17 58 1 296 86 p4 181++([tu [.type "ValueError"],oP,(oD #[en P "__module__" 311 (.str "duskbook.errors" 302),en P "__qualname__" 313 (.str "DuskError" 312),en P "__firstlineno__" 315 (.int (70) 314),Z' P "__static_attributes__" 316 98] 4),tu [],fl,oK "DuskError" 306 70 94 181 309,oX 96 93 "duskbook.errors" 302,tu [],(oD #[en P "__module__" 311 (.str "duskbook.errors" 302),en P "__firstlineno__" 315 (.int (70) 314),Z' P "__static_attributes__" 316 98,Z' P "__weakref__" 318 101,en P "__doc__" 319 .none] 3),⟨.type "type",none,(.cls ⟨"DuskError",[.type "ValueError"],[rf 100,.type "ValueError",.type "Exception",.type "BaseException",.type "object"],99,"DuskError",true,[],[rf 113,rf 125,rf 137],false,none,false⟩),#[(some (rf 91)),none,(some (.str "DuskError" 304)),(some (.str "DuskError" 312)),(some (.builtin "ValueError.__new__")),(some (.bool true))]⟩,⟨.type "getset_descriptor",none,(.fields #[.str "__weakref__" 317,rf 100,.builtin "ExceptionGroup.__weakref__",.none]),#[]⟩,oS 100,oI 100,tu [rf 100],oP,(oD #[en P "__module__" 329 (.str "duskbook.errors" 302),en P "__qualname__" 331 (.str "NoHands" 330),en P "__firstlineno__" 333 (.int (72) 332),Z' P "__static_attributes__" 334 111] 4),tu [],fl,oK "NoHands" 324 72 107 181 327,oX 109 106 "duskbook.errors" 302,tu [],(oD #[en P "__module__" 329 (.str "duskbook.errors" 302),en P "__firstlineno__" 333 (.int (72) 332),Z' P "__static_attributes__" 334 111,en P "__doc__" 335 .none] 2),⟨.type "type",none,(.cls ⟨"NoHands",[rf 100],[rf 113,rf 100,.type "ValueError",.type "Exception",.type "BaseException",.type "object"],112,"NoHands",true,[],[],false,none,false⟩),#[(some (rf 104)),none,(some (.str "NoHands" 322)),(some (.str "NoHands" 330)),(some (.builtin "ValueError.__new__")),(some (.bool true))]⟩,oS 113,oI 113,tu [rf 100],oP,(oD #[en P "__module__" 345 (.str "duskbook.errors" 302),en P "__qualname__" 347 (.str "Over" 346),en P "__firstlineno__" 349 (.int (74) 348),Z' P "__static_attributes__" 350 123] 4),tu [],fl,oK "Over" 340 74 119 181 343,oX 121 118 "duskbook.errors" 302,tu [],(oD #[en P "__module__" 345 (.str "duskbook.errors" 302),en P "__firstlineno__" 349 (.int (74) 348),Z' P "__static_attributes__" 350 123,en P "__doc__" 351 .none] 2),⟨.type "type",none,(.cls ⟨"Over",[rf 100],[rf 125,rf 100,.type "ValueError",.type "Exception",.type "BaseException",.type "object"],124,"Over",true,[],[],false,none,false⟩),#[(some (rf 116)),none,(some (.str "Over" 338)),(some (.str "Over" 346)),(some (.builtin "ValueError.__new__")),(some (.bool true))]⟩,oS 125,oI 125,tu [rf 100],oP,(oD #[en P "__module__" 361 (.str "duskbook.errors" 302),en P "__qualname__" 363 (.str "NoLight" 362),en P "__firstlineno__" 365 (.int (76) 364),Z' P "__static_attributes__" 366 135] 4)]++([tu [],fl,oK "NoLight" 356 76 131 181 359,oX 133 130 "duskbook.errors" 302,tu [],(oD #[en P "__module__" 361 (.str "duskbook.errors" 302),en P "__firstlineno__" 365 (.int (76) 364),Z' P "__static_attributes__" 366 135,en P "__doc__" 367 .none] 2),⟨.type "type",none,(.cls ⟨"NoLight",[rf 100],[rf 137,rf 100,.type "ValueError",.type "Exception",.type "BaseException",.type "object"],136,"NoLight",true,[],[],false,none,false⟩),#[(some (rf 128)),none,(some (.str "NoLight" 354)),(some (.str "NoLight" 362)),(some (.builtin "ValueError.__new__")),(some (.bool true))]⟩,oS 137,oI 137]++(dF "either_holds" 25 80 2 374 140 p5 181++(dF "sum_holds" 26 82 2 380 145 p5 181++(dF "if_holds" 27 85 3 386 150 p5 181++(dG "rule_holds" 28 89 3 392 155 p5 181 [.str "kind" 395,.str "rule" 396,.str "evening" 397]++(dF "broken_rules" 29 95 2 401 162 p5 181++(dG "holds" 30 97 2 407 167 p5 181 [.str "book" 410,.str "evening" 411]++(dF "beacons_in" 31 99 2 415 174 p5 181++(dG "beacons_of" 32 105 1 421 179 p5 181 [.str "book" 424,.str "found" 425,.str "rule" 426]))))))))))))))))))))))))
def Z7(P:Params):List Obj:=dG "is_void" 33 110 2 430 186 p5 181 [.str "kind" 433,.str "rule" 434]++(dF "without" 34 112 2 438 193 p5 181++(dF "either_left" 35 114 3 444 198 p5 181++(dG "sum_left" 36 118 3 450 203 p5 181 [.str "rule" 453,.str "beacon" 454,.str "lit" 455,.str "beacons" 456,.str "odd" 457]++(dG "if_left" 37 124 3 461 210 p5 181 [.str "rule" 464,.str "beacon" 465,.str "so" 466,.str "head" 467]++(dG "rule_left" 38 131 4 471 217 p5 181 [.str "kind" 474,.str "rule" 475,.str "beacon" 476,.str "lit" 477]++(dF "left_behind" 39 139 3 481 224 p5 181++(dG "is_place" 41 143 2 489 229 p6 181 [.str "book" 492,.str "place" 493]++(dF "body_is_known" 42 145 2 497 236 p6 181++(dG "is_step" 43 147 3 503 241 p6 181 [.str "book" 506,.str "known" 507,.str "place" 508,.str "rule" 509]++(dG "step_to_more" 44 152 2 513 248 p6 181 [.str "book" 516,.str "known" 517,.str "place" 518,.str "rule" 519]++(dF "derived_in_full" 45 157 2 523 255 p6 181++(dF "is_broken" 47 167 1 531 260 p7 181++(dG "sayings_of" 49 170 1 539 265 p8 181 [.str "beacons" 542,.str "sayings" 543,.str "beacon" 544]++(dG "lead_to_one_another" 50 175 3 548 272 p8 181 [.str "ways" 551,.str "saying" 552,.str "other" 553]++(dG "clash_found" 51 177 1 557 279 p8 181 [.str "ways" 560,.str "saying" 561,.str "other" 562]++(dG "cross_found" 52 183 2 566 286 p8 181 [.str "ways" 569,.str "storms" 570,.str "saying" 571,.str "other" 572]++(dG "late_found" 53 189 3 576 293 p8 181 [.str "ways" 579,.str "keepers" 580,.str "storms" 581,.str "saying" 582,.str "other" 583]++(dF "storms_paper" 54 195 4 587 300 p8 181++(dG "free_saying" 55 201 2 593 305 p8 181 [.str "keeper" 596,.str "ways" 597,.str "dark" 598]++(dG "truths_made" 56 204 3 602 312 p8 181 [.str "ways" 605,.str "keepers" 606,.str "storms" 607,.str "truths" 608,.str "saying" 609,.str "keeper" 610]++(dG "plan_row" 57 212 4 614 319 p8 181 [.str "keeper" 617,.str "ways" 618,.str "storms" 619,.str "truths" 620,.str "saying" 621]++(dF "either_outcome" 58 217 3 625 326 p8 181++(dG "replaced" 60 227 2 633 331 p9 181 [.str "rule" 636,.str "sums" 637,.str "whole" 638,.str "beacon" 639,.str "row" 640]++(dF "ahead_of" 61 233 2 644 338 p9 181))))))))))))))))))))))))
def Z8(P:Params):List Obj:=dG "places_to_none" 63 236 2 652 343 gU 181 [.str "book" 655,.str "full" 656,.str "place" 657,.str "rule" 658]++(dF "places_to_beacon" 64 241 3 662 350 gU 181++(dF "some_of" 65 246 2 668 355 gU 181++(dG "facts_beside" 66 248 3 674 360 gU 181 [.str "beacon" 677,.str "storms" 678,.str "first" 679]++(dG "if_outcome" 67 250 3 683 367 gU 181 [.str "book" 686,.str "hands" 687,.str "start" 688,.str "keepers" 689,.str "storms" 690,.str "whole" 691,.str "places" 692,.str "first" 693,.str "rows" 694,.str "beacon" 695,.str "full" 696]++(dG "last_beacon" 69 267 1 702 374 jF 181 [.str "pair" 705]++(dF "storms_places" 70 269 3 709 381 jF 181++(dF "sum_rows" 71 274 2 715 386 jF 181++(dG "sum_outcome" 72 282 3 721 391 jF 181 [.str "book" 724,.str "hands" 725,.str "start" 726,.str "keepers" 727,.str "storms" 728,.str "answer" 729,.str "places" 730]++([tu [(.int (0) 736)],tu [],fl,tu [.str "book" 740,.str "hands" 741,.str "start" 742],tu [],oZ "outcome" 74,oC "outcome" 737 291 3 399 (rf 401) (rf 402) 403 181 743,⟨.type "function",none,(fn "outcome" "outcome" (Lw.top 74) (rf 398) .none .none (.str "duskbook.outcomes" 734) none (rf 404) .none 3 0),#[]⟩]++(dG "is_hand" 76 300 1 748 406 d3 181 [.str "thing" 751]++(dF "check_hands" 77 302 2 755 413 d3 181++([tu [],oP,(oD #[en P "__module__" 768 (.str "duskbook.watches" 746),en P "__qualname__" 770 (.str "Watch" 769),en P "__firstlineno__" 772 (.int (309) 771),Z' P "__init__" 781 431,Z' P "turn" 788 438,Z' P "evening" 795 445,Z' P "left" 805 452,Z' P "winner" 812 459,Z' P "settle" 820 466,Z' P "back" 827 473,Z' P "__static_attributes__" 831 474] 11),tu [],⟨.none,none,(.fields #[iz 311,iz 4,rf 430,iz 317,iz 4,rf 437,iz 322,iz 4,rf 444,iz 325,iz 4,rf 451,iz 331,iz 4,rf 458,iz 336,iz 4,rf 465,iz 344,iz 4,rf 472]),#[]⟩,oK "Watch" 763 309 421 181 766,oX 423 420 "duskbook.watches" 746,tu [],fl,tu [.str "self" 776,.str "book" 777,.str "hands" 778],tu [],⟨.none,none,(fn "__init__" "Watch.__init__" (eO 78 0) .none .none .none .none none .none .none 0 0),#[]⟩,(oQ "__init__" "Watch.__init__" 773 311 3 425 (rf 427) (rf 428) 429 181 779),oM "__init__" "Watch.__init__" 78 0 d3 430,tu [],fl,tu [.str "self" 785],tu [],⟨.none,none,(fn "turn" "Watch.turn" (eO 78 1) .none .none .none .none none .none .none 0 0),#[]⟩,(oQ "turn" "Watch.turn" 782 317 1 432 (rf 434) (rf 435) 436 181 786),oM "turn" "Watch.turn" 78 1 d3 437,tu [],fl,tu [.str "self" 792],tu [],⟨.none,none,(fn "evening" "Watch.evening" (eO 78 2) .none .none .none .none none .none .none 0 0),#[]⟩,(oQ "evening" "Watch.evening" 789 322 1 439 (rf 441) (rf 442) 443 181 793),oM "evening" "Watch.evening" 78 2 d3 444,tu [],fl,tu [.str "self" 799,.str "book" 800,.str "beacon" 801,.str "lit" 802],tu [],⟨.none,none,(fn "left" "Watch.left" (eO 78 3) .none .none .none .none none .none .none 0 0),#[]⟩,(oQ "left" "Watch.left" 796 325 1 446 (rf 448) (rf 449) 450 181 803),oM "left" "Watch.left" 78 3 d3 451,tu [],fl,tu [.str "self" 809],tu [],⟨.none,none,(fn "winner" "Watch.winner" (eO 78 4) .none .none .none .none none .none .none 0 0),#[]⟩]++([(oQ "winner" "Watch.winner" 806 331 1 453 (rf 455) (rf 456) 457 181 810),oM "winner" "Watch.winner" 78 4 d3 458,tu [],fl,tu [.str "self" 816,.str "lit" 817],tu [],⟨.none,none,(fn "settle" "Watch.settle" (eO 78 5) .none .none .none .none none .none .none 0 0),#[]⟩,(oQ "settle" "Watch.settle" 813 336 2 460 (rf 462) (rf 463) 464 181 818),oM "settle" "Watch.settle" 78 5 d3 465,tu [],fl,tu [.str "self" 824],tu [],⟨.none,none,(fn "back" "Watch.back" (eO 78 6) .none .none .none .none none .none .none 0 0),#[]⟩,(oQ "back" "Watch.back" 821 344 1 467 (rf 469) (rf 470) 471 181 825),oM "back" "Watch.back" 78 6 d3 472,tu [.str "book" 828,.str "hands" 829,.str "truths" 830],(oD #[en P "__module__" 768 (.str "duskbook.watches" 746),en P "__firstlineno__" 772 (.int (309) 771),Z' P "__init__" 781 431,Z' P "turn" 788 438,Z' P "evening" 795 445,Z' P "left" 805 452,Z' P "winner" 812 459,Z' P "settle" 820 466,Z' P "back" 827 473,Z' P "__static_attributes__" 831 474,Z' P "__dict__" 833 477,Z' P "__weakref__" 835 478,en P "__doc__" 836 .none] 4),⟨.type "type",none,(.cls ⟨"Watch",[.type "object"],[rf 476,.type "object"],475,"Watch",true,[],[],false,none,false⟩),#[none,none,(some (.str "Watch" 761)),(some (.str "Watch" 769)),(some (.builtin "object.__new__")),(some (.bool true))]⟩,⟨.type "getset_descriptor",none,(.fields #[.str "__dict__" 832,rf 476,.builtin "function.__dict__",.builtin "function.__dict__#set"]),#[]⟩,⟨.type "getset_descriptor",none,(.fields #[.str "__weakref__" 834,rf 476,.builtin "ExceptionGroup.__weakref__",.none]),#[]⟩,oS 476,oI 476]++(dG "_law_cell" 80 347 2 841 481 eP 181 [.str "script" 844,.str "k" 845]++(dG "_law_mixed" 81 351 2 849 488 eP 181 [.str "cell" 852,.str "by" 853]++(dF "_law_hands" 82 353 2 857 495 eP 181++(dF "_law_own" 83 356 3 863 500 eP 181++(dF "_law_rule" 84 358 4 869 505 eP 181++(dG "_law_hand" 85 378 3 875 510 eP 181 [.str "book" 878,.str "hands" 879,.str "start" 880,.str "found" 881]++(dG "_law_steps" 86 383 3 885 517 eP 181 [.str "book" 888,.str "hands" 889,.str "lights" 890,.str "watch" 891,.str "beacon" 892,.str "left" 893,.str "hand" 894,.str "dark" 895,.str "lit" 896,.str "due" 897]++(dF "law" 87 397 1 901 524 eP 181)))))))))))))))))))))
def al(P:Params):List Obj:=Z6 P++Z7 P++Z8 P
noncomputable def upd(l:List (Nat×Obj))(xs:List Obj):List Obj:=l.foldl (λxs p=>xs.set p.1 p.2) xs
noncomputable def ev:List Obj->List Obj
 | []=>[]
 | [x]=>[x]
 | x::_::r=>x::ev r
noncomputable def bt:Nat->List Obj->BT
 | 0,_=>.nil
 | _+1,[]=>.nil
 | n+1,x::xs=>.node x (bt n (ev xs)) (bt n (ev xs.tail))
abbrev bd:List Stmt:=behindTheImports pg
abbrev sl(i n:Nat):List Stmt:=(bd.drop i).take n
abbrev env:Env:={scope:=pg.main.scope,locals:=mainNs,globals:=mainNs,cells:=[],code:=(rf 13),frame:=some 14}
abbrev cE:Code:=.body bd env
noncomputable abbrev B:List Frame:=[topFrame ⟨0,0,0,0⟩]
abbrev ss(n:Nat)(l:Params->List (Nat×Obj))(t:Nat)(w:World)(os:OsState):SharedT:=⟨bt 12 (upd (l w.params) ((al w.params).take n)),n,{},.mk [],boot_drawn,t,os⟩
def h0(P:Params):Heap:=⟨⟨upd [(3,boot_o_3 P),(12,fl)] ((al P).take 15)⟩,{}⟩
abbrev s0(w:World)(os:OsState):Shared:=⟨h0 w.params,.mk [],boot_drawn,187,os⟩
abbrev s1:World->OsState->SharedT:=ss 15 (λP=>[(3,boot_o_3 P),(12,fl)]) 187
abbrev s2:World->OsState->SharedT:=ss 72 (λP=>[(3,ns P (en P "__name__" 165 (.str "duskbook.adding" 269)) 19 20),(12,ft 27)]) 279
abbrev s3:World->OsState->SharedT:=ss 104 (λP=>[(3,ns P (en P "__name__" 165 (.str "duskbook.errors" 302)) 23 24),(12,ft 39),(100,⟨.type "type",none,(.cls ⟨"DuskError",[.type "ValueError"],[rf 100,.type "ValueError",.type "Exception",.type "BaseException",.type "object"],99,"DuskError",true,[],[],false,none,false⟩),#[(some (rf 91)),none,(some (.str "DuskError" 304)),(some (.str "DuskError" 312)),(some (.builtin "ValueError.__new__")),(some (.bool true))]⟩)]) 322
abbrev s4:World->OsState->SharedT:=ss 116 (λP=>[(3,ns P (en P "__name__" 165 (.str "duskbook.errors" 302)) 24 25),(12,ft 42),(100,⟨.type "type",none,(.cls ⟨"DuskError",[.type "ValueError"],[rf 100,.type "ValueError",.type "Exception",.type "BaseException",.type "object"],99,"DuskError",true,[],[rf 113],false,none,false⟩),#[(some (rf 91)),none,(some (.str "DuskError" 304)),(some (.str "DuskError" 312)),(some (.builtin "ValueError.__new__")),(some (.bool true))]⟩)]) 338
abbrev s5:World->OsState->SharedT:=ss 128 (λP=>[(3,ns P (en P "__name__" 165 (.str "duskbook.errors" 302)) 25 26),(12,ft 45),(100,⟨.type "type",none,(.cls ⟨"DuskError",[.type "ValueError"],[rf 100,.type "ValueError",.type "Exception",.type "BaseException",.type "object"],99,"DuskError",true,[],[rf 113,rf 125],false,none,false⟩),#[(some (rf 91)),none,(some (.str "DuskError" 304)),(some (.str "DuskError" 312)),(some (.builtin "ValueError.__new__")),(some (.bool true))]⟩)]) 354
abbrev s6:World->OsState->SharedT:=ss 174 (λP=>[(3,ns P (en P "__name__" 165 (.str "duskbook.books" 370)) 33 34),(12,ft 66)]) 415
abbrev s7:World->OsState->SharedT:=ss 255 (λP=>[(3,ns P (en P "__name__" 165 (.str "duskbook.deriving" 487)) 46 47),(12,ft 105)]) 523
abbrev s8:World->OsState->SharedT:=ss 331 (λP=>[(3,ns P (en P "__name__" 165 (.str "duskbook.keeping" 631)) 58 59),(12,ft 141)]) 633
abbrev s9:World->OsState->SharedT:=ss 406 (λP=>[(3,ns P (en P "__name__" 165 (.str "duskbook.watches" 746)) 70 71),(12,ft 177)]) 748
abbrev QI:World->OsState->SharedT:=ss 418 (λP=>[(3,ns P (en P "__name__" 165 (.str "duskbook.watches" 746)) 72 73),(12,ft 183)]) 761
abbrev QJ:World->OsState->SharedT:=ss 481 (λP=>[(3,ns P (en P "__name__" 165 (.str "duskbook.watches" 746)) 73 74),(12,ft 186)]) 839
abbrev J7:World->OsState->SharedT:=ss 529 (λP=>[]) 907
def tm(P:Params):Heap:=⟨⟨upd [] ((al P).take 529)⟩,{}⟩
abbrev mQ(w:World)(os:OsState):Shared:=⟨tm w.params,.mk [],boot_drawn,907,os⟩
abbrev sz(w:World)(os:OsState):Shared:=⟨boot_heap w.params,.mk [],boot_drawn,boot_toks,os⟩
def e0:∀w:World,(λos=>topGo treeTable pg w 11 (some (rf 6)) 12 (sz w os) (topStub pg))=λos=>some (s0 w os,⟨denote treeTable cE,cE,⟨0,0,0,0⟩,B⟩):=by
 rw[W.Fast.te15667345088766844465,W.Fast.te14364793385576792824,W.Fast.te11892475500146522536];intro w;kernel_rfl
def e1:∀w:World,(λos=>segRun treeTable pg w 11 (some (rf 6)) 1 1 (s0 w os) (blockOf bd env cE ⟨0,0,0,0⟩ B))=λos=>some (.next,(s1 w os).abs,cE,⟨0,0,0,0⟩):=by
 rw[W.Fast.te14374325043358763698,W.Fast.te14364793385576792824];intro w;kernel_rfl
abbrev EK(m:Nat)(s u:World->OsState->SharedT)(i n:Nat)(p q:Pos):Prop:=∀w:World,(λos=>segRunT treeTable pg w 11 (some (rf 6)) 1 m (s w os) (piecesOf (sl i n) env cE p B))=λos=>some (.next,u w os,cE,q)
local macro_rules | `(tactic| and_intros)=>`(tactic| (unfold EK;rw[W.Fast.te10110043849684766642,W.Fast.te14364793385576792824];intro w;kernel_rfl))
def e2:EK 377 s1 s2 0 15 ⟨0,0,0,0⟩ ⟨49,0,50,77⟩:=by
 unfold EK;rw[W.Fast.te10110043849684766642,W.Fast.te14364793385576792824];refine byRow2 "special-get-raises" ?_ ?_<;>(intro w;kernel_rfl)
def e3:EK 283 s2 s3 15 5 ⟨49,0,50,77⟩ ⟨70,0,71,8⟩:=by
 and_intros
def e4:EK 214 s3 s4 20 1 ⟨70,0,71,8⟩ ⟨72,0,73,8⟩:=by
 and_intros
def e5:EK 214 s4 s5 21 1 ⟨72,0,73,8⟩ ⟨74,0,75,8⟩:=by
 and_intros
def e6:EK 397 s5 s6 22 9 ⟨74,0,75,8⟩ ⟨97,0,98,48⟩:=by
 and_intros
def e7:EK 392 s6 s7 31 14 ⟨97,0,98,48⟩ ⟨152,0,156,15⟩:=by
 and_intros
def e8:EK 388 s7 s8 45 15 ⟨152,0,156,15⟩ ⟨226,0,226,8⟩:=by
 and_intros
def e9:EK 399 s8 s9 60 16 ⟨226,0,226,8⟩ ⟨299,0,299,8⟩:=by
 and_intros
def Z9:EK 56 s9 QI 76 2 ⟨299,0,299,8⟩ ⟨302,0,308,69⟩:=by
 and_intros
def Z_:EK 416 QI QJ 78 1 ⟨302,0,308,69⟩ ⟨309,0,345,16⟩:=by
 and_intros
def e12:EK 244 QJ J7 79 9 ⟨309,0,345,16⟩ ⟨397,0,405,63⟩:=by
 and_intros
def e13:∀w:World,(λos=>topRun treeTable pg w 11 (some (rf 6)) 2 (J7 w os).abs ⟨doneF .next,cE,⟨397,0,405,63⟩,B⟩)=λos=>some (mQ w os):=by
 rw[W.Fast.te14082659384304107361,W.Fast.te14364793385576792824];intro w;kernel_rfl
abbrev R(w:World)(os:OsState)(m:Nat)(s:Shared)(t:List Stmt)(p:Pos):Prop:=topRun treeTable pg w 11 (some (rf 6)) m s (restOf t env cE p B)=some (mQ w os)
def rk{m M i n:Nat}{s u:World->OsState->SharedT}{T:List Stmt}{p q:Pos}{w:World}{os:OsState}(h:EK m s u i n p q)(r:R w os M (u w os).abs T q):R w os (m+M) (s w os).abs (sl i n++T) p:=piece_app (segRun_of (congrFun (h w) os)) r
def rj{m:Nat}{s:Shared}{T:List Stmt}{p:Pos}{w:World}{os:OsState}(r:R w os m s T p)(h:T=bd):R w os m s bd p:=h ▸ r
def run(w:World)(os:OsState):topRun treeTable pg w 11 (some (rf 6)) (12+(1+(377+(283+(214+(214+(397+(392+(388+(399+(56+(416+(244+2))))))))))))) (sz w os) (topStub pg)=some (mQ w os):=
 go_top (congrFun (e0 w) os) (piece_block (congrFun (e1 w) os) (rj (rk e2 (rk e3 (rk e4 (rk e5 (rk e6 (rk e7 (rk e8 (rk e9 (rk Z9 (rk Z_ (rk e12 (show R w os 2 (J7 w os).abs [] ⟨397,0,405,63⟩ from congrFun (e13 w) os)))))))))))) (by kernel_rfl)))
def op:∀w:World,(fencedOpening treeTable pg w 6864).map (λs=>(s.heap,s.gens,s.drawn,s.toks))=some (boot_heap w.params,Array.mk [],boot_drawn,boot_toks):=
 boot_open (by kernel_rfl) (by decide) (λs=>by kernel_rfl)
def size:∀w:World,((boot_heap w.params).isNs mainGlobals&&(Array.mk []:Array GenState).size==0,(boot_heap w.params).objs.size,(boot_heap w.params).nsMap mainGlobals "__annotations__")=(true,11,(some (rf 6))):=by
 rw[W.Fast.te8920871248978507458];intro w;kernel_rfl
local macro_rules|`(-$x:num)=>`(nat_lit $x)
def K(P:Params):Frag:=(-2,boot_o_2 P)::(-3,ns P (en P "__name__" 165 (.str "law_duskbook_k67_whole_step_by_step" 839)) 81 82)::(-27,oC "contrary" 196 5 1 22 (rf 24) (rf 25) 26 181 200)::(-28,oF "contrary" 2 p1 27)::(-32,oC "led_to" 203 7 2 29 .none .none 31 181 206)::(-33,oF "led_to" 3 p1 32)::(-39,oC "traced" 209 15 2 34 (rf 36) (rf 37) 38 181 216)::(-40,oF "traced" 4 p1 39)::(-46,oC "ways_from" 219 22 2 41 (rf 43) (rf 44) 45 181 228)::(-47,oF "ways_from" 5 p1 46)::(-48,(oD #[en P "eithers" 233 (.str "eithers" 234),en P "sums" 235 (.str "sums" 236),en P "ifs" 237 (.str "nots" 238),en P "nots" 239 (.str "ifs" 240)] 4))::(-52,oC "exchanged_rule" 246 35 2 49 .none .none 51 181 249)::(-53,oF "exchanged_rule" 8 p2 52)::(-57,oC "exchanged" 252 41 1 54 .none .none 56 181 255)::(-58,oF "exchanged" 9 p2 57)::(-59,tu [.str "keeper" 260,.str "storm" 261])::(-63,oC "beacons_with" 263 46 3 60 .none .none 62 181 266)::(-64,oF "beacons_with" 12 p3 63)::(-70,oC "both_added" 271 49 2 65 (rf 67) (rf 68) 69 181 276)::(-71,oF "both_added" 14 p4 70)::(-77,oC "pairs_added" 279 51 2 72 (rf 74) (rf 75) 76 181 284)::(-78,oF "pairs_added" 15 p4 77)::(-84,oC "cleared" 287 53 2 79 (rf 81) (rf 82) 83 181 293)::(-85,oF "cleared" 16 p4 84)::(-89,oC "reduced" 296 58 1 86 .none .none 88 181 299)::(-90,oF "reduced" 17 p4 89)::(-143,oC "either_holds" 374 80 2 140 .none .none 142 181 377)::(-144,oF "either_holds" 25 p5 143)::(-148,oC "sum_holds" 380 82 2 145 .none .none 147 181 383)::(-149,oF "sum_holds" 26 p5 148)::(-153,oC "if_holds" 386 85 3 150 .none .none 152 181 389)::(-154,oF "if_holds" 27 p5 153)::(-160,oC "rule_holds" 392 89 3 155 (rf 157) (rf 158) 159 181 398)::(-161,oF "rule_holds" 28 p5 160)::(-165,oC "broken_rules" 401 95 2 162 .none .none 164 181 404)::(-166,oF "broken_rules" 29 p5 165)::(-172,oC "holds" 407 97 2 167 (rf 169) (rf 170) 171 181 412)::(-173,oF "holds" 30 p5 172)::(-177,oC "beacons_in" 415 99 2 174 .none .none 176 181 418)::(-178,oF "beacons_in" 31 p5 177)::(-184,oC "beacons_of" 421 105 1 179 (rf 181) (rf 182) 183 181 427)::(-185,oF "beacons_of" 32 p5 184)::(-191,oC "is_void" 430 110 2 186 (rf 188) (rf 189) 190 181 435)::(-192,oF "is_void" 33 p5 191)::(-196,oC "without" 438 112 2 193 .none .none 195 181 441)::(-197,oF "without" 34 p5 196)::(-201,oC "either_left" 444 114 3 198 .none .none 200 181 447)::(-202,oF "either_left" 35 p5 201)::(-208,oC "sum_left" 450 118 3 203 (rf 205) (rf 206) 207 181 458)::(-209,oF "sum_left" 36 p5 208)::(-215,oC "if_left" 461 124 3 210 (rf 212) (rf 213) 214 181 468)::(-216,oF "if_left" 37 p5 215)::(-222,oC "rule_left" 471 131 4 217 (rf 219) (rf 220) 221 181 478)::(-223,oF "rule_left" 38 p5 222)::(-227,oC "left_behind" 481 139 3 224 .none .none 226 181 484)::(-228,oF "left_behind" 39 p5 227)::(-234,oC "is_place" 489 143 2 229 (rf 231) (rf 232) 233 181 494)::(-235,oF "is_place" 41 p6 234)::(-239,oC "body_is_known" 497 145 2 236 .none .none 238 181 500)::(-240,oF "body_is_known" 42 p6 239)::(-246,oC "is_step" 503 147 3 241 (rf 243) (rf 244) 245 181 510)::(-247,oF "is_step" 43 p6 246)::(-253,oC "step_to_more" 513 152 2 248 (rf 250) (rf 251) 252 181 520)::(-254,oF "step_to_more" 44 p6 253)::(-258,oC "derived_in_full" 523 157 2 255 .none .none 257 181 526)::(-259,oF "derived_in_full" 45 p6 258)::(-263,oC "is_broken" 531 167 1 260 .none .none 262 181 534)::(-264,oF "is_broken" 47 p7 263)::(-270,oC "sayings_of" 539 170 1 265 (rf 267) (rf 268) 269 181 545)::(-271,oF "sayings_of" 49 p8 270)::(-277,oC "lead_to_one_another" 548 175 3 272 (rf 274) (rf 275) 276 181 554)::(-278,oF "lead_to_one_another" 50 p8 277)::(-284,oC "clash_found" 557 177 1 279 (rf 281) (rf 282) 283 181 563)::(-285,oF "clash_found" 51 p8 284)::(-291,oC "cross_found" 566 183 2 286 (rf 288) (rf 289) 290 181 573)::(-292,oF "cross_found" 52 p8 291)::(-298,oC "late_found" 576 189 3 293 (rf 295) (rf 296) 297 181 584)::(-299,oF "late_found" 53 p8 298)::(-303,oC "storms_paper" 587 195 4 300 .none .none 302 181 590)::(-304,oF "storms_paper" 54 p8 303)::(-310,oC "free_saying" 593 201 2 305 (rf 307) (rf 308) 309 181 599)::(-311,oF "free_saying" 55 p8 310)::(-317,oC "truths_made" 602 204 3 312 (rf 314) (rf 315) 316 181 611)::(-318,oF "truths_made" 56 p8 317)::(-324,oC "plan_row" 614 212 4 319 (rf 321) (rf 322) 323 181 622)::(-325,oF "plan_row" 57 p8 324)::(-329,oC "either_outcome" 625 217 3 326 .none .none 328 181 628)::(-330,oF "either_outcome" 58 p8 329)::(-336,oC "replaced" 633 227 2 331 (rf 333) (rf 334) 335 181 641)::(-337,oF "replaced" 60 p9 336)::(-341,oC "ahead_of" 644 233 2 338 .none .none 340 181 647)::(-342,oF "ahead_of" 61 p9 341)::(-348,oC "places_to_none" 652 236 2 343 (rf 345) (rf 346) 347 181 659)::(-349,oF "places_to_none" 63 gU 348)::(-353,oC "places_to_beacon" 662 241 3 350 .none .none 352 181 665)::(-354,oF "places_to_beacon" 64 gU 353)::(-358,oC "some_of" 668 246 2 355 .none .none 357 181 671)::(-359,oF "some_of" 65 gU 358)::(-365,oC "facts_beside" 674 248 3 360 (rf 362) (rf 363) 364 181 680)::(-366,oF "facts_beside" 66 gU 365)::(-372,oC "if_outcome" 683 250 3 367 (rf 369) (rf 370) 371 181 697)::(-373,oF "if_outcome" 67 gU 372)::(-379,oC "last_beacon" 702 267 1 374 (rf 376) (rf 377) 378 181 706)::(-380,oF "last_beacon" 69 jF 379)::(-384,oC "storms_places" 709 269 3 381 .none .none 383 181 712)::(-385,oF "storms_places" 70 jF 384)::(-389,oC "sum_rows" 715 274 2 386 .none .none 388 181 718)::(-390,oF "sum_rows" 71 jF 389)::(-396,oC "sum_outcome" 721 282 3 391 (rf 393) (rf 394) 395 181 731)::(-397,oF "sum_outcome" 72 jF 396)::(-398,tu [(.int (0) 736)])::(-404,oC "outcome" 737 291 3 399 (rf 401) (rf 402) 403 181 743)::(-405,⟨.type "function",none,(fn "outcome" "outcome" (Lw.top 74) (rf 398) .none .none (.str "duskbook.outcomes" 734) none (rf 404) .none 3 0),#[]⟩)::(-411,oC "is_hand" 748 300 1 406 (rf 408) (rf 409) 410 181 752)::(-412,oF "is_hand" 76 d3 411)::(-416,oC "check_hands" 755 302 2 413 .none .none 415 181 758)::(-417,oF "check_hands" 77 d3 416)::(-430,(oQ "__init__" "Watch.__init__" 773 311 3 425 (rf 427) (rf 428) 429 181 779))::(-431,oM "__init__" "Watch.__init__" 78 0 d3 430)::(-437,(oQ "turn" "Watch.turn" 782 317 1 432 (rf 434) (rf 435) 436 181 786))::(-438,oM "turn" "Watch.turn" 78 1 d3 437)::(-444,(oQ "evening" "Watch.evening" 789 322 1 439 (rf 441) (rf 442) 443 181 793))::(-445,oM "evening" "Watch.evening" 78 2 d3 444)::(-451,(oQ "left" "Watch.left" 796 325 1 446 (rf 448) (rf 449) 450 181 803))::(-452,oM "left" "Watch.left" 78 3 d3 451)::(-458,(oQ "winner" "Watch.winner" 806 331 1 453 (rf 455) (rf 456) 457 181 810))::(-459,oM "winner" "Watch.winner" 78 4 d3 458)::(-465,(oQ "settle" "Watch.settle" 813 336 2 460 (rf 462) (rf 463) 464 181 818))::(-466,oM "settle" "Watch.settle" 78 5 d3 465)::(-472,(oQ "back" "Watch.back" 821 344 1 467 (rf 469) (rf 470) 471 181 825))::(-473,oM "back" "Watch.back" 78 6 d3 472)::(-475,(oD #[en P "__module__" 768 (.str "duskbook.watches" 746),en P "__firstlineno__" 772 (.int (309) 771),Z' P "__init__" 781 431,Z' P "turn" 788 438,Z' P "evening" 795 445,Z' P "left" 805 452,Z' P "winner" 812 459,Z' P "settle" 820 466,Z' P "back" 827 473,Z' P "__static_attributes__" 831 474,Z' P "__dict__" 833 477,Z' P "__weakref__" 835 478,en P "__doc__" 836 .none] 4))::(-476,⟨.type "type",none,(.cls ⟨"Watch",[.type "object"],[rf 476,.type "object"],475,"Watch",true,[],[],false,none,false⟩),#[none,none,(some (.str "Watch" 761)),(some (.str "Watch" 769)),(some (.builtin "object.__new__")),(some (.bool true))]⟩)::(-486,oC "_law_cell" 841 347 2 481 (rf 483) (rf 484) 485 181 846)::(-487,oF "_law_cell" 80 eP 486)::(-493,oC "_law_mixed" 849 351 2 488 (rf 490) (rf 491) 492 181 854)::(-494,oF "_law_mixed" 81 eP 493)::(-498,oC "_law_hands" 857 353 2 495 .none .none 497 181 860)::(-499,oF "_law_hands" 82 eP 498)::(-508,oC "_law_rule" 869 358 4 505 .none .none 507 181 872)::(-509,oF "_law_rule" 84 eP 508)::(-515,oC "_law_hand" 875 378 3 510 (rf 512) (rf 513) 514 181 882)::(-516,oF "_law_hand" 85 eP 515)::(-522,oC "_law_steps" 885 383 3 517 (rf 519) (rf 520) 521 181 898)::(-523,oF "_law_steps" 86 eP 522)::(-527,oC "law" 901 397 1 524 .none .none 526 181 904)::(-528,oF "law" 87 eP 527)::[]
def hk:Hook:=kHook K (2::3::27::28::32::33::39::40::46::47::48::52::53::57::58::59::63::64::70::71::77::78::84::85::89::90::143::144::148::149::153::154::160::161::165::166::172::173::177::178::184::185::191::192::196::197::201::202::208::209::215::216::222::223::227::228::234::235::239::240::246::247::253::254::258::259::263::264::270::271::277::278::284::285::291::292::298::299::303::304::310::311::317::318::324::325::329::330::336::337::341::342::348::349::353::354::358::359::365::366::372::373::379::380::384::385::389::390::396::397::398::404::405::411::412::416::417::430::431::437::438::444::445::451::452::458::459::465::466::472::473::475::476::486::487::493::494::498::499::508::509::515::516::522::523::527::528::[]) (λ_=>by kernel_rfl)
def Q:P7:={pg with main:={pg.main with body:=[Lw.top 87]} }
noncomputable def ls:AJ:=(["_wall","contrary","led_to","traced","ways_from","EXCHANGED_KINDS","exchanged_rule","exchanged","HANDS","beacons_with","both_added","pairs_added","cleared","reduced","DuskError","NoHands","Over","NoLight","BEACON_COUNT","either_holds","sum_holds","if_holds","rule_holds","broken_rules","holds","beacons_in","beacons_of","is_void","without","either_left","sum_left","if_left","rule_left","left_behind","is_place","body_is_known","is_step","step_to_more","derived_in_full","is_broken","sayings_of","lead_to_one_another","clash_found","cross_found","late_found","storms_paper","free_saying","truths_made","plan_row","either_outcome"]++["replaced","ahead_of","places_to_none","places_to_beacon","some_of","facts_beside","if_outcome","last_beacon","storms_places","sum_rows","sum_outcome","outcome","is_hand","check_hands","Watch","_law_cell","_law_mixed","_law_hands","_law_own","_law_rule","_law_hand","_law_steps"]).map Str.ofString
abbrev Xt(s:Shared):Bool:=xlAt Q [] s&&recOk (RowW.records (OpenRow.toRowW PySem.Challenge.rw_duskbook_k67_whole_step_by_step.row)) s
def J8:∀w:World,(λos=>((staticsOk (importedModules pg.main.body) (boot_heap w.params) (tm w.params)&&namesBound pg (tm w.params)&&gensDone (mQ w os)&&laidKept (boot_heap w.params) (tm w.params)),openSeen Q ls (importedModules pg.main.body) Xt true (mQ w os),Hook.obs hk (mQ w os)))=λ_=>(true,openGood Q ls,Hook.val hk w):=by
 intro w;kernel_rfl
def left:LeftO pg Q ls Xt (Hook.obs hk) (Hook.val hk) 6864:=LeftO.of_pieces (H₁:=tm) op size run (by decide) J8
end Op
end
noncomputable def PySem.W.Fast.tw3181593639242600781:PySem.Program:=PySem.Challenge.pw_duskbook_k67_whole_step_by_step
theorem PySem.W.Fast.te3181593639242600781:PySem.Challenge.pw_duskbook_k67_whole_step_by_step=PySem.W.Fast.tw3181593639242600781:=rfl
open PySem PySem.W PyProof.Rows
local macro_rules|`(tactic|ac_rfl)=>`(tactic|first|k_is|kernel_rfl)
theorem PySem.Challenge.cw_duskbook_k67_whole_step_by_step_holds : PySem.Challenge.rw_duskbook_k67_whole_step_by_step.Holds := by
 w_on;o_law
 refine holds_open (q:=Op.Q) (loose:=Op.ls) (Xt:=Op.Xt) (XP:=XL Op.Q []) (Yf:=Hook.obs Op.hk) (Ya:=Hook.val Op.hk) (YP:=InK Op.K) (N:=6864) Op.left (Hook.of Op.hk) (Hook.keeps Op.hk) (λs e=>xl_of s (Bool.and_eq_true_iff.mp e).1) XL.keeps (by rfl) (by rfl) (by rfl) (λs e=>recFacts_of (Bool.and_eq_true_iff.mp e).2) (by rfl) (by assumption) (by decide +kernel) ⟨rfl,rfl,rfl,rfl,rfl,by decide +kernel⟩ ?hw ?hc
 (case hw=>w_witness2)
 k_fill
 refine Lw.walk Lw.law_true (l:=PySem.Challenge.rw_duskbook_k67_whole_step_by_step) rfl rfl (K:=Op.K) (λw h Y=>Y) ?F
 case F=>
  intro w mg fa h KX G hmg;refine' Lw.all_mk KX G hmg ..
  all_goals (try (first|(refine' Lw.fkd_mk ?a ?l ?c ?k ?t;(case a=>k_is);(case l=>k_is);(case c=>k_is);(case k=>k_is);(case t=>k_is))|(refine' M.mq_mk ?a ?pg ?hd ?po ?sa ?i ?n ?l ?cd ?k;(case a=>ac_rfl);(case pg=>ac_rfl);(case hd=>ac_rfl);(case po=>ac_rfl);(case sa=>ac_rfl);(case i=>ac_rfl);(case n=>ac_rfl);(case l=>ac_rfl);(case cd=>ac_rfl);(case k=>ac_rfl))|(refine' M.nq_mk ?a ?pg ?hd ?po ?sa ?n;(case a=>ac_rfl);(case pg=>ac_rfl);(case hd=>ac_rfl);(case po=>ac_rfl);(case sa=>ac_rfl);(case n=>ac_rfl))|(refine' M.iqc_mk ?a ?mk ?kc ?i ?n ?l ?cd ?k;(case a=>ac_rfl);(case mk=>ac_rfl);(case kc=>ac_rfl);(case i=>ac_rfl);(case n=>ac_rfl);(case l=>ac_rfl);(case cd=>ac_rfl);(case k=>ac_rfl))|(refine' M.iqz_mk ?a ?mk ?kc ?i ?n ?l ?cd ?d;(case a=>ac_rfl);(case mk=>ac_rfl);(case kc=>ac_rfl);(case i=>ac_rfl);(case n=>ac_rfl);(case l=>ac_rfl);(case cd=>ac_rfl);(case d=>ac_rfl))|(refine' M.kq_mk (mc:=.type "type") ?e ?i ?l ?cd ?k ?s ?r ?g ?h;(case e=>ac_rfl);(case i=>ac_rfl);(case l=>ac_rfl);(case cd=>ac_rfl);(case k=>ac_rfl);(case s=>ac_rfl);(case r=>ac_rfl);(case g=>ac_rfl);(case h=>ac_rfl))|(refine' M.isk_mk ?a ?a0 ?pg ?hd ?po ?sa ?e ?f ?g ?m ?k;(case a=>ac_rfl);(case a0=>ac_rfl);(case pg=>ac_rfl);(case hd=>ac_rfl);(case po=>ac_rfl);(case sa=>ac_rfl);(case e=>ac_rfl);(case f=>ac_rfl);(case g=>ac_rfl);(case m=>ac_rfl);(case k=>ac_rfl))|(refine' Lw.fk_mk ?a ?l ?c ?k;(case a=>k_is);(case l=>k_is);(case c=>k_is);(case k=>k_is))|k_is))
