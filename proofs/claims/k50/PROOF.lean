import PyProof.Rows.All
import Wide.All
import OpenK.AllK
import Wide.FinOn
import Lean
import PyProof.EqAt
import PyProof.EqKinds
import PyProof.TupleCall
import PySem.Challenge.RW_duskbook_k50_great_chains
set_option Elab.async false
set_option linter.all false
set_option genSizeOf false
set_option compiler.extract_closed false
set_option maxRecDepth 100000
abbrev lQ(l:List (PySem.Str×PySem.NameKind)):PySem.Scope:={ kind:=.function,names:=l,isGenerator:=false,isCoroutine:=false,more:=[] }
def qa{c d:Type _}{o:Option c}{f:c->Option d}{b:d}(h:o.bind f=some b):∃a,o=some a/\f a=some b:=Option.bind_eq_some_iff.mp h
def qc{c d:Type _}{o:Option c}{f:c->d}{b:d}(h:o.map f=some b):∃a,o=some a/\f a=b:=Option.map_eq_some_iff.mp h
def qd:=@Option.bind_some
def qe:=@PySem.Heap.get?_push_of_some
def qf:=@List.length_map
def qg:=@List.mem_cons_of_mem
def qh:=@List.mem_cons_self
def qi:=@Bool.false_ne_true
def qj:=@Array.length_toList
def qk:=@List.size_toArray
def ql:=@PySem.Heap.lt_size
def qm:=@Nat.ne_of_lt
def qo{b:Type _}{l:List b}{i:Nat}{a:b}(h:l[i]?=some a):∃h:i<l.length,l[i]=a:=List.getElem?_eq_some_iff.mp h
def qp:=@PySem.Heap.get?_push_size
def qr:=@List.getElem?_eq_getElem
def qt:=@List.length_cons
def qu{c:Type _}{a b:c}{l:List c}(h:a∈b::l):a=b\/a∈l:=List.mem_cons.mp h
def qv:=@Nat.le_refl
def qw{b:Type _}{a:b}{s t:List b}(h:a∈s++t):a∈s\/a∈t:=List.mem_append.mp h
def qx:=@Nat.lt_succ_of_lt
def qy{c d:Type _}{b:d}{f:c->d}{l:List c}(h:b∈l.map f):∃a,a∈l/\f a=b:=List.mem_map.mp h
def qz:=@List.length_append
def Qa:=@Nat.lt_succ_self
def Qb{m n:Nat}(h:m∈List.range n):m<n:=List.mem_range.mp h
def Qc{b:Type _}{p:b->Bool}{l:List b}{a:b}(h:a∈l.filter p):a∈l/\p a=true:=List.mem_filter.mp h
def Qd:=@List.map_cons
def Qe:=@Bool.and_eq_true
def Qf:=@List.map_map
def Qg:=@Nat.le_trans
def Qh:=@Nat.zero_le
def Qi:=@Nat.lt_of_lt_of_le
def Qj:=@List.nil_append
def Ql:=@List.mem_filter
def Qm:=@List.getElem?_map
def Qn:=@List.length_filter_le
def Qo:=@Bool.false_eq_true
def Qp:=@List.getElem?_set_ne
def Qq:=@List.map_congr_left
def Qr:=@List.mem_append_right
def Qs:=@List.mem_map_of_mem
set_option maxHeartbeats 4000000
set_option hygiene false in
local macro_rules|`(tactic|and_intros)=>`(tactic|(intro _ _ _ _ _ _ us b;first|(obtain⟨_,rfl⟩:=kC b;rfl)|(obtain⟨_,_,rfl⟩:=iA b;rfl)|(obtain⟨_,_,_,rfl⟩:=kE b;rfl)|(obtain⟨_,_,_,_,rfl⟩:=kF b;rfl)|(obtain⟨_,_,_,_,_,rfl⟩:=kG b;rfl)|(obtain⟨_,_,_,_,_,_,rfl⟩:=kH b;rfl)|(obtain⟨_,_,_,_,_,_,_,rfl⟩:=pd b;rfl)))
local macro_rules|`(tactic|ext)=>`(tactic|simp_all)
local macro_rules|`(tactic|grind)=>`(tactic|grind -abstractProof)
local macro_rules|`(tactic|lia)=>`(tactic|lia -abstractProof)
local macro_rules|`(tactic|symm)=>`(tactic|grind -lax)
local macro_rules|`(tactic|ac_nf)=>`(tactic|lia -lax)
local macro_rules|`(∅)=>`(by ac_nf)
local macro_rules|`(⋯)=>`(by symm)
local macro_rules|`(term|nofun)=>`(by simp)
local macro_rules|`(tactic|trivial)=>`(tactic|first|exact .inl rfl|exact .inr rfl|exact .inr (.inl rfl)|exact .inr (.inr rfl)|assumption)
local macro_rules|`(~~~$x)=>`(($x).heap.objs.size)|`(↑$x)=>`(some (.sh $x))
abbrev AA:=PySem.Value->PySem.Shared->Prop
abbrev AB:=List (PySem.Addr×PySem.Obj)
abbrev AC:=List PySem.Value
abbrev AD:=PySem.Str->Option PySem.Value
abbrev AE:=List Nat
abbrev AF:=List Int
abbrev AG:=List Bool
abbrev AH:=Nat->Bool
abbrev AJ:=List PySem.Str
abbrev AK:=List PySem.Expr
abbrev AL:=Option Nat
def wa:=@PySem.wpAny_bind
def wb:=@PySem.wpAny_pure
def wc:=@PySem.wpAny_holding
def we:=@PySem.wpAny_call_entry
def wg:=@PySem.wpAny_newObj_type
def wj:=@PySem.wpAny_setState_of
def wm:=@decide_eq_true_eq
def wn:=@decide_eq_true
def wo:=@decide_eq_false
def wq:=@of_decide_eq_true
def wt:=@List.map_append
def wu:=@Function.comp_def
def wv:=@PySem.Heap.SameBut.update
def ww:=@PySem.Heap.size_push
def wx:=@PySem.Heap.get?_update_self
def wy:=@PySem.codeAny_builtin
def wz:=@PySem.wpAny_mono
def w4:=@Option.some.inj
def w5:=@Int.toNat_natCast
def w6:=@List.append_nil
def w9:=@List.append_assoc
def ja:=@List.length_singleton
def jb:=@PySem.plainId_quiet
def jc:=@PySem.Around.under_plainId
def jd:=@PySem.Obj.data_mapFields
def je:=@PySem.wpAny_attempt
def jf:=@PySem.sizeLine_eq
abbrev mZ:=@PySem.model
abbrev W7:=PySem.W.Frag
abbrev P7:=PySem.Program
noncomputable section
namespace L2
variable {X:Cx}{pins:AB}{pos apos cpos:Pos}{ys:AM}{es:AK}
open PySem PySem.Spec PyProof.Rows
abbrev bW:=Sum Int Str
noncomputable def jL:bW->Value->Bool
 | .inl k,v=>Value.isInt k v
 | .inr x,v=>Value.isStrOf x v
noncomputable def x3(w:World):bW->Int
 | .inl k=>hashInt k
 | .inr x=>hashStr w x
theorem gJ:∀{k:bW}{v:Value},jL k v=true->(∃i t,k=Sum.inl i/\v=Value.int i t)\/(∃x t,k=Sum.inr x/\v=Value.str x t)
 | .inl i,v,h=>by
   obtain⟨t,e⟩:=Value.isInt_shape h;exact .inl ⟨i,t,rfl,e⟩
 | .inr x,v,h=>by
   obtain⟨t,e⟩:=Value.isStrOf_shape h;exact .inr ⟨x,t,rfl,e⟩
def RH(i:Int)(t:Tok):jL (.inl i) (.int i t)=true:=by simp[jL,Value.isInt]
def RI(x:Str)(t:Tok):jL (.inr x) (.str x t)=true:=by simp[jL,Value.isStrOf]
theorem x4(a b:Int):decide ((Sum.inl a:bW)=Sum.inl b)=(a==b):=by ext<;>lia
theorem x5(a b:Str):decide ((Sum.inr a:bW)=Sum.inr b)=decide (a=b):=by ext
theorem x6(a:Int)(b:Str):decide ((Sum.inl a:bW)=Sum.inr b)=false:=by grind
theorem x8(a:Str)(b:Int):decide ((Sum.inr a:bW)=Sum.inl b)=false:=by grind
def cS(prog:P7)(w:World):KeyKind prog w bW where
 is:=jL
 hash:=x3 w
 inj:=λv a b l m=>by
  rcases gJ l with⟨i,t,rfl,rfl⟩|⟨x,t,rfl,rfl⟩
  .rcases gJ m with⟨j,u,rfl,e⟩|⟨y,u,rfl,e⟩
   .grind
   grind
  .rcases gJ m with⟨j,u,rfl,e⟩|⟨y,u,rfl,e⟩
   .grind
   grind
 byValue:=λk v h=>by
  rcases gJ h with⟨i,t,rfl,rfl⟩|⟨x,t,rfl,rfl⟩<;>rfl
 pyHash:=λd h=>by
  rcases gJ d with⟨i,t,rfl,rfl⟩|⟨x,t,rfl,rfl⟩
  .exact wpAny_pyHash_int h
  .exact wpAny_pyHash_str h
 eqBool:=λg d h=>by
  rcases gJ g with⟨i,t,rfl,rfl⟩|⟨x,t,rfl,rfl⟩
  .rcases gJ d with⟨j,u,rfl,rfl⟩|⟨y,u,rfl,rfl⟩
   .rw[x4]at h;exact wpAny_eqBool_int h
   .exact SeqAt.EqAt.int_str i t y u _ _ _ _ h
  .rcases gJ d with⟨j,u,rfl,rfl⟩|⟨y,u,rfl,rfl⟩
   .exact SeqAt.EqAt.str_int x t j u _ _ _ _ h
   .rw[x5]at h;exact wpAny_eqBool_str h
 «strs»:=λk x t v h=>by
  rcases gJ h with⟨i,u,rfl,e⟩|⟨y,u,rfl,e⟩
  .grind
  .injection e with n _
   subst n;cases v<;>rfl
def RJ(prog:P7)(w:World)(i:Int)(t:Tok):(cS prog w).is (.inl i) (.int i t)=true:=RH i t
def RL(prog:P7)(w:World)(x:Str)(t:Tok):(cS prog w).is (.inr x) (.str x t)=true:=RI x t
inductive V where
 | non|bl (b:Bool)|int (i:Int)|str (x:Str)|byt (b:Array UInt8)|flt (b:UInt64)|ref (a:Addr)|ty (n:String)
 deriving DecidableEq
abbrev AM:=List V
def RelV:V->Value->Prop
 | .non,u=>u=.none
 | .bl b,u=>u=.bool b
 | .int i,u=>∃t,u=.int i t
 | .str x,u=>∃t,u=.str x t
 | .byt b,u=>∃t,u=.bytes b t
 | .flt b,u=>∃t,u=.float b t
 | .ref a,u=>u=.ref a
 | .ty n,u=>u=.type n
abbrev Vals:AM->AC->Prop:=Paired RelV
def Vals.length(r:Vals xs us):xs.length=us.length:=Paired.length r
theorem Vals.get:∀{xs:AM}{us:AC}{i:Nat}{x:V},Vals xs us->xs[i]?=some x->∃u,us[i]?=some u/\RelV x u
 | _,_,_,_,.nil,e=>by simp at e
 | _,_,0,_,.cons r _,e=>by ext
 | _,_,i+1,x,.cons _ t,e=>by
   obtain⟨u,a,b⟩:=Vals.get t (by simpa using e)
   ext
theorem Vals.set{x:V}{u:Value}(r:RelV x u):∀{xs:AM}{us:AC} (i:Nat),Vals xs us->Vals (xs.set i x) (us.set i u)
 | _,_,_,.nil=>.nil
 | _,_,0,.cons _ t=>.cons r t
 | _,_,i+1,.cons q t=>.cons q (Vals.set r i t)
theorem Vals.append:∀{xs ys:AM}{us a:AC},Vals xs us->Vals ys a->Vals (xs++ys) (us++a)
 | _,_,_,_,.nil,s=>s
 | _,_,_,_,.cons r t,s=>.cons r (Vals.append t s)
theorem Vals.take:∀{xs:AM}{us:AC} (n:Nat),Vals xs us->Vals (xs.take n) (us.take n)
 | _,_,0,_=>.nil
 | _,_,_+1,.nil=>.nil
 | _,_,n+1,.cons r t=>.cons r (Vals.take n t)
theorem Vals.drop:∀{xs:AM}{us:AC} (n:Nat),Vals xs us->Vals (xs.drop n) (us.drop n)
 | _,_,0,r=>r
 | _,_,_+1,.nil=>.nil
 | _,_,n+1,.cons _ t=>.drop n t
def RelO:Option V->Option Value->Prop
 | some v,some u=>RelV v u
 | none,none=>True
 | _,_=>False
def KV{κ:Type}:List (κ×V)->List (κ×Value)->Prop:=Paired λp q=>p.1=q.1/\RelV p.2 q.2
noncomputable def kV:bW->V
 | .inl i=>.int i
 | .inr x=>.str x
inductive HO where
 | lst (xs:AM)
 | tup (xs:AM)
 | dK (kvs:List (bW×V))|dT (kvs:List (List bW×V))
 | set (S:Int->Bool) (n:Nat)
 | ins (C dx:Addr) (fs:List (Str×V))
 | own (x:Addr)
 | xd (fs:List (Str×V))
 | met (f x:Addr)
 | rng (lo hi:Int)
 | frz (o:Obj) (u:HO)
 | tbl (ps:Array Value)
 | ext (φ:Heap->Prop)
abbrev Hp:=Addr->Option HO
noncomputable def upd(H:Hp)(a:Addr)(o:HO):Hp:=λb=>if b=a then some o else H b
theorem Yh:upd H a o a=some o:=by unfold upd;grind
def Yl(h:b≠a):upd H a o b=H b:=by unfold upd;rw[if_neg h]
theorem x9{H:Hp}(h:H a=some o)(h':H b=some u)(d:o≠u):a≠b:=by grind
theorem Yk{H:Hp}(h:H a=some o)(c:H b=none):a≠b:=by grind
section
variable (P:P7)(w:World)
def ObjOk(H:Hp)(h:Heap)(a:Addr):HO->Prop
 | .lst xs=>xs.length<=sizeLine/\∃(its:AC) (n:Nat),Vals xs its/\h.get? a=some {cls:=.type "list",data:=.seq its.toArray n}
 | .tup xs=>xs.length<=sizeLine/\∃its:AC,Vals xs its/\IsTup h a its.toArray
 | .dK c=>c.length<=sizeLine/\(a==sysModules)=false/\∃vs,KV c vs/\h.DictOf (cS P w) a vs
 | .dT c=>c.length<=sizeLine/\(a==sysModules)=false/\∃xs:List (List bW×Addr×Value),
  Paired (λp q=>p.1=q.1/\H q.2.1=some (.tup (p.1.map kV))/\RelV p.2 q.2.2) c xs/\
  ∃o k m,h.get? a=some o/\o.ExactDict/\o.data=.dict k m/\k.toList=xs.map (entryOfKey (tupleKind (cS P w)))/\(xs.map (·.1)).Nodup
 | .set S n=>h.SetOf (intKind P w) a S n
 | .ins C g e=>H g=some (.own a)/\e.length<=1000/\g≠a/\h.get? a=some (W.instObj C g)/\
  ∃d,h.Ns1 g d/\(∀f,RelO (e.lookup f) (d f))/\PySem.Within d (e.map (·.1))
 | .own _=>∃o,h.get? a=some o
 | .xd e=>∃d,h.Ns1 a d/\∀f,RelO (e.lookup f) (d f)
 | .rng lo r=>∃t u v,h.get? a=some {cls:=.type "range",data:=.fields #[.int lo t,.int r u,.int 1 v]}
 | .frz o u=>h.get? a=some o/\ObjOk H h a u
 | .tbl ps=>h.get? a=some {cls:=.none,data:=.fields ps}
 | .met f x=>h.get? a=some (W.methodObj (.ref f) (.ref x))
 | .ext i=>i h/\(∃o,h.get? a=some o)/\∀j l,i j->(∀o,j.get? a=some o->l.get? a=some o)->i l
def HOk(H:Hp)(h:Heap):Prop:=∀a o,H a=some o->ObjOk P w H h a o
end
section
variable {P:P7}{w:World}{H H':Hp}{h h':Heap}{a:Addr}{o:HO}
def ObjOk.lt(x:ObjOk P w H h a o):a<h.objs.size:=by
 cases o with
 | lst k=>obtain⟨_,_,_,_,e⟩:=x;exact ql e
 | tup k=>obtain⟨_,_,_,p⟩:=x;exact p.lt
 | dK b=>obtain⟨_,_,_,_,o,_,_,e,_⟩:=x;exact ql e
 | dT b=>obtain⟨_,_,_,_,o,_,_,e,_⟩:=x;exact ql e
 | set S n=>obtain⟨o,_,_,_,e,_⟩:=x;exact ql e
 | ins C i c=>obtain⟨_,_,_,e,_⟩:=x;exact ql e
 | own y=>obtain⟨_,e⟩:=x;exact ql e
 | xd c=>obtain⟨_,⟨_,_,_,e,_⟩,_⟩:=x;exact ql e
 | rng lo g=>obtain⟨_,_,_,e⟩:=x;exact ql e
 | frz d u=>obtain⟨e,_⟩:=x;exact ql e
 | tbl l=>exact ql (x)
 | met f y=>exact ql (x)
 | ext j=>obtain⟨_,⟨_,e⟩,_⟩:=x;exact ql e
theorem Paired.mapP:∀{g:List d}{c:List e},Paired F g c->(∀a b,F a b->G a b)->Paired G g c
 | _,_,.nil,_=>.nil
 | _,_,.cons r t,f=>.cons (f _ _ r) (Paired.mapP t f)
theorem ObjOk.stay(x:ObjOk P w H h a o)(k:∀b u,(b=a\/H b=some (.own a))->h.get? b=some u->h'.get? b=some u)(G:∀b,H b=some (.own a)->H' b=some (.own a))(E:∀b xs,H b=some (.tup xs)->H' b=some (.tup xs)):ObjOk P w H' h' a o:=by
 induction o with
 | lst xs=>obtain⟨z,l,n,r,e⟩:=x;exact⟨z,l,n,r,k _ _ (.inl rfl) e⟩
 | tup xs=>obtain⟨z,l,r,g,e,c⟩:=x;exact⟨z,l,r,g,k _ _ (.inl rfl) e,c⟩
 | dK s=>obtain⟨z,y,L,r,g,i,j,e,c⟩:=x;exact⟨z,y,L,r,g,i,j,k _ _ (.inl rfl) e,c⟩
 | dT s=>
   obtain⟨z,y,xs,r,g,i,j,e,c⟩:=x;exact⟨z,y,xs,Paired.mapP r λp q z=>⟨z.1,E _ _ z.2.1,z.2.2⟩,g,i,j,k _ _ (.inl rfl) e,c⟩
 | set S n=>obtain⟨g,i,j,t,e,c⟩:=x;exact⟨g,i,j,t,k _ _ (.inl rfl) e,c⟩
 | ins C I D=>
   obtain⟨d,z,B,e,A,⟨m,i,j,M,c⟩,r⟩:=x;exact⟨G _ d,z,B,k _ _ (.inl rfl) e,A,⟨m,i,j,k _ _ (.inr d) M,c⟩,r⟩
 | own y=>obtain⟨g,e⟩:=x;exact⟨g,k _ _ (.inl rfl) e⟩
 | xd D=>obtain⟨A,⟨m,i,j,e,c⟩,r⟩:=x;exact⟨A,⟨m,i,j,k _ _ (.inl rfl) e,c⟩,r⟩
 | rng lo K=>obtain⟨t,u,v,e⟩:=x;exact⟨t,u,v,k _ _ (.inl rfl) e⟩
 | frz g u F=>obtain⟨e,q⟩:=x;exact⟨k _ _ (.inl rfl) e,F q⟩
 | tbl N=>
   have e:_=_:=x;show _=_
   ext
 | met f y=>
   have e:_=_:=x;show _=_
   ext
 | ext J=>obtain⟨p,⟨o,e⟩,st⟩:=x;exact⟨st _ _ p λo q=>k _ _ (.inl rfl) q,⟨o,k _ _ (.inl rfl) e⟩,st⟩
def HOk.lt(x:HOk P w H h)(e:H a=some o):a<h.objs.size:=(x a o e).lt
def HOk.fresh(x:HOk P w H h)(e:h.objs.size<=a):H a=none:=by
 cases q:H a with
 | none=>rfl
 | some u=>exact absurd (Qi (x.lt q) e) (Nat.lt_irrefl _)
def HOk.kept(x:HOk P w H h)(k:∀b u,h.get? b=some u->h'.get? b=some u):HOk P w H h':=λa o e=>
 (x a o e).stay (λb u _ q=>k b u q) (λ_ q=>q) λ_ _ q=>q
theorem HOk.laid(x:HOk P w H h)(k:∀b u,h.get? b=some u->h'.get? b=some u)(g:h.objs.size<=a)(f:ObjOk P w (upd H a o) h' a o):HOk P w (upd H a o) h':=λb u e=>by
 have d:=x.fresh g;by_cases i:b=a
 .subst i;rw[Yh]at e;grind
 .rw[Yl i]at e
  exact(x b u e).stay (λc v _ q=>k c v q) (λc q=>by rwa [Yl (Yk q d)]) λc j q=>by rwa [Yl (Yk q d)]
end
def Rd(H:Hp)(a:Addr)(u:HO):Prop:=H a=some u\/∃o,H a=some (.frz o u)
def Rd.ok(r:Rd H a u)(x:HOk P w H h):ObjOk P w H h a u:=by
 rcases r with r|⟨o,r⟩
 .exact x a u r
 .obtain⟨_,q⟩:=x a _ r
  exact q
def nk:Option HO->Prop
 | some (.lst _)=>True
 | some (.dK _)=>True
 | some (.dT _)=>True
 | some (.set _ _)=>True
 | some (.ins _ _ _)=>True
 | some (.ext _)=>True
 | _=>False
section
variable {P:P7}{w:World}{H:Hp}{h h':Heap}{x e:Addr}{o':HO}
theorem HOk.write(l:HOk P w H h)(d:nk (H x))(o:e=x\/H e=some (.own x))(k:∀b u,b≠e->h.get? b=some u->h'.get? b=some u)(f:∃u,h'.get? e=some u)(i:ObjOk P w (upd H x o') h' x o'):HOk P w (upd H x o') h':=λb u q=>by
 have a:∀c y,H c=some (.own y)->c≠x:=λc y r z=>by subst z;rwa [r]at d
 by_cases p:b=x
 .subst p;rw[Yh]at q;grind
 .rw[Yl p]at q
  by_cases j:b=e
  .have g:H b=some (.own x):=by
    grind
   rw[q]at g;cases g;obtain⟨v,m⟩:=f;exact⟨v,by grind⟩
  .refine(l b u q).stay (λc v n r=>k c v ?_ r) (λc r=>by rwa [Yl (a c b r)]) λc s r=>by rwa [Yl ((λc s r z=>by subst z;rwa [r]at d) c s r)]
   grind
end
structure Un(fs ex:List Addr)(H H':Hp)(h h':Heap):Prop where
 keep:∀b o,h.get? b=some o->H b=none->b∉fs->b∉ex->h'.get? b=some o
 slot:∀b o,h.get? b=some o->H b=none->b∈fs->b∉ex->∃sl,h'.get? b=some {o with slots:=sl}
 free:∀b o,h.get? b=some o->H b=none->b∉ex->H' b=none
 there:∀b o,h.get? b=some o->b∉ex->∃o',h'.get? b=some o'
 tups:∀b xs,H b=some (.tup xs)->H' b=some (.tup xs)
 frzs:∀b o u,H b=some (.frz o u)->H' b=some (.frz o u)
 tbls:∀b ps,H b=some (.tbl ps)->∃more,H' b=some (.tbl (ps++more))
section
variable {fs fs' ex ex':List Addr}{H H1 H2:Hp}{h h1 h2 h':Heap}{a x e:Addr}{o:HO}
def Un.any(u:Un fs ex H H1 h h1)(q:h.get? b=some c)(n:H b=none)(d:b∉ex):∃f,h1.get? b=some {c with slots:=f}:=by
 by_cases a:b∈fs
 .exact u.slot b c q n a d
 .exact⟨c.slots,u.keep b c q n a d⟩
def Un.kept(k:∀b u,h.get? b=some u->h'.get? b=some u):Un fs ex H H h h':=
 ⟨λb c q _ _ _=>k b c q,λb c q _ _ _=>⟨c.slots,k b c q⟩,λ_ _ _ n _=>n,λb c q _=>⟨c,k b c q⟩,λ_ _ q=>q,λ_ _ _ q=>q,λ_ a q=>⟨#[],by rw[q];simp⟩⟩
def Un.refl:Un fs ex H H h h:=.kept λ_ _ q=>q
theorem Un.laid(k:∀b u,h.get? b=some u->h'.get? b=some u)(d:h.objs.size<=a)(c:H a=none):Un fs ex H (upd H a o) h h' where
 keep:=λb u q _ _ _=>k b u q
 slot:=λb u q _ _ _=>⟨u.slots,k b u q⟩
 free:=λb u q n _=>by rwa [Yl (qm (Qi (ql q) d))]
 there:=λb u q _=>⟨u,k b u q⟩
 tups:=λb e q=>by rwa [Yl (Yk q c)]
 frzs:=λb u e q=>by rwa [Yl (Yk q c)]
 tbls:=λb f q=>⟨#[],by rw[Yl (Yk q c),q];simp⟩
theorem Un.write(d:nk (H x))(j:e=x\/H e=some (.own x))(k:∀b u,b≠e->h.get? b=some u->h'.get? b=some u)(g:∃u,h'.get? e=some u):Un fs ex H (upd H x o) h h':=by
 have f:∀b,H b=none->b≠x:=λb n z=>by subst z;rwa [n]at d
 have a:∀b,H b=none->b≠e:=λb n z=>by
  ext
 have c:∀b u,H b=some u->¬nk (some u)->b≠x:=λb u q i z=>by grind
 refine⟨λb u q n _ _=>k b u (a b n) q,λb u q n _ _=>⟨u.slots,k b u (a b n) q⟩,λb u q n _=>by rwa [Yl (f b n)],λb u q _=>?_,
  λb l q=>by rwa [Yl (c b _ q λz=>z)],λb u l q=>by rwa [Yl (c b _ q λz=>z)],λb m q=>⟨#[],by rw[Yl (c b _ q λz=>z),q];simp⟩⟩
 grind
end
noncomputable def RM(h:Heap)(H:Hp):List Addr:=(List.range h.objs.size).filter λa=>(H a).isSome
def eJ(h:Heap)(H:Hp):Heap:=W.hideAll h (RM h H)
def RN(h:Heap)(H:Hp):(eJ h H).objs.size=h.objs.size:=W.hideAll_size _ _
theorem x_(e:h.get? b=some o)(n:H b=none):(eJ h H).get? b=some o:=
 W.hideAll_get _ e λc=>by
  have q:=(Qc c).2;grind
theorem ya(e:(eJ h H).get? b=some o):h.get? b=some o/\H b=none:=by
 have c:=W.of_hideAll _ e;refine⟨c,?_⟩
 cases q:H b with
 | none=>rfl
 | some x=>
   have z:(eJ h H).get? b=none:=W.hideAll_none _ (List.mem_filter.mpr ⟨List.mem_range.mpr (ql c),by simp[q]⟩);grind
structure Mod(K:W7)(mg:AD)(base:Heap):Prop where
 kin:K.In base
 glob:base.Ns mainGlobals mg
 blt:∃mb,base.Ns builtinsNs mb/\∀x:Str,x≠"__name__"->mb x=bootBuiltins x
 nolimit:base.NoLimit
structure Cx where
 prog:P7
 w:World
 K:W7
 mg:AD
 base:Heap
 A:Around
 N:AJ
 s₀:Shared
 H₀:Hp
 env:Env
 outer:List Env
 stack:List Env
 ex:List Addr
 fn:Str->Bool
 calm:Bool
 pn:AB
 xe:AA
noncomputable def fR(l:List Env):List Addr:=l.filterMap (·.frame)
abbrev Cx.fs(X:Cx):List Addr:=fR X.outer
def fS(a:Scope)(x:Str):Prop:=a.names.lookup x=some .local\/a.names.lookup x=some .cell\/a.names.lookup x=some .free
def dX(a:Scope)(x:Str):Prop:=a.names.lookup x=some .local\/a.names.lookup x=some .cell
def yb(env:Env)(h:Heap)(m:AD)(x:Str)(u:Value):Prop:=
 env.kindOf x=some .local/\m x=some u\/((env.kindOf x=some .cell\/env.kindOf x=some .free)/\∃c,env.cells.lookup x=some c/\h.IsCell c (some u))
structure Cx.Ok(X:Cx):Prop where
 mod:Mod X.K X.mg X.base
 kind:X.env.scope.kind=.function
 glob:X.env.globals=mainGlobals
 blt:X.env.builtins=builtinsNs
 above:X.s₀.heap.objs.size<=X.env.locals
 inj:∀x y c,X.env.cells.lookup x=some c->X.env.cells.lookup y=some c->x=y
 has:∀x,(X.env.kindOf x=some .cell\/X.env.kindOf x=some .free)->∃c,X.env.cells.lookup x=some c
 cab:∀x c,X.fn x=true->X.env.cells.lookup x=some c->X.s₀.heap.objs.size<=c
 hd:X.calm=true->X.A.handled=none
 frames:X.A.frames=some X.stack
 stk:X.stack=X.outer\/(X.stack=X.env::X.outer/\X.env.frame=some X.env.locals)
 exf:∀b∈X.ex,b≠X.env.locals/\∀x c,X.env.cells.lookup x=some c->c≠b
 bs:∀b o,X.base.get? b=some o->X.s₀.heap.get? b=some o/\X.H₀ b=none
 bsz:X.base.objs.size<=X.s₀.heap.objs.size
 noex:∀b o,X.base.get? b=some o->b∉X.ex
 exfs:∀b∈X.ex,b∉X.fs
 funs:X.s₀.heap.FunFrames X.base X.outer
 frf:∀b∈X.fs,X.H₀ b=none
structure Inv(X:Cx)(pins:AB)(σ:List (Option V))(H:Hp)(s:Shared):Prop where
 ok:X.Ok
 os:s.os=X.s₀.os
 bare:AllBare s.gens
 base:Un X.fs X.ex X.H₀ H X.s₀.heap s.heap
 loc:∃m,s.heap.Ns X.env.locals m/\∀(i:Nat) (x:Str) (v:V),X.N[i]?=some x->σ[i]?=some (some v)->fS X.env.scope x->∃u,RelV v u/\yb X.env s.heap m x u
 cell:∀x c,X.env.cells.lookup x=some c->∃v,s.heap.IsCell c v
 free:H X.env.locals=none
 freeC:∀x c,X.env.cells.lookup x=some c->H c=none
 pin:∀p∈X.pn++pins,s.heap.get? p.1=some p.2/\H p.1=none/\p.1≠X.env.locals/\p.1∉X.fs/\∀v,p.2.data≠.cell v
 hok:HOk X.prog X.w H s.heap
 len:σ.length=X.N.length
section
variable {σ:List (Option V)}{H H':Hp}{s:Shared}{h':Heap}
theorem Cx.Ok.nofr(c:X.Ok)(e:X.base.get? b=some o):b∉X.fs:=λa=>by
 have:=(c.funs.mem a).1;grind
def Inv.bs(I:Inv X pins σ H s):∀b o,X.base.get? b=some o->s.heap.get? b=some o/\H b=none:=λb o e=>
 ⟨I.base.keep b o (I.ok.bs b o e).1 (I.ok.bs b o e).2 (I.ok.nofr e) (I.ok.noex b o e),I.base.free b o (I.ok.bs b o e).1 (I.ok.bs b o e).2 (I.ok.noex b o e)⟩
def Inv.bk(I:Inv X pins σ H s):∀b o,X.base.get? b=some o->s.heap.get? b=some o:=λb o e=>(I.bs b o e).1
def Inv.mod(I:Inv X pins σ H s):Mod X.K X.mg X.base:=I.ok.mod
def Inv.kIn(I:Inv X pins σ H s):X.K.In s.heap:=I.ok.mod.kin.keeps I.bk
def Inv.lt(I:Inv X pins σ H s):X.env.locals< ~~~s:=let ⟨_,a,_⟩:=I.loc;a.lt
def Inv.sz(I:Inv X pins σ H s):X.s₀.heap.objs.size<= ~~~s:=Qg I.ok.above (Nat.le_of_lt I.lt)
def Inv.nofs(I:Inv X pins σ H s){a:Addr}(h:(~~~s)<=a):a∉X.fs:=λc=>by
 obtain⟨_,o,b,_⟩:=I.ok.funs.mem c;exact absurd (Qi (ql b) (Qg I.sz h)) (Nat.lt_irrefl _)
theorem Inv.cne(I:Inv X pins σ H s):∀x c,X.env.cells.lookup x=some c->c≠X.env.locals:=λx c e z=>by
 obtain⟨v,o,d,i⟩:=I.cell x c e;obtain⟨m,⟨g,f,h,b,a,_⟩,_⟩:=I.loc;grind
theorem Inv.funs(I:Inv X pins σ H s):s.heap.FunFrames X.base X.outer:=by
 have c:∀(l:_),(∀b∈fR l,b∈X.fs)->X.s₀.heap.FunFrames X.base l->s.heap.FunFrames X.base l:=by
  intro l
  induction l with
  | nil=>intro _ _;trivial
  | cons t r k=>
    intro q m;obtain⟨j,⟨L,o,d,i,f,h⟩,g⟩:=m;have a:=q L (by unfold fR;ext);obtain⟨n,e⟩:=I.base.slot L o f (I.ok.frf L a) a λz=>I.ok.exfs L z a;exact⟨j,⟨L,_,d,i,e,h⟩,k (λb p=>q b (by unfold fR;rw[List.filterMap_cons,d];exact qg _ p)) g⟩
 exact c _ (λ_ p=>p) I.ok.funs
def Inv.stack(I:Inv X pins σ H s):s.heap.FunFrames X.base X.stack:=by
 rcases I.ok.stk with e|⟨e,b⟩
 .rw[e];exact I.funs
 .rw[e]
  obtain⟨m,a,_⟩:=I.loc;exact .cons (by rw[I.ok.kind];decide) b a (Heap.get?_none_of_le (Qg I.ok.bsz I.ok.above)) I.funs
theorem Inv.stkSub(I:Inv X pins σ H s):∀b∈fR X.stack,b∈X.env.locals::X.fs:=λb c=>by
 rcases I.ok.stk with e|⟨e,a⟩
 .grind
 .rw[e]at c
  unfold fR at c
  rwa [List.filterMap_cons,a]at c
def Inv.stkFree(I:Inv X pins σ H s):∀b∈fR X.stack,H b=none:=λb c=>by
 rcases qu (I.stkSub b c)with e|c
 .rw[e];exact I.free
 .obtain⟨_,o,a,_⟩:=I.ok.funs.mem c
  exact I.base.free b o a (I.ok.frf b c) λz=>I.ok.exfs b z c
theorem Inv.step{ch:List Addr}(I:Inv X pins σ H s)(hch:∀b∈ch,(b∈X.ex\/X.s₀.heap.objs.size<=b)/\b≠X.env.locals/\(∀x c,X.env.cells.lookup x=some c->c≠b)/\∀p∈X.pn++pins,p.1≠b)(keep:∀b o,b≠X.env.locals->b∉X.fs->b∉ch->s.heap.get? b=some o->H b=none->h'.get? b=some o)(slot:∀b o,b≠X.env.locals->b∈X.fs->b∉ch->s.heap.get? b=some o->H b=none->∃sl,h'.get? b=some {o with slots:=sl})(free:∀b o,b∉ch->s.heap.get? b=some o->H b=none->H' b=none)(there:∀b o,b∉ch->s.heap.get? b=some o->∃o',h'.get? b=some o')(tups:∀b xs,H b=some (.tup xs)->H' b=some (.tup xs))(frzs:∀b o u,H b=some (.frz o u)->H' b=some (.frz o u))(tbls:∀b ps,H b=some (.tbl ps)->∃more,H' b=some (.tbl (ps++more)))(ns:∀m,s.heap.Ns X.env.locals m->h'.Ns X.env.locals m)(hok:HOk X.prog X.w H' h')(hg:AllBare g'):
 Inv X pins σ H' {s with heap:=h',gens:=g',drawn:=d',toks:=t' }:=by
 have neL:∀b o,X.s₀.heap.get? b=some o->b≠X.env.locals:=λb o e=>qm (Qi (ql e) I.ok.above)
 have neC:∀b o,X.s₀.heap.get? b=some o->b∉X.ex->b∉ch:=λb o e hx hb=>by
  rcases(hch b hb).1 with z|z
  .exact hx z
  .exact absurd (Qi (ql e) z) (Nat.lt_irrefl _)
 have cellK:∀x c,X.env.cells.lookup x=some c->∀v,s.heap.IsCell c v->h'.IsCell c v:=λx c e v hx_=>by
  obtain⟨o,ho,hd⟩:=hx_;have nch:c∉ch:=λz=>(hch c z).2.2.1 x c e rfl;by_cases hc:c∈X.fs
  .obtain⟨sl,q⟩:=slot c o (I.cne x c e) hc nch ho (I.freeC x c e)
   exact⟨_,q,hd⟩
  .exact⟨o,keep c o (I.cne x c e) hc nch ho (I.freeC x c e),hd⟩
 refine⟨I.ok,I.os,hg,⟨λb o e n hb hx=>?_,λb o e n hb hx=>?_,λb o e n hx=>?_,λb o e hx=>?_,λb xs e=>tups b xs (I.base.tups b xs e),λb o xs e=>frzs b o xs (I.base.frzs b o xs e),λb ps e=>?_⟩,?_,λx c e=>?_,?_,λx c e=>?_,λp hp=>?_,hok,I.len⟩
 .exact keep b o (neL b o e) hb (neC b o e hx) (I.base.keep b o e n hb hx) (I.base.free b o e n hx)
 .obtain⟨sl,e1⟩:=I.base.slot b o e n hb hx
  obtain⟨sl',e2⟩:=slot b _ (neL b o e) hb (neC b o e hx) e1 (I.base.free b o e n hx);exact⟨sl',e2⟩
 .obtain⟨o',e1⟩:=I.base.there b o e hx
  exact free b o' (neC b o e hx) e1 (I.base.free b o e n hx)
 .obtain⟨o',e1⟩:=I.base.there b o e hx
  exact there b o' (neC b o e hx) e1
 .obtain⟨m1,e1⟩:=I.base.tbls b ps e
  obtain⟨m2,e2⟩:=tbls b _ e1;exact⟨m1++m2,by rw[e2,Array.append_assoc]⟩
 .obtain⟨m,hn,hl⟩:=I.loc
  refine⟨m,ns m hn,λi x v e1 e2 e3=>?_⟩;obtain⟨u,r,l⟩:=hl i x v e1 e2 e3;refine⟨u,r,?_⟩;rcases l with l|⟨k,c,e,z⟩
  .exact .inl l
  .exact .inr ⟨k,c,e,cellK x c e _ z⟩
 .obtain⟨v,z⟩:=I.cell x c e
  exact⟨v,cellK x c e v z⟩
 .obtain⟨m,⟨o,_,_,ho,_⟩,_⟩:=I.loc
  exact free _ o (λz=>(hch _ z).2.1 rfl) ho I.free
 .obtain⟨v,o,ho,hd⟩:=I.cell x c e
  exact free c o (λz=>(hch c z).2.2.1 x c e rfl) ho (I.freeC x c e)
 .obtain⟨e,n,ne,nf,d⟩:=I.pin p hp
  have nch:p.1∉ch:=λz=>(hch p.1 z).2.2.2 p hp rfl;exact⟨keep p.1 p.2 ne nf nch e n,free p.1 p.2 nch e n,ne,nf,d⟩
theorem Inv.un(I:Inv X pins σ H s)(u:Un X.fs [] H H' s.heap h')(f:HOk X.prog X.w H' h'):Inv X pins σ H' {s with heap:=h',toks:=t' }:=by
 obtain⟨m,⟨o,q,t,g,r⟩,_⟩:=id I.loc;obtain⟨p,j⟩:=u.any g I.free nofun
 exact I.step (ch:=[]) (λ_ z=>nomatch z) (λb o _ v _ e n=>u.keep b o e n v nofun) (λb o _ v _ e n=>u.slot b o e n v nofun) (λb o _ e n=>u.free b o e n nofun) (λb o _ e=>u.there b o e nofun) u.tups u.frzs u.tbls (λk h=>by
  obtain⟨l,c,d,a,i⟩:=h;rw[g]at a;cases a
  exact⟨_,c,d,j,i⟩) f I.bare
def Inv.call(I:Inv X pins σ H s)(u:Un (fR X.stack) ch H H' s.heap h')(i:HOk X.prog X.w H' h')(q:AllBare D)(d:∀b∈ch,(b∈X.ex\/X.s₀.heap.objs.size<=b)/\b≠X.env.locals/\(∀x c,X.env.cells.lookup x=some c->c≠b)/\∀p∈X.pn++pins,p.1≠b):
 Inv X pins σ H' {s with heap:=h',gens:=D,drawn:=E,toks:=t' }:=by
 obtain⟨m,⟨o,B,A,k,r⟩,_⟩:=id I.loc;obtain⟨v,j⟩:=u.any k I.free λz=>(d _ z).2.1 rfl
 exact I.step d (λb o j C a e n=>u.keep b o e n (λz=>(qu (I.stkSub b z)).elim j C) a) (λb o _ _ a e n=>u.any e n a) (λb o a e n=>u.free b o e n a) (λb o a e=>u.there b o e a) u.tups u.frzs u.tbls (λy l=>by
  obtain⟨w,g,h,f,t⟩:=l;rw[k]at f;cases f
  exact⟨_,g,h,j,t⟩) i q
theorem Inv.turned(I:Inv X pins σ H s)(k:∀b o,b≠a->s.heap.get? b=some o->h'.get? b=some o)(t:H a=none)(i:a≠X.env.locals)(w:a∈X.ex\/X.s₀.heap.objs.size<=a)(y:∀x c,X.env.cells.lookup x=some c->c≠a)(l:∀p∈X.pn++pins,p.1≠a):Inv X pins σ H {s with heap:=h',toks:=t' }:=by
 refine I.step (ch:=[a]) (λb A=>?_) (λb o _ _ d e _=>k b o (λz=>d (by simp[z])) e) (λb o _ _ d e _=>⟨o.slots,k b o (λz=>d (by simp[z])) e⟩) (λ_ _ _ _ n=>n)
  (λb o d e=>⟨o,k b o (λz=>d (by simp[z])) e⟩) (λ_ _ e=>e) (λ_ _ _ e=>e) (λb B e=>⟨#[],by rw[e];simp⟩) (λm f=>?_) (λb u e=>?_) I.bare
 .simp_all<;>ac_nf
 .obtain⟨o,g,h,j,r⟩:=f
  exact⟨o,g,h,k _ o (.symm i) j,r⟩
 .refine(I.hok b u e).stay (λc v d q=>k c v ?_ q) (λ_ q=>q) λ_ _ q=>q
  symm
def Inv.tok(I:Inv X pins σ H s)(t:Nat):Inv X pins σ H {s with toks:=t}:=I.un .refl I.hok
def Inv.kept(I:Inv X pins σ H s)(k:∀b u,s.heap.get? b=some u->h'.get? b=some u):Inv X pins σ H {s with heap:=h',toks:=t' }:=I.un (.kept k) (I.hok.kept k)
def Inv.laid{a:Addr}(I:Inv X pins σ H s)(k:∀b u,s.heap.get? b=some u->h'.get? b=some u)(c:(~~~s)<=a)(d:ObjOk X.prog X.w (upd H a o) h' a o):
 Inv X pins σ (upd H a o) {s with heap:=h',toks:=t' }:=I.un (.laid k c (I.hok.fresh c)) (I.hok.laid k c d)
def Inv.write(I:Inv X pins σ H s)(f:nk (H x))(d:e=x\/H e=some (.own x))(k:∀b u,b≠e->s.heap.get? b=some u->h'.get? b=some u)(a:∃u,h'.get? e=some u)(c:ObjOk X.prog X.w (upd H x o) h' x o):Inv X pins σ (upd H x o) {s with heap:=h',toks:=t' }:=I.un (.write f d k a) (I.hok.write f d k a c)
def Inv.pins_of(I:Inv X pins σ H s)(h:∀p∈a,s.heap.get? p.1=some p.2/\H p.1=none/\p.1≠X.env.locals/\p.1∉X.fs/\∀v,p.2.data≠.cell v):Inv X a σ H s:=
 ⟨I.ok,I.os,I.bare,I.base,I.loc,I.cell,I.free,I.freeC,λp b=>(qw b).elim (λz=>I.pin p (List.mem_append_left _ z)) (h p),I.hok,I.len⟩
def LP{N:AJ}(c:N.Nodup){i j:Nat}(a:N[i]?=some x)(b:N[j]?=some x):i=j:=by
 obtain⟨e,f⟩:=qo a;obtain⟨d,g⟩:=qo b;exact(List.getElem_inj c).mp (f.trans g.symm)
theorem LQ(I:Inv X pins σ H s)(hN:X.N.Nodup)(J:X.N[i]?=some x)(g:dX X.env.scope x)(r:RelV v u)(h:∀s',Inv X pins (σ.set i (some v)) H s'->(∃a,Heap.SameBut a s.heap s'.heap/\(a=X.env.locals\/X.env.cells.lookup x=some a))->Q () s')(hf:X.fn x=true\/X.env.scope.names.lookup x=some .local:=by trivial):wpAny M A (storeName X.env x u) Q E s:=by
 obtain⟨m,N,hl⟩:=id I.loc
 have F:(X.env.scope.kind==.class||(X.env.scope.kind==.module&&X.env.locals != X.env.globals))=false:=by rw[I.ok.kind];rfl
 have t:i<σ.length:=by rw[I.len];grind
 have B:=I.cne
 have f:∀{a:Addr}{h':Heap},(∃o,s.heap.get? a=some o/\H a=none)->Heap.SameBut a s.heap h'->HOk X.prog X.w H h':=λ{a h'} ha V b ob e=>by
  refine(I.hok b ob e).stay (λc R l q=>(V.2 c ?_).trans q) (λ_ q=>q) λ_ _ q=>q;grind
 rcases g with D|D
 .refine wpAny_storeName_local D N (λh' hn' V=>?_) F
  obtain⟨oL,_,_,Z,_⟩:=id N;refine h _ ⟨I.ok,I.os,I.bare,⟨λb o e n hb g=>?_,λb o e n hb g=>?_,I.base.free,λb o e g=>?_,I.base.tups,I.base.frzs,I.base.tbls⟩,⟨_,hn',λj y O e1 e2 U=>?_⟩,λy c e=>?_,I.free,I.freeC,λp L=>?_,f ⟨oL,Z,I.free⟩ V,by simpa using I.len⟩ ⟨_,V,.inl rfl⟩
  .exact(V.2 b (qm (Qi (ql e) I.ok.above))).trans (I.base.keep b o e n hb g)
  .obtain⟨T,e1⟩:=I.base.slot b o e n hb g
   exact⟨T,(V.2 b (qm (Qi (ql e) I.ok.above))).trans e1⟩
  .obtain⟨o',e1⟩:=I.base.there b o e g
   exact⟨o',(V.2 b (qm (Qi (ql e) I.ok.above))).trans e1⟩
  .by_cases w:j=i
   .subst w
    rw[J]at e1;cases e1;rw[List.getElem?_set_self t]at e2;cases e2;exact⟨u,r,.inl ⟨D,by simp⟩⟩
   .rw[Qp (Ne.symm w)]at e2
    obtain⟨W,S,q⟩:=hl j y O e1 e2 U;refine⟨W,S,?_⟩;rcases q with⟨k,e⟩|⟨k,c,e,z⟩
    .refine .inl ⟨k,?_⟩
     have:y≠x:=λe=>w (LP hN e1 (e ▸ J));grind
    .exact .inr ⟨k,c,e,z.sameBut V (B y c e)⟩
  .obtain⟨R,z⟩:=I.cell y c e
   exact⟨R,z.sameBut V (B y c e)⟩
  .obtain⟨e,n,K,nf,d⟩:=I.pin p L
   exact⟨(V.2 p.1 K).trans e,n,K,nf,d⟩
 .have C:X.fn x=true:=by
   grind
  obtain⟨c,l⟩:=I.ok.has x (.inl D);obtain⟨R,z⟩:=I.cell x c l;refine wpAny_storeName_cell I.ok.kind D l z (λh' P V=>?_);obtain⟨oc,hoc,hocd⟩:=id z;refine h {s with heap:=h' } ⟨I.ok,I.os,I.bare,⟨λb o e n hb g=>?_,λb o e n hb g=>?_,I.base.free,λb o e g=>?_,I.base.tups,I.base.frzs,I.base.tbls⟩,⟨m,N.sameBut V (Ne.symm (B x c l)),λj y O e1 e2 U=>?_⟩,λy G e=>?_,I.free,I.freeC,λp L=>?_,f ⟨oc,hoc,I.freeC x c l⟩ V,by simpa using I.len⟩ ⟨c,V,.inr l⟩
  .exact(V.2 b (qm (Qi (ql e) (I.ok.cab x c C l)))).trans (I.base.keep b o e n hb g)
  .obtain⟨T,e1⟩:=I.base.slot b o e n hb g
   exact⟨T,(V.2 b (qm (Qi (ql e) (I.ok.cab x c C l)))).trans e1⟩
  .obtain⟨o',e1⟩:=I.base.there b o e g
   exact⟨o',(V.2 b (qm (Qi (ql e) (I.ok.cab x c C l)))).trans e1⟩
  .by_cases w:j=i
   .subst w
    rw[J]at e1;cases e1;rw[List.getElem?_set_self t]at e2;cases e2;exact⟨u,r,.inr ⟨.inl D,c,l,P⟩⟩
   .rw[Qp (Ne.symm w)]at e2
    obtain⟨W,S,q⟩:=hl j y O e1 e2 U;refine⟨W,S,?_⟩;rcases q with q|⟨k,G,e,z'⟩
    .exact .inl q
    .refine .inr ⟨k,G,e,z'.sameBut V ?_⟩
     rintro rfl;exact w (LP hN e1 (I.ok.inj _ _ _ e l ▸ J))
  .by_cases Y:G=c
   .grind
   .obtain⟨w2,z2⟩:=I.cell y G e
    exact⟨w2,z2.sameBut V Y⟩
  .obtain⟨e,n,K,nf,d⟩:=I.pin p L
   refine⟨(V.2 p.1 ?_).trans e,n,K,nf,d⟩;grind
abbrev aae(X:Cx)(x:Str):Prop:=X.fn x=true\/X.env.scope.names.lookup x=some .local
def yc(I:Inv X pins σ H s)(a:X.N.Nodup)(d:X.N[i]?=some x)(b:dX X.env.scope x)(r:RelV v u)(h:∀s',Inv X pins (σ.set i (some v)) H s'->Q () s')(e:aae X x:=by trivial):wpAny M A (storeName X.env x u) Q E s:=
 LQ I a d b r (λs' c _=>h s' c) e
def Inv.call'(I:Inv X pins σ H s)(f:s'.os=s.os)(u:Un (fR X.stack) ch H H' s.heap s'.heap)(d:HOk X.prog X.w H' s'.heap)(e:AllBare s'.gens)(a:∀b∈ch,(b∈X.ex\/X.s₀.heap.objs.size<=b)/\b≠X.env.locals/\(∀x c,X.env.cells.lookup x=some c->c≠b)/\∀p∈X.pn++pins,p.1≠b):Inv X pins σ H' s':=by
 obtain⟨k,h,j,i,g⟩:=s';subst f;exact I.call u d e a
end
abbrev XK:=Value->Option Addr->Hp->Prop
abbrev St:=List (Option V)
abbrev VK:=V->Hp->Prop
abbrev TE:=St->Hp->VK->Prop
abbrev TT:=St->Hp->(Bool->Hp->Prop)->Prop
abbrev TA:=St->Hp->(AM->Hp->Prop)->Prop
structure fA where
 nx:St->Hp->Prop
 rt:VK
 bk:St->Hp->Prop:=λ_ _=>False
 ct:St->Hp->Prop:=λ_ _=>False
abbrev TS:=fA->St->Hp->Prop
def EP(X:Cx)(pins:AB)(σ:St)(Q:VK)(u:Value)(s':Shared):Prop:=∃v a,Inv X pins σ a s'/\RelV v u/\Q v a
def TP(X:Cx)(pins:AB)(σ:St)(Q:Bool->Hp->Prop)(b:Bool)(s':Shared):Prop:=∃a,Inv X pins σ a s'/\Q b a
def AP(X:Cx)(pins:AB)(σ:St)(Q:AM->Hp->Prop)(us:AC)(s':Shared):Prop:=∃a b,Inv X pins σ b s'/\Vals a us/\Q a b
def SP(X:Cx)(pins:AB)(D:fA)(f:Flow)(s':Shared):Prop:=
 match f with
 | .next=>∃a b,Inv X pins a b s'/\D.nx a b
 | .brk=>∃a b,Inv X pins a b s'/\D.bk a b
 | .cont=>∃a b,Inv X pins a b s'/\D.ct a b
 | .ret u=>∃v a b,Inv X pins a b s'/\RelV v u/\D.rt v b
abbrev aag(X:Cx){a:Type}:=@wpAny a (mZ X.prog X.w) X.A
def PE(X:Cx)(e:Expr)(t:TE):Prop:=
 ∀(a:List _) (s:Shared) (b:St) (H:Hp) (Q:VK),Inv X a b H s->t b H Q->aag X (eval e X.env) (EP X a b Q) X.xe s
def PT(X:Cx)(e:Expr)(t:TT):Prop:=
 ∀(a:List _) (s:Shared) (b:St) (H:Hp) (Q:Bool->Hp->Prop),Inv X a b H s->t b H Q->aag X (isTrue e X.env (eval e X.env)) (TP X a b Q) X.xe s
def PW(X:Cx)(e:Expr)(t:TT):Prop:=
 ∀(a:Sem _) (b:List _) (s:Shared) (c:St) (H:Hp) (Q:Bool->Hp->Prop),Inv X b c H s->t c H Q->aag X (isTrue e X.env a) (TP X b c Q) X.xe s
def PW.pt(h:PW X e t):PT X e t:=h _
def PA(X:Cx)(b:AK)(t:TA):Prop:=
 ∀(a:Pos) (c:List _) (s:Shared) (d:St) (H:Hp) (Q:AM->Hp->Prop),Inv X c d H s->t d H Q->aag X (spliced (backTo a (starEach b X.env))) (AP X c d Q) X.xe s
def PS(X:Cx)(st:Stmt)(t:TS):Prop:=
 ∀(a:List _) (s:Shared) (b:St) (H:Hp) (D:fA),Inv X a b H s->t D b H->aag X (exec st X.env) (SP X a D) X.xe s
def PSs(X:Cx)(st:List Stmt)(t:TS):Prop:=
 ∀(a:List _) (s:Shared) (b:St) (H:Hp) (D:fA),Inv X a b H s->t D b H->aag X (execs st X.env) (SP X a D) X.xe s
def aM(h:wpAny M A t Q E s)(c:∀a s,Q a s->b a s):wpAny M A t b E s:=wz h c λ_ _ x=>x
section
def yd(i:Nat):TE:=λa H Q=>∃v,a[i]?=some (some v)/\Q v H
def tC(v:V):TE:=λ_ H Q=>Q v H
abbrev da(x:Str):Prop:=(x==("__debug__":Str))=false
abbrev gK(x:Str):Prop:=(x==("__classdict__":Str))=false
def g_{j:Pos}(p:X.N[i]?=some x)(o:fS X.env.scope x)(f:da x:=by decide)(g:gK x:=by decide):PE X (.Name x j) (yd i):=by
 intro w s y H Q I h;obtain⟨v,e,h⟩:=h;obtain⟨m,n,q⟩:=I.loc;obtain⟨u,r,l⟩:=q i x v p e o
 have b:EP X _ y Q u s:=⟨v,H,I,r,h⟩
 rcases l with⟨d,t⟩|⟨d,c,k,a⟩
 .exact wpAny_Name (wpAny_loadName_local I.ok.kind d n t b) f
 .rcases d with d|d
  .exact wpAny_Name (wpAny_loadName_cell I.ok.kind d k a b) f
  .exact wpAny_Name (wpAny_loadName_free I.ok.kind d k a b g) f
def ye{i j a}:PE X (.Constant (.int i) j a) (tC (.int i)):=λ_ _ _ H _ I h=>wpAny_Constant_int ⟨.int i,H,I.tok _,⟨_,rfl⟩,h⟩
def yf{b j a}:PE X (.Constant (.bool b) j a) (tC (.bl b)):=λ_ _ _ H _ I h=>Constant_bool ⟨.bl b,H,I,rfl,h⟩
def yg{j a}:PE X (.Constant .none j a) (tC .non):=λ_ _ _ H _ I h=>Constant_none ⟨.non,H,I,rfl,h⟩
def yh{x j b}:PE X (.Constant (.str x) j b) (tC (.str x)):=λ_ _ _ H _ I h=>Calls.Constant_str ⟨.str x,H,I.tok _,⟨_,rfl⟩,h⟩
def Gl(X:Cx)(x:Str):Prop:=X.env.kindOf x=some .globalImplicit
def LR{σ:St}(I:Inv X pins σ H s)(d:Gl X x)(e:X.mg x=some u)(h:Q u s)(c:da x:=by decide):aag X (eval (.Name x b) X.env) Q E s:=
 Calls.Name_function_global I.ok.kind d (Calls.loadGlobal_global (by rw[I.ok.glob];exact I.mod.glob.keeps I.bk) e h) c
theorem iZ{E:AA}{σ:St}{b:Pos}(I:Inv X pins σ H s)(e:Gl X x)(g:X.mg x=none)(c:bootBuiltins x=some u)(h:Q u s)(j:x≠"__name__":=by decide)(f:da x:=by decide):aag X (eval (.Name x b) X.env) Q E s:=by
 obtain⟨k,i,d⟩:=I.mod.blt;exact Calls.Name_function_global I.ok.kind e (Calls.loadGlobal_builtin (by rw[I.ok.glob];exact I.mod.glob.keeps I.bk) g (by rw[I.ok.blt];exact i.keeps I.bk) ((d x j).trans c) h) f
def yi{a:Pos}(d:Gl X x)(e:X.mg x=none)(b:bootBuiltins x=some u)(r:RelV v u)(f:x≠"__name__":=by decide)(c:da x:=by decide):PE X (.Name x a) (tC v):=
 λ_ _ _ H _ I h=>iZ I d e b ⟨v,H,I,r,h⟩ f c
variable {a b:Expr}{ta tb:TE}
variable {tA tB':TT}{rest:AK}
def nq(t u:TT):TT:=λa H Q=>t a H λc d=>if c=true then u a d Q else Q false d
def LS(t u:TT):TT:=λa H Q=>t a H λc d=>if c=true then Q true d else u a d Q
def yj(t:TT):TT:=λa H Q=>t a H λc d=>Q (!c) d
def yk(d:PT X a tA):PW X (.BoolOp .And [a] pos) tA:=by
 intro g b s i H Q I h;refine isTrue_and (aM (d _ s i H Q I h) λc f e=>?_)
 cases c with
 | true=>exact isTrue_and_nil e
 | false=>exact e
def ym(d:PT X a tA):PW X (.BoolOp .Or [a] pos) tA:=by
 intro g b s i H Q I h;refine isTrue_or (aM (d _ s i H Q I h) λc f e=>?_)
 cases c with
 | false=>exact isTrue_or_nil e
 | true=>exact e
def yn(i:PT X a tA)(n:PW X (.BoolOp .And (b::rest) pos) tB'):PW X (.BoolOp .And (a::b::rest) pos) (nq tA tB'):=by
 intro k l s m H Q I h;refine isTrue_and (aM (i _ s m H _ I h) λc j d=>?_);obtain⟨g,f,e⟩:=d
 cases c with
 | true=>exact n k _ j m g Q f e
 | false=>exact⟨g,f,e⟩
def yo(i:PT X a tA)(n:PW X (.BoolOp .Or (b::rest) pos) tB'):PW X (.BoolOp .Or (a::b::rest) pos) (LS tA tB'):=by
 intro k l s m H Q I h;refine isTrue_or (aM (i _ s m H _ I h) λc j d=>?_);obtain⟨g,f,e⟩:=d
 cases c with
 | true=>exact⟨g,f,e⟩
 | false=>exact n k _ j m g Q f e
def yp(d:PT X a tA):PT X (.UnaryOp .Not a pos) (yj tA):=by
 intro b s c H Q I h;exact isTrue_not (d _ s c H _ I h)
def yq(ta tb:TE):TE:=λa H Q=>ta a H λx d=>∃c,x=.bl c/\if c=true then tb a d Q else Q (.bl false) d
def yr(ta tb:TE):TE:=λσ H Q=>ta σ H λx d=>∃c,x=.bl c/\if c=true then Q (.bl true) d else tb σ d Q
def yt(ta:TE):TE:=λa H Q=>ta a H λx d=>∃c,x=.bl c/\Q (.bl (!c)) d
def nt{e}(h:PE X a t):PE X (.BoolOp e [a] pos) t:=λb s d H Q I c=>BoolOp_one (h _ s d H Q I c)
def yu(k:PE X a ta)(n:PE X (.BoolOp .And (b::rest) pos) tb):PE X (.BoolOp .And (a::b::rest) pos) (yq ta tb):=by
 intro l s m H Q I h;refine BoolOp_and (aM (k _ s m H _ I h) λv i e=>?_);obtain⟨x,f,g,j,d⟩:=e;obtain⟨c,rfl,d⟩:=d;cases j;refine wpAny_truthy_bool ?_
 cases c with
 | true=>exact n _ i m f Q g d
 | false=>exact⟨.bl _,f,g,rfl,d⟩
def yv(k:PE X a ta)(hb:PE X (.BoolOp .Or (b::rest) pos) tb):PE X (.BoolOp .Or (a::b::rest) pos) (yr ta tb):=by
 intro pins s σ H Q I h;refine BoolOp_or (aM (k pins s σ H _ I h) λv i e=>?_);obtain⟨x,f,g,j,d⟩:=e;obtain⟨c,rfl,d⟩:=d;cases j;refine wpAny_truthy_bool ?_
 cases c with
 | false=>exact hb pins i σ f Q g d
 | true=>exact⟨.bl true,f,g,rfl,d⟩
def yw(j:PE X a ta):PE X (.UnaryOp .Not a pos) (yt ta):=by
 intro b s l H Q I h;refine UnaryOp_ (aM (j _ s l H _ I h) λv k d=>?_);obtain⟨x,i,g,f,e⟩:=d;obtain⟨c,rfl,e⟩:=e;cases f;exact not_of (wpAny_truthy_bool ⟨.bl _,i,g,rfl,e⟩)
def RO(t:TT)(ta tb:TE):TE:=λa H Q=>t a H λc d=>if c=true then ta a d Q else tb a d Q
def yx(l:PT X c tA)(k:PE X a ta)(o:PE X b tb):PE X (.IfExp c a b pos) (RO tA ta tb):=by
 intro n s m H Q I h;refine wpAny_IfExp (aM (l _ s m H _ I h) λd j e=>?_);obtain⟨i,g,f⟩:=e
 cases d with
 | true=>exact k _ j m i Q g f
 | false=>exact o _ j m i Q g f
end
def SqL(K:W7)(H:Hp)(a:Addr)(xs:AM):Prop:=
 Rd H a (.lst xs)\/
  ∃(o:Obj) (b:Array _) (n:Nat),K.lookup a=some o/\o.cls=.type "list"/\o.dict=none/\o.data=.seq b n/\b.size<=sizeLine/\Vals xs b.toList
def SqT(K:W7)(H:Hp)(a:Addr)(xs:AM):Prop:=
 Rd H a (.tup xs)\/
  ∃(o:Obj) (b:Array _) (n:Nat),K.lookup a=some o/\o.cls=.type "tuple"/\o.data=.seq b n/\b.size<=sizeLine/\Vals xs b.toList
noncomputable def yy:Value->Option V
 | .none=>some .non
 | .bool b=>some (.bl b)
 | .int i _=>some (.int i)
 | .str x _=>some (.str x)
 | .bytes b _=>some (.byt b)
 | .float b _=>some (.flt b)
 | .ref a=>some (.ref a)
 | .type n=>some (.ty n)
 | _=>none
def RelV.abs(r:RelV x u):yy u=some x:=by
 cases x with
 | non=>cases r;rfl
 | bl _=>cases r;rfl
 | int _=>obtain⟨t,rfl⟩:=r;rfl
 | str _=>obtain⟨t,rfl⟩:=r;rfl
 | byt _=>obtain⟨t,rfl⟩:=r;rfl
 | flt _=>obtain⟨t,rfl⟩:=r;rfl
 | ref _=>cases r;rfl
 | ty _=>cases r;rfl
def RelV.inj(r:RelV x u)(q:RelV y u):x=y:=w4 (r.abs.symm.trans q.abs)
theorem Vals.inj:∀{xs ys:AM}{us:AC},Vals xs us->Vals ys us->xs=ys
 :=by
  intro xs ys us h
  induction h generalizing ys with
  | nil=>
    intro a;cases a;rfl
  | cons r t c=>
    intro a
    cases a with
    | cons b d=>rw[r.inj b,c d]
section
variable {σ:St}{H:Hp}{s:Shared}{a:Addr}{xs:AM}
def SqL.of{K:W7}(h:H a=some (.lst xs)):SqL K H a xs:=.inl (.inl h)
def SqT.of{K:W7}(h:H a=some (.tup xs)):SqT K H a xs:=.inl (.inl h)
theorem Inv.list(I:Inv X pins σ H s)(h:SqL X.K H a xs):∃its:AC,Vals xs its/\PlainL s.heap a its.toArray/\xs.length<=sizeLine:=by
 rcases h with h|⟨o,its,n,c,d,b,g,f,r⟩
 .obtain⟨z,its,n,r,e⟩:=h.ok I.hok
  exact⟨its,r,⟨_,n,e,rfl,rfl,rfl⟩,z⟩
 .refine⟨its.toList,r,⟨o,n,I.kIn a o c,d,b,by simpa using g⟩,?_⟩
  have e:=r.length
  ext
theorem Inv.tuple(I:Inv X pins σ H s)(h:SqT X.K H a xs):∃its:AC,Vals xs its/\IsTup s.heap a its.toArray/\xs.length<=sizeLine:=by
 rcases h with h|⟨o,its,n,c,b,d,f,r⟩
 .obtain⟨z,its,r,p⟩:=h.ok I.hok
  exact⟨its,r,p,z⟩
 .refine⟨its.toList,r,⟨o,I.kIn a o c,b,n,by simpa using d⟩,?_⟩
  have e:=r.length
  ext
theorem Inv.list_inj(I:Inv X pins σ H s)(h:SqL X.K H a xs)(k:SqL X.K H a ys):xs=ys:=by
 obtain⟨j,r,⟨o,n,e,_,_,d⟩,_⟩:=I.list h;obtain⟨i,b,⟨c,f,g,_,_,l⟩,_⟩:=I.list k
 have:j=i:=by grind
 subst this;exact r.inj b
theorem Inv.tuple_inj(I:Inv X pins σ H s)(h:SqT X.K H a xs)(k:SqT X.K H a ys):xs=ys:=by
 obtain⟨j,r,⟨o,e,_,n,d⟩,_⟩:=I.tuple h;obtain⟨i,b,⟨c,g,_,f,l⟩,_⟩:=I.tuple k
 have:j=i:=by grind
 subst this;exact r.inj b
end
noncomputable abbrev Cx.wish(X:Cx)(E:AA):Cx:={X with xe:=E}
abbrev Cx.nox(X:Cx):Cx:=X.wish λ_ _=>False
def Cx.Ok.wish{X:Cx}(a:X.Ok)(E:AA):(X.wish E).Ok:=
 ⟨a.mod,a.kind,a.glob,a.blt,a.above,a.inj,a.has,a.cab,a.hd,a.frames,a.stk,a.exf,a.bs,a.bsz,a.noex,a.exfs,a.funs,a.frf⟩
def Cx.Ok.unwish{X:Cx}(a:(X.wish E).Ok):X.Ok:=
 ⟨a.mod,a.kind,a.glob,a.blt,a.above,a.inj,a.has,a.cab,a.hd,a.frames,a.stk,a.exf,a.bs,a.bsz,a.noex,a.exfs,a.funs,a.frf⟩
section
variable {σ:St}{H:Hp}{s:Shared}{E:AA}{st:Stmt}{rest:List Stmt}{t u:TS}{e:Expr}{te:TE}
def Inv.wish(I:Inv X pins σ H s)(E:AA):Inv (X.wish E) pins σ H s:=⟨I.ok.wish E,I.os,I.bare,I.base,I.loc,I.cell,I.free,I.freeC,I.pin,I.hok,I.len⟩
def Inv.unwish(I:Inv (X.wish E) pins σ H s):Inv X pins σ H s:=⟨I.ok.unwish,I.os,I.bare,I.base,I.loc,I.cell,I.free,I.freeC,I.pin,I.hok,I.len⟩
def SP.unwish(h:SP (X.wish E) pins D f s'):SP X pins D f s':=by
 cases f with
 | next=>obtain⟨a,b,I,q⟩:=h;exact⟨a,b,I.unwish,q⟩
 | brk=>obtain⟨a,b,I,q⟩:=h;exact⟨a,b,I.unwish,q⟩
 | cont=>obtain⟨a,b,I,q⟩:=h;exact⟨a,b,I.unwish,q⟩
 | ret u=>obtain⟨v,a,b,I,r,q⟩:=h;exact⟨v,a,b,I.unwish,r,q⟩
def PSs.nox{st:List Stmt}(h:PSs X.nox st t):PSs X st t:=λb s c H D I a=>
 wz (h _ s c H D (I.wish _) a) (λ_ _ q=>q.unwish) λ_ _ z=>False.elim z
def yz:TS:=λD a H=>D.nx a H
def yA(t u:TS):TS:=λD a H=>t {D with nx:=u D} a H
def yB:PSs X [] yz:=λ_ _ a H _ I h=>wpAny_execs_nil ⟨a,H,I,h⟩
def yC(a:PS X st t)(c:PSs X rest u):PSs X (st::rest) (yA t u):=by
 intro g s i H D I h;refine wpAny_execs_cons (aM (a _ s i H _ I h) λf b q=>?_)
 cases f with
 | next=>
   obtain⟨e,j,d,q⟩:=q;exact c _ b e j D d q
 | ret v=>exact q
 | brk=>exact q
 | cont=>exact q
def yD(a:PS X st t):PSs X [st] t:=by
 intro c s d H D I h;refine wpAny_execs_cons (aM (a _ s d H D I h) λf b q=>?_)
 cases f with
 | next=>exact wpAny_execs_nil q
 | ret v=>exact q
 | brk=>exact q
 | cont=>exact q
def Inv.quiet(I:Inv X pins σ H s):interactive X.env=false:=by simp[interactive,I.ok.kind]
def yE(te:TE):TS:=λD b H=>te b H λ_ a=>D.nx b a
def tG(f:PE X e te)(hs:swapsWith e none pos.line X.env=pure false:=by rfl):PS X (.Expr e pos) (yE te):=by
 intro j s k H D I h;refine wpAny_Expr_any (aM (f _ s k H _ I h) λv i a=>?_) I.quiet hs;obtain⟨x,d,c,g,b⟩:=a;exact⟨k,d,c,b⟩
def yF(te:TE):TS:=λD a H=>te a H D.rt
def yG(d:PE X e te):PS X (.Return (some e) pos) (yF te):=by
 intro j s k H D I h;refine wpAny_Return_some (aM (d _ s k H _ I h) λv i a=>?_);obtain⟨x,g,c,b,f⟩:=a;exact⟨x,k,g,c,b,f⟩
def yH(c:TT)(t u:TS):TS:=λD d H=>c d H λb a=>if b=true then t D d a else u D d a
def yI(m:PT X c n)(l:PSs X a t)(p:PSs X b u):PS X (.If c a b pos) (yH n t u):=by
 intro o s e H D I h;refine wpAny_If (aM (m _ s e H _ I h) λd g f=>?_);obtain⟨k,i,j⟩:=f
 cases d with
 | true=>exact l _ g e k D i j
 | false=>exact p _ g e k D i j
end
abbrev TG:=V->St->Hp->(St->Hp->Prop)->Prop
abbrev nu:=AM->St->Hp->(St->Hp->Prop)->Prop
def PG(X:Cx)(a:Expr)(t:TG):Prop:=
 ∀(b:List _) (s:Shared) (d:St) (H:Hp) (v:V) (u:Value) (Q:St->Hp->Prop),Inv X b d H s->RelV v u->t v d H Q->
  aag X (assign a X.env u) (λ_ f=>∃c e,Inv X b c e f/\Q c e) X.xe s
def tH(X:Cx)(a:AK)(t:nu):Prop:=
 ∀(b:List _) (s:Shared) (g:St) (H:Hp) (f:AM) (e:List _) (Q:St->Hp->Prop),Inv X b g H s->Vals f e->t f g H Q->
  aag X (assignInOrder ((assignEach a X.env).map (·.2)) e) (λ_ h=>∃c d,Inv X b c d h/\Q c d) X.xe s
abbrev nv:=V->V->V->Hp->(Hp->Prop)->Prop
def hJ(X:Cx)(t:nv):Prop:=
 ∀(a:List _) (s:Shared) (d:St) (H:Hp) (o i v:V) (b c u:Value) (Q:Hp->Prop),Inv X a d H s->RelV o b->RelV i c->RelV v u->t o i v H Q->
  aag X (setItem b c u) (λ_ f=>∃e,Inv X a d e f/\Q e) X.xe s
abbrev yJ:=V->V->Hp->VK->Prop
def LU(X:Cx)(c:Operator)(t:yJ):Prop:=
 ∀(a:List _) (s:Shared) (b:St) (H:Hp) (x y:V) (v u:Value) (Q:VK),Inv X a b H s->RelV x v->RelV y u->t x y H Q->
  aag X (inplaceOp c v u) (EP X a b Q) X.xe s
def lR(i:Nat):TG:=λv a H Q=>Q (a.set i (some v)) H
def yK(a:X.N.Nodup)(d:X.N[i]?=some x)(b:dX X.env.scope x)(e:aae X x:=by trivial):PG X (.Name x pos) (lR i):=by
 intro f s j H v u Q I r h;exact wpAny_assign_Name (yc I a d b r (λg c=>⟨_,H,c,h⟩) e)
def yL:nu:=λb a H Q=>b=[]/\Q a H
def yM(t:TG)(u:nu):nu:=λd b H Q=>∃v r,d=v::r/\t v b H λa c=>u r a c Q
def yN:tH X [] yL:=by
 intro a s b H d c Q I r h;obtain⟨e,h⟩:=h;exact assignInOrder_nil ⟨b,H,I,h⟩
def LV(k:PG X e t)(i:tH X a u)(hs:(assignEach (e::a) X.env).map (·.2)=assign e X.env::(assignEach a X.env).map (·.2):=by rfl):tH X (e::a) (yM t u):=by
 intro n s o H w q Q I r h;obtain⟨v,m,p,h⟩:=h;subst p
 cases r with
 | cons r f=>
   rw[hs];refine assignInOrder_cons (aM (k _ s o H _ _ _ I r h) λ_ d b=>?_);obtain⟨c,j,g,l⟩:=b;exact i _ d c j _ _ Q g f l
def yO(K:W7)(n:Nat)(t:nu):TG:=λv d H Q=>∃a c,v=.ref a/\SqT K H a c/\c.length=n/\t c d H Q
theorem yP{k:Nat}(l:X.calm=true)(h:tH X f t)(m:(assignEach f X.env).length=n:=by rfl)(d:(assignEach f X.env).findIdx? (·.1)=none:=by rfl):PG X (.Tuple f k pos) (yO X.K n t):=by
 intro x s B H v u Q I r c;obtain⟨a,z,y,p,q,c⟩:=c;subst y;cases r;obtain⟨A,i,j,w⟩:=I.tuple p;exact assign_Tuple_tuple (I.ok.hd l) j (by simp[m,<-q,i.length]) d λC g=>h _ _ B H z _ Q (I.kept λb o e=>g b o (qm (ql e)) e) (by grind) c
def yQ(b f:TE)(t:nv):TG:=λv a H Q=>b a H λo d=>f a d λi c=>t o i v c λe=>Q a e
def yR(n:PE X o D)(k:PE X i f)(hs:hJ X t)(B:∀v,assign (.Subscript o i pos) X.env v=(do
  let b <-holding [v] (eval o X.env)
  let c <-holding [v,b] (eval i X.env)
  standAt pos
  holding [v,b,c] (setItem b c v)
  release [v,b,c] []):=by intro _;rfl):PG X (.Subscript o i pos) (yQ D f t):=by
 intro e s d H v u Q I r h;rw[B];refine wa (wc (aM (n _ s d H _ I h) λb m a=>?_));obtain⟨x,p,j,G,q⟩:=a;refine wa (wc (aM (k _ m d p _ j q) λc l a=>?_));obtain⟨y,E,C,A,F⟩:=a;refine wa (wpAny_standAt (wa (wc (aM (hs _ l d E x y v b c u _ C G A r F) λ_ J a=>?_))));obtain⟨w,g,z⟩:=a;exact wpAny_release ⟨d,w,g,z⟩
def gc(a:TE)(g:TG):TS:=λD c H=>a c H λx b=>g x c b D.nx
theorem yS(i:PE X e m)(j:PG X a g)(hs:swapsWithSole [a] e pos.line X.env=pure false:=by rfl)(o:swappedStores [a] e X.env=pure none:=by rfl)(n:(assignEach [a] X.env).map (·.2)=[assign a X.env]:=by rfl):PS X (.Assign [a] e pos) (gc m g):=by
 intro r s t H D I h;refine wpAny_Assign_stores (aM (i _ s t H _ I h) λv c b=>?_) hs o;obtain⟨x,d,l,k,f⟩:=b;rw[n];exact aM (j _ c t d x v _ l k f) λ_ p q=>q
def lS(c:X.N.Nodup)(o:X.N[i]?=some x)(p:dX X.env.scope x)(j:PE X e n)(hs:swapsWith e (some (.Name x a)) pos.line X.env=pure false:=by rfl)(g:aae X x:=by trivial):
 PS X (.Assign [.Name x a] e pos) (gc n (lR i)):=by
 intro t s u H D I h;refine wpAny_Assign_Name (aM (j _ s u H _ I h) λv r b=>?_) hs;obtain⟨y,d,m,l,f⟩:=b;exact yc m c o p l (λq k=>⟨_,d,k,f⟩) g
def yT(i:Nat)(d:TE)(e:yJ):TS:=λD a H=>∃x,a[i]?=some (some x)/\d a H λy c=>e x y c λz b=>D.nx (a.set i (some z)) b
theorem yU(hN:X.N.Nodup)(A:X.N[i]?=some x)(o:dX X.env.scope x)(V:PE X e E)(Y:LU X B J)(T:aae X x:=by trivial):
 PS X (.AugAssign (.Name x q) B e pos) (yT i E J):=by
 intro g s t H D I h;obtain⟨v,G,h⟩:=h;obtain⟨m,N,M⟩:=I.loc
 have n:fS X.env.scope x:=by rcases o with k|k;exact .inl k;exact .inr (.inl k)
 obtain⟨u,r,l⟩:=M i x v A G n;refine wpAny_AugAssign_Name ?_
 have p:aag X (eval e X.env) (λw f=>aag X (inplaceOp B u w) (λr j=>aag X (storeName X.env x r) (λ_=>SP X g D .next) X.xe j) X.xe f) X.xe s:=by
  refine aM (V _ s t H _ I h) λw L b=>?_;obtain⟨y,H1,R,O,C⟩:=b;refine aM (Y _ L t H1 v y u w _ R r O C) λz s2 b=>?_;obtain⟨zv,H2,Z,U,F⟩:=b;exact yc Z hN A o U (λs3 Q=>⟨_,H2,Q,F⟩) T
 rcases l with⟨a,K⟩|⟨a,c,S,d⟩
 .exact wpAny_loadName_local I.ok.kind a N K p
 .rcases a with a|a
  .exact wpAny_loadName_cell I.ok.kind a S d p
  .rcases o with k|k
   .have:X.env.scope.names.lookup x=_:=a
    ext
   .have:X.env.scope.names.lookup x=_:=a
    ext
def RP(f:Int->Int->Int):yJ:=λx y H Q=>∃i j,x=.int i/\y=.int j/\Q (.int (f i j)) H
def yV:LU X .Add (RP λi j=>i+j):=by
 intro a s g H x y v u Q I d e h;obtain⟨i,j,b,c,q⟩:=h;subst b c;obtain⟨t,rfl⟩:=d;obtain⟨f,rfl⟩:=e;exact iadd_int ⟨.int _,H,I.tok _,⟨_,rfl⟩,q⟩
def yW(c:TT)(e:TS):TS:=λD f H=>∃W:Nat->St->Hp->Prop,(∃m,W m f H)/\∀m f H,W m f H->
 c f H λb d=>if b=true then ∃N:St->Hp->Prop,(∀g h,N g h->∃a,a<m/\W a g h)/\e {D with nx:=N,ct:=N,bk:=D.nx} f d else D.nx f d
def yX(B:PassesOwn (mZ X.prog X.w) X.A X.env X.xe)(M:PT X c J)(hb:PSs X e L):PS X (.While c e [] pos) (yW J L):=by
 intro z s E H D I h;obtain⟨W,⟨R,O⟩,j⟩:=h;refine wpAny_While (codeAny_whileLoop (λn K=>∃g x,Inv X _ g x K/\W n g x) ?_ R ⟨E,H,I,O⟩);rintro n C ⟨d,w,F,G⟩;refine wpAny_passesOwn B (aM (M _ C d w _ F (j n d w G)) λb Q q=>?_);obtain⟨y,u,l⟩:=q
 cases b with
 | true=>
   obtain⟨N,A,l⟩:=l;refine wpAny_passesOwn B (aM (hb _ Q d y _ u l) λf S k=>?_)
   cases f with
   | next=>
     obtain⟨a,i,o,r⟩:=k;obtain⟨p,t,m⟩:=A a i r;exact⟨p,t,a,i,o,m⟩
   | cont=>
     obtain⟨a,i,o,r⟩:=k;obtain⟨p,t,m⟩:=A a i r;exact⟨p,t,a,i,o,m⟩
   | brk=>exact k
   | ret v=>exact k
 | false=>
   exact wpAny_execs_nil ⟨d,y,u,l⟩
structure It where
 go:Nat->Hp->Prop
 yld:Nat->Hp->V->Hp->Prop
 stop:Nat->Hp->Prop
def c4(X:Cx)(pins:AB)(H:Hp)(b:Addr):Prop:=
 H b=none/\b≠X.env.locals/\b∉X.fs/\(b∈X.ex\/X.s₀.heap.objs.size<=b)/\(∀x c,X.env.cells.lookup x=some c->c≠b)/\∀p∈X.pn++pins,p.1≠b
theorem Inv.fpOk{σ:St}{b:Addr}(I:Inv X pins σ H s)(f:(~~~s)<=b)(a:H' b=none):c4 X pins H' b:=by
 refine⟨a,Nat.ne_of_gt (Qi I.lt f),I.nofs f,.inr (Qg I.sz f),λx c e z=>?_,λp d z=>?_⟩
 .obtain⟨v,q⟩:=I.cell x c e
  exact absurd (Qi q.lt (by ext)) (Nat.lt_irrefl _)
 .exact absurd (Qi (ql (I.pin p d).1) (by ext)) (Nat.lt_irrefl _)
structure d7(P:P7)(w:World)(K:W7)(tg:Expr)(J:It)(fp:List Addr)(it:Addr)(tn:Nat->Heap->Prop):Prop where
 mem:it∈fp
 obj:∀i h,tn i h->∀b∈fp,∃o,h.get? b=some o/\∀v,o.data≠.cell v
 keep:∀i h h',tn i h->(∀b∈fp,∀o,h.get? b=some o->h'.get? b=some o)->tn i h'
 item:∀(X:Cx),X.prog=P->X.w=w->X.K=K->X.calm=true->∀(i:Nat) (pins:AB) (s:Shared) (σ:St) (H:Hp) (E:AA),Inv X pins σ H s->(∀b∈fp,c4 X pins H b)->tn i s.heap->J.go i H->
  wpAny (mZ P w) X.A (pyNext (.ref it)) (λr s1=>∃u,r=some u/\
   wpAny (mZ P w) X.A (letOwnedTupleGo tg (.ref it) u) (λ_ s2=>∃x H',Inv X pins σ H' s2/\RelV x u/\J.yld i H x H'/\tn (i+1) s2.heap/\∀b∈fp,H' b=none) E s1) E s
 done:∀(X:Cx),X.prog=P->X.w=w->X.K=K->X.calm=true->∀(i:Nat) (pins:AB) (s:Shared) (σ:St) (H:Hp) (E:AA),Inv X pins σ H s->(∀b∈fp,c4 X pins H b)->tn i s.heap->J.stop i H->
  wpAny (mZ P w) X.A (pyNext (.ref it)) (λr s1=>r=none/\Inv X pins σ H s1) E s
 self:∀(A:Around) (i:Nat) (s:Shared) (Q:AA) (E:AA),tn i s.heap->Q (.ref it) s->wpAny (mZ P w) A (pyIter (.ref it)) Q E s
abbrev TI:=St->Hp->(It->Hp->Prop)->Prop
def LW(X:Cx)(pins:AB)(σ:St)(g:Expr)(R:It->Hp->Prop)(a:Value)(e:Shared):Prop:=
 ∃(f:Addr) (d:List _) (c:Nat->Heap->Prop) (J:It) (h:Hp),a=.ref f/\Inv X pins σ h e/\d7 X.prog X.w X.K g J d f c/\c 0 e.heap/\(∀b∈d,c4 X pins h b)/\R J h
def PI(X:Cx)(d a:Expr)(b:TI):Prop:=
 ∀(e:List _) (s:Shared) (f:St) (H:Hp) (R:It->Hp->Prop),Inv X e f H s->b f H R->
  aag X (eval a X.env) (λv c=>aag X (pyIter v) (LW X e f d R) X.xe c) X.xe s
theorem hP(f:s.heap.get? c=some o)(b:o.cls=.type n)(e:o.data=.fields vs)(g:["enumerate","zip","dict_itemiterator","dict_reverseitemiterator","odict_iterator","itertools.zip_longest","itertools.pairwise"].contains n=false)(a:Q () s):wpAny M A (letOwnedTupleGo d (.ref c) u) Q E s:=by
 cases d<;>first
  | exact wb a
  | (cases u<;>first
   | exact wb a
   | (refine wa (wpAny_load f ?_)
      rw[b,e];show wpAny M A (if _ then _ else _) Q E s;rw[if_neg ⋯]
      exact wb a))
noncomputable def LY(K:W7)(a:Addr):It:=
 ⟨λi H=>∃b x,SqL K H a b/\b[i]?=some x,λi H x d=>d=H/\∀b,SqL K H a b->b[i]?=some x,λi H=>∃b,SqL K H a b/\b.length<=i⟩
def LZ(K:W7)(a:Addr):It:=
 ⟨λi H=>∃b x,SqT K H a b/\b[i]?=some x,λi H x d=>d=H/\∀b,SqT K H a b->b[i]?=some x,λi H=>∃b,SqT K H a b/\b.length<=i⟩
def ny(lo:Int)(n:Nat):It:=⟨λi _=>i<n,λi H x a=>a=H/\x=.int (lo+i),λi _=>n<=i⟩
theorem RQ{K:W7}(a g:Addr):d7 P w K tg (LY K a) [g] g (λi h=>h.IsListIter g a i) where
 mem:=by simp
 obj:=λi h st b f=>by
  have e:=by simpa using f
  subst e;obtain⟨o,e,c,d⟩:=st;exact⟨o,e,λv z=>by rw[d]at z;cases z⟩
 keep:=λi h M st k=>st.at λo e=>k g nofun o e
 item:=by
  intro X B F C N i j s σ H E I n st L;subst B F C;obtain⟨U,x,m,O⟩:=L;obtain⟨A,r,p,Z⟩:=I.list m;obtain⟨u,R,S⟩:=r.get O;obtain⟨t,G,T,y,J,D⟩:=n g nofun;refine wpAny_pyNext_list_item st p.isList (by simpa using R) λM l Y=>?_;obtain⟨o,e,c,d⟩:=id l;exact⟨u,rfl,hP e c d (by decide) ⟨x,H,I.turned (t':=s.toks) (λb o f e=>(Y.2 b f).trans e) t G y J D,S,⟨rfl,λys Q=>by rwa [I.list_inj Q m]⟩,l,λb f=>(n b f).1⟩⟩
 done:=by
  intro X B F C N i j s σ H E I n st L;subst B F C;obtain⟨U,m,O⟩:=L;obtain⟨A,r,p,Z⟩:=I.list m;obtain⟨t,G,T,y,J,D⟩:=n g nofun;have hl:=r.length
  exact wpAny_pyNext_list_end (I.ok.hd N) st p.isList (by simp;ext) λM V=>⟨rfl,I.turned (λb o f e=>V b o f e) t G y J D⟩
 self:=λ_ _ _ _ _ st h=>wpAny_pyIter_listiter st h
theorem RT{K:W7}(a f:Addr):d7 P w K S (LZ K a) [f] f (λi h=>h.IsTupleIter f a i) where
 mem:=by simp
 obj:=λi h st b m=>by
  obtain⟨o,e,c,d⟩:=st;grind
 keep:=λi h Y st k=>st.at λo e=>k f nofun o e
 item:=by
  intro X r n C F i T s σ H E I l st t;subst r n C;obtain⟨Z,x,j,z⟩:=t;obtain⟨U,A,p,J⟩:=I.tuple j;obtain⟨u,R,G⟩:=A.get z;obtain⟨q,y,N,v,B,D⟩:=l f nofun;refine wpAny_pyNext_tuple_item st (p) (x:=u) (by grind) λY g M=>?_;obtain⟨o,e,c,d⟩:=id g;exact⟨u,rfl,hP e c d (by decide) ⟨x,H,I.turned (λb o m e=>(M.2 b m).trans e) q y v B D,G,⟨rfl,λys L=>by rwa [I.tuple_inj L j]⟩,g,λb m=>(l b m).1⟩⟩
 done:=by
  intro X r n C F i T s σ H E I l st t;subst r n C;obtain⟨Z,j,z⟩:=t;obtain⟨U,A,p,J⟩:=I.tuple j;obtain⟨q,y,N,v,B,D⟩:=l f nofun;have Q:=A.length
  exact wpAny_pyNext_tuple_end (I.ok.hd F) st (p) (by simp;lia) λY O=>⟨rfl,I.turned (λb o m e=>O b o m e) q y v B D⟩
 self:=λ_ _ _ _ _ st h=>wpAny_pyIter_tupleiter st h
theorem RU{K:W7}(a:Addr)(lo:Int)(n:Nat):d7 P w K F (ny lo n) [a] a (λi h=>IsRangeIter h a (lo+(i:Nat)*1) ((n:Int)-(i:Nat)) 1) where
 mem:=by simp
 obj:=λi h st b q=>by
  ext
 keep:=λi h J st k=>k a nofun _ st
 item:=by
  intro X y u x m i G s M H E I d st f;obtain⟨l,r,C,g,p,j⟩:=d a nofun;refine(Walks.range (I.ok.hd m) a lo 1 n).item i s _ _ f st λv J N A c z=>?_;obtain⟨t,rfl⟩:=A;have D:Inv X _ M H {s with heap:=J,toks:=N}:=I.turned (λb o q e=>z b o (by grind) e) l r g p j;refine⟨_,rfl,hP c rfl rfl (by decide) ⟨.int _,H,D,⟨t,?_⟩,⟨rfl,rfl⟩,c,λb q=>(d b q).1⟩⟩;grind
 done:=by
  intro X y u x m i G s M H E I d st f;obtain⟨l,r,C,g,p,j⟩:=d a nofun
  exact wpAny_pyNext_range_end (I.ok.hd m) st (by have:n<=i:=f;lia) λJ B=>⟨rfl,I.turned (λb o q e=>B b o q e) l r g p j⟩
 self:=λ_ _ _ _ _ st h=>wpAny_pyIter_rangeiter st h
section
variable {tg:Expr}
theorem L0{σ:St}{lo a:Int}(I:Inv X pins σ H s)(d:-(2^62)<=lo)(g:lo<2^62)(f:-(2^62)<=a)(h:a<2^62)(q:R (ny lo (a-lo).toNat) H):aag X (pyIter (.ref (~~~s))) (LW X pins σ tg R) E {s with heap:=s.heap.push {cls:=.type "range",data:=.fields #[.int lo t,.int a u,.int 1 v]},toks:=tk}:=by
 refine wpAny_pyIter_range (.new ..) (small_one d g f h) ?_;have c:Inv X _ σ H {s with heap:=s.heap.push {cls:=.type "range",data:=.fields #[.int lo t,.int a u,.int 1 v]},toks:=tk}:=I.kept λb o e=>qe _ e
 refine⟨(s.heap.push _).objs.size,[(s.heap.push _).objs.size],_,_,H,rfl,
  c.kept λb o e=>qe _ e,RU _ lo _,?_,λb k=>?_,q⟩
 .have i:lo+((0:Nat))*1=lo:=by simp
  have j:(((a-lo).toNat))-((0:Nat))=Builtin.Range.rangeSize lo a 1:=by rw[rangeSize_one];split<;>lia
  rw[i,j];exact qp _ rfl
 .have e:b=(s.heap.push {cls:=.type "range",data:=.fields #[.int lo t,.int a u,.int 1 v]}).objs.size:=by ext
  subst e;exact c.fpOk (qv _) (c.hok.fresh (qv _))
def yY(a:TA):TI:=λd H R=>a d H λc b=>∃j:Int,c=[.int j]/\-(2^62)<=j/\j<2^62/\R (ny 0 j.toNat) b
def yZ(a:TA):TI:=λc H R=>a c H λd b=>∃i j:Int,d=[.int i,.int j]/\(-(2^62)<=i/\i<2^62/\-(2^62)<=j/\j<2^62)/\R (ny i (j-i).toNat) b
abbrev aad(X:Cx)(e:Expr):Prop:=starEach [e] X.env=[(false,eval e X.env)]
theorem RV(k:Gl X "range")(g:X.mg "range"=none)(m:PA X [a] u)(hs:aad X a:=by rfl):PI X tg (.Call (.Name "range" p) [a] [] c) (yY u):=by
 intro x s y H R I h;refine Call_ (iZ I k g boot_range (PyProof.Rows.callWith_type1 (aM (m c _ s y H _ I h) λA v f=>?_) hs rfl));obtain⟨z,w,l,o,d⟩:=f;obtain⟨j,e,d,n,q⟩:=d;subst e
 cases o with
 | cons r i=>
   cases i;obtain⟨t,rfl⟩:=r;exact call_range_1 (L0 l (by lia) (by lia) d n (by simpa using q))
theorem RX{p c:Pos}(o:Gl X "range")(l:X.mg "range"=none)(w:PA X [a,b] m)(hs:starEach [a,b] X.env=[(false,eval a X.env),(false,eval b X.env)]:=by rfl)(f:starEach [b] X.env=[(false,eval b X.env)]:=by rfl):
 PI X tg (.Call (.Name "range" p) [a,b] [] c) (yZ m):=by
 intro C s D H R I h;refine Call_ (iZ I o l boot_range (PyProof.Rows.callWith_type1 (aM (w c _ s D H _ I h) λF B ⟨G,A,u,n,k⟩=>?_) (by rw[hs,f]) (by rw[f];rfl)));obtain⟨i,j,e,⟨k,x,y,v⟩,q⟩:=k;subst e
 cases n with
 | cons r g=>
   cases g with
   | cons z g=>
     cases g;obtain⟨t,rfl⟩:=r;obtain⟨E,rfl⟩:=z;exact call_range_2 (L0 u k x y v q)
def y_(f:TI)(g:TG)(e:TS):TS:=λD h H=>f h H λJ c=>∃W:Nat->Nat->St->Hp->Prop,(∃m,W 0 m h c)/\∀i m h H,W i m h H->
 (J.stop i H/\D.nx h H)\/(J.go i H/\∃N:St->Hp->Prop,(∀j k,N j k->∃b,b<m/\W (i+1) b j k)/\∀x k,J.yld i H x k->g x h k λa d=>e {D with nx:=N,ct:=N,bk:=D.nx} a d)
noncomputable def tI(a:List Addr)(h:Heap):AB:=a.filterMap λb=>(h.get? b).map λo=>(b,o)
def tJ(c:b∈a)(e:h.get? b=some o):(b,o)∈tI a h:=List.mem_filterMap.mpr ⟨b,c,by rw[e];rfl⟩
theorem RY(a:p∈tI c h):p.1∈c/\h.get? p.1=some p.2:=by
 obtain⟨b,d,e⟩:=List.mem_filterMap.mp a
 cases q:h.get? b with
 | none=>grind
 | some o=>
   grind
theorem Inv.pinned{σ:St}(I:Inv X pins σ H s)(c:∀b∈a,c4 X pins H b)(i:∀b∈a,∃o,s.heap.get? b=some o/\∀v,o.data≠.cell v):Inv X (pins++tI a s.heap) σ H s:=
 I.pins_of λp d=>(qw d).elim (λz=>I.pin p (Qr _ z)) λz=>by
  obtain⟨j,e⟩:=RY z;obtain⟨f,g,h,_⟩:=c p.1 j;grind
def Inv.unpinned{σ:St}(I:Inv X (pins++b) σ H s):Inv X pins σ H s:=I.pins_of λp a=>I.pin p (Qr _ (List.mem_append_left _ a))
def za(K:PassesOwn (mZ X.prog X.w) X.A X.env X.xe)(hc:X.calm=true)(hi:PI X tg y wi)(hg:PG X tg g)(hb:PSs X B tb)(hs:∀x,foldedSetIterable y X.env x=pure x:=by intro _;rfl):PS X (.For tg y B [] pos) (y_ wi g tb):=by
 intro c s σ H D I h;refine wpAny_For (aM (hi c s σ H _ I h) λv s1 h1=>aM h1 λitv s2 h2=>?_) hs;obtain⟨it,fp,V,J,H2,e,I2,T,Q,f2,W,⟨m0,w0⟩,L⟩:=h2;subst e
 have p:∀{w:Hp},(∀b _,_)->∀b _,c4 X c w b:=λhn b hb=>⟨hn b hb,(f2 b hb).2⟩
 refine codeAny_forLoop_any (λn Z=>∃i l w,Inv X c l w Z/\V i Z.heap/\(∀b∈fp,w b=none)/\W i n l w) ?_ m0 ⟨0,σ,H2,I2,Q,λb hb=>(f2 b hb).1,w0⟩;rintro n Y ⟨i,k,M,I3,E,C,w3⟩;rcases L i n k M w3 with⟨F,qn⟩|⟨go,N,hN,step⟩
 .refine wpAny_passesOwn K (aM (T.done X rfl rfl rfl hc i c Y k M X.xe I3 (p C) E F) λr s4 j=>?_)
  obtain⟨R,I4⟩:=j;subst R;exact wpAny_execs_nil ⟨k,M,I4,qn⟩
 .refine wpAny_passesOwn K (aM (T.item X rfl rfl rfl hc i c Y k M X.xe I3 (p C) E go) λr s4 j=>?_)
  obtain⟨u,R,h4⟩:=j;subst R;refine wpAny_passesOwn K (aM h4 λ_ s5 j=>?_);obtain⟨x,H5,I5,r5,y5,A,O⟩:=j;have U:=I5.pinned (p O) (T.obj _ _ A);refine wpAny_passesOwn K (aM (hg _ s5 k H5 x u _ U r5 (step x H5 y5)) λ_ s6 j=>?_);obtain⟨S,H6,I6,q6⟩:=j;refine wpAny_passesOwn K (aM (hb _ s6 S H6 _ I6 q6) λf s7 z=>?_)
  have again:∀{a:St}{t:Hp},Inv X _ a t s7->_->∃m,m<n/\∃i l w,Inv X c l w s7/\V i _/\(∀b∈fp,w b=none)/\W i m l w:=λ{a t} q G=>by
   obtain⟨m',hm,w7⟩:=hN a t G;refine⟨m',hm,i+1,a,t,q.unpinned,T.keep _ _ _ A λb hb o e=>(q.pin _ (Qr _ (Qr _ (tJ hb e)))).1,λb hb=>?_,w7⟩;obtain⟨o,e,d⟩:=T.obj _ _ A b hb;exact(q.pin _ (Qr _ (Qr _ (tJ hb e)))).2.1
  cases f with
  | next=>obtain⟨a,t,q,G⟩:=z;exact again q G
  | cont=>obtain⟨a,t,q,G⟩:=z;exact again q G
  | brk=>obtain⟨a,t,q,z⟩:=z;exact⟨a,t,q.unpinned,z⟩
  | ret v=>obtain⟨x7,a,t,q,r7,z⟩:=z;exact⟨x7,a,t,q.unpinned,r7,z⟩
end
abbrev R2:=V->V->Hp->VK->Prop
def bX(X:Cx)(f:Value->Value->Sem Value)(r:R2):Prop:=
 ∀(a:List _) (s:Shared) (b:St) (H:Hp) (x y:V) (v u:Value) (Q:VK),Inv X a b H s->RelV x v->RelV y u->r x y H Q->
  aag X (f v u) (EP X a b Q) X.xe s
def zb(X:Cx)(f:Value->Sem Value)(r:V->Hp->VK->Prop):Prop:=
 ∀(a:List _) (s:Shared) (b:St) (H:Hp) (x:V) (v:Value) (Q:VK),Inv X a b H s->RelV x v->r x H Q->
  aag X (f v) (EP X a b Q) X.xe s
def dO(X:Cx)(f:Value)(r:AM->Hp->VK->Prop):Prop:=
 ∀(a:List _) (s:Shared) (b:St) (H:Hp) (c:AM) (d:List _) (Q:VK),Inv X a b H s->Vals c d->r c H Q->
  aag X (call f d) (EP X a b Q) X.xe s
def zc(X:Cx)(r:V->Hp->(Bool->Hp->Prop)->Prop):Prop:=
 ∀(a:List _) (s:Shared) (b:St) (H:Hp) (x:V) (v:Value) (Q:Bool->Hp->Prop),Inv X a b H s->RelV x v->r x H Q->
  aag X (truthy v) (TP X a b Q) X.xe s
def jM(r:R2)(d a:TE):TE:=λe H Q=>d e H λx b=>a e b λy c=>r x y c Q
def RZ(r:V->Hp->VK->Prop)(a:TE):TE:=λc H Q=>a c H λx b=>r x b Q
def rI(C:Int->Int->Prop)(g:Int->Int->V):R2:=λx y H Q=>∃i j,x=.int i/\y=.int j/\C i j/\Q (g i j) H
def gL(g:Int->Int->V):R2:=λx y H Q=>∃i j,x=.int i/\y=.int j/\Q (g i j) H
def rU(g:Int->V):V->Hp->VK->Prop:=λx H Q=>∃i,x=.int i/\Q (g i) H
section
variable {a b c:Expr}{ta tb tc:TE}
def jN(n:PE X a ta)(hb:PE X b tb){σ:St}{R:V->V->Hp->Prop}(I:Inv X pins σ H s)(h:ta σ H λx j=>tb σ j λy d=>R x y d){f:Value->Value->Sem Value}(t:∀v u i x y d,Inv X pins σ d i->RelV x v->RelV y u->R x y d->aag X (f v u) Q X.xe i):
 aag X (eval a X.env) (λv g=>aag X (eval b X.env) (λu e=>aag X (f v u) Q X.xe e) X.xe g) X.xe s:=by
 refine aM (n _ s σ H _ I h) λv k c=>?_;obtain⟨x,j,p,m,o⟩:=c;refine aM (hb _ k σ j _ p o) λu i c=>?_;obtain⟨y,d,l,r,q⟩:=c;exact t v u i x y d l m r q
def hV(j:bX X (binaryOp n) r)(d:PE X a ta)(l:PE X b tb):PE X (.BinOp a n b pos) (jM r ta tb):=by
 intro c s m H Q I h;exact wpAny_BinOp (jN d l I h λv u g x y f i e k q=>j _ g m f x y v u Q i e k q)
def zd(k:zb X (unaryOp m) r)(l:PE X a ta):PE X (.UnaryOp m a pos) (RZ r ta):=by
 intro b s c H Q I h;refine UnaryOp_ (aM (l _ s c H _ I h) λv g d=>?_);obtain⟨x,j,f,e,i⟩:=d;exact k _ g c j x v Q f e i
def tL{g:Int->Int->Int}(rule:∀(i j:Int) (t u:Tok) (s:Shared) (Q:AA) (E:AA),C i j->Q (.int (g i j) s.toks) {s with toks:=s.toks+1}->aag X (f (.int i t) (.int j u)) Q E s):
 bX X f (rI C λi j=>.int (g i j)):=by
 intro a s c H x y v u Q I e d h;obtain⟨i,j,rfl,rfl,k,q⟩:=h;obtain⟨t,rfl⟩:=e;obtain⟨b,rfl⟩:=d;exact rule i j t b s _ _ k ⟨.int _,H,I.tok _,⟨_,rfl⟩,q⟩
def jO{g:Int->Int->Int}(rule:∀(i j:Int) (t u:Tok) (s:Shared) (Q:AA) (E:AA),Q (.int (g i j) s.toks) {s with toks:=s.toks+1}->aag X (f (.int i t) (.int j u)) Q E s):
 bX X f (gL λi j=>.int (g i j)):=by
 intro a s c H x y v u Q I e d h;obtain⟨i,j,rfl,rfl,q⟩:=h;obtain⟨t,rfl⟩:=e;obtain⟨b,rfl⟩:=d;exact rule i j t b s _ _ ⟨.int _,H,I.tok _,⟨_,rfl⟩,q⟩
def jP{g:Int->Int->Bool}(rule:∀(i j:Int) (t u:Tok) (s:Shared) (Q:AA) (E:AA),Q (.bool (g i j)) s->aag X (f (.int i t) (.int j u)) Q E s):
 bX X f (gL λi j=>.bl (g i j)):=by
 intro a s c H x y v u Q I e d h;obtain⟨i,j,rfl,rfl,q⟩:=h;obtain⟨t,rfl⟩:=e;obtain⟨b,rfl⟩:=d;exact rule i j t b s _ _ ⟨.bl _,H,I,rfl,q⟩
def ze(i j:Int):Prop:=0<j/\j<1073741824
def CMul(i j:Int):Prop:=-(2^64)<i/\i<2^64\/(-(2^64)<j/\j<2^64)
def CMul.ok(h:CMul i j):IntMulOk i j:=by
 rcases h with⟨d,e⟩|⟨d,e⟩
 .exact .of_left (intBits_le_64 d e)
 .exact .of_right (intBits_le_64 d e)
theorem R0(k:Nat):(0:Int)<=2^k:=by constructor<;>ac_nf
def zf:bX X (binaryOp .Add) (gL λi j=>.int (i+j)):=jO λ_ _ _ _ _ _ _ q=>add_int q
def zg:bX X (binaryOp .Sub) (gL λi j=>.int (i-j)):=jO λ_ _ _ _ _ _ _ q=>sub_int q
def zh:bX X (binaryOp .Mult) (rI CMul λi j=>.int (i*j)):=tL λ_ _ _ _ _ _ _ d q=>mul_int q d.ok
theorem zi:bX X (binaryOp .FloorDiv) (rI ze λi j=>.int (i/j)):=tL λi j _ _ _ _ _ b q=>by
 have d:=b.1;have c:=b.2;exact floordiv_int ∅ (by rwa [Int.fdiv_eq_ediv_of_nonneg i ∅]) (.inl (PyProof.noPylong_small (by omega)))
theorem zj:bX X (binaryOp .Mod) (rI (λ_ j=>0<j) λi j=>.int (i%j)):=tL λi j _ _ _ _ _ a q=>mod_int' ∅ (by rwa [Int.fmod_eq_emod_of_nonneg i ∅])
def zk:bX X (binaryOp .RShift) (rI (λ_ j=>0<=j) λi j=>.int (i/2^j.toNat)):=tL λi j _ _ _ _ _ a q=>
 rshift_int a (by rwa [Int.fdiv_eq_ediv_of_nonneg i (R0 _)])
def op_xor:bX X (binaryOp .BitXor) (gL λi j=>.int (Builtin.bitXor i j)):=jO λ_ _ _ _ _ _ _ q=>xor_int q
def R3{g:Int->Int}(rule:∀(i:Int) (t:Tok) (s:Shared) (Q:AA) (E:AA),Q (.int (g i) s.toks) {s with toks:=s.toks+1}->aag X (f (.int i t)) Q E s):
 zb X f (rU λi=>.int (g i)):=by
 intro a s b H x v Q I d h;obtain⟨i,rfl,q⟩:=h;obtain⟨t,rfl⟩:=d;exact rule i t s _ _ ⟨.int _,H,I.tok _,⟨_,rfl⟩,q⟩
def zl:zb X (unaryOp .USub) (rU λi=>.int (-i)):=R3 λ_ _ _ _ _ q=>neg_int q
end
noncomputable def scal:V->V->Bool
 | .non,.non=>true|.non,.int _=>true|.int _,.non=>true|.non,.bl _=>true|.bl _,.non=>true|.non,.str _=>true|.str _,.non=>true
 | .int _,.int _=>true|.bl _,.bl _=>true|.str _,.str _=>true|.byt _,.byt _=>true
 | .int _,.str _=>true|.str _,.int _=>true|.bl _,.str _=>true|.str _,.bl _=>true
 | _,_=>false
section
variable {a b c:Expr}{ta tb tc:TE}
def nz{σ:St}(I:Inv X pins σ H s)(q:Q (.bl k) H)(e:k=d):EP X pins σ Q (.bool d) s:=by
 subst e;exact⟨.bl k,H,I,rfl,q⟩
def jQ:bX X (compareOp .Lt) (gL λi j=>.bl (decide (i<j))):=jP λ_ _ _ _ _ _ _ q=>lt_int q
def zm:bX X (compareOp .LtE) (gL λi j=>.bl (decide (i<=j))):=jP λ_ _ _ _ _ _ _ q=>le_int q
def nA:bX X (compareOp .Gt) (gL λi j=>.bl (decide (j<i))):=jP λ_ _ _ _ _ _ _ q=>gt_int q
def nB:bX X (compareOp .Is) (λx y H Q=>y=.non/\Q (.bl (decide (x=.non))) H):=by
 intro a s b H x y v u Q I e d h;obtain⟨rfl,q⟩:=h;cases d;refine is_none_gen (nz I q ?_)
 cases x<;>first
  | (rfl)
  | (obtain⟨t,rfl⟩:=e;rfl)
def L1:bX X (compareOp .IsNot) (λx y H Q=>y=.non/\Q (.bl (!decide (x=.non))) H):=by
 intro a s b H x y v u Q I e d h;obtain⟨rfl,q⟩:=h;cases d;refine isnot_none_gen (nz I q ?_)
 cases x<;>first
  | (rfl)
  | (obtain⟨t,rfl⟩:=e;rfl)
theorem fB(b:Expr)(h:op≠.In:=by decide)(e:op≠.NotIn:=by decide):behindInMarks op b=false:=by
 cases b with
 | Set d k p=>
   show(_&&_)=_;grind
 | _=>rfl
def zo(k:bX X (compareOp m) r)(d:PE X a ta)(n:PE X b tb)(j:behindInMarks m b=false):PE X (.Compare a [m] [b] pos) (jM r ta tb):=by
 intro c s o H Q I h;exact wpAny_Compare1 (jN d n I h λv u g x y f i e l q=>k _ g o f x y v u Q i e l q) j
def nC(t:TE):TT:=λa H Q=>t a H λx b=>∃k,x=.bl k/\Q k b
def zp(E:bX X (compareOp J) r)(p:PE X a ta)(L:PE X b tb)(f:behindInMarks J b=false):PT X (.Compare a [J] [b] pos) (nC (jM r ta tb)):=by
 intro K s G H Q I h;refine wpAny_isTrue_Compare1 (aM (p _ s G H _ I h) λv C d=>?_) f;obtain⟨x,g,w,o,i⟩:=d;refine aM (L _ C G g _ w i) λu D d=>?_;obtain⟨y,t,n,m,B⟩:=d;refine aM (E _ D G t x y v u _ n o m B) λc F d=>?_;obtain⟨z,j,q,A,k,e,l⟩:=d;subst e;cases A;exact wpAny_truthy_bool ⟨j,q,l⟩
def zq(r f:R2)(ta tb tc:TE):TE:=λa H Q=>ta a H λx d=>tb a d λy g=>r x y g λz b=>∃k,z=.bl k/\
 (if k=true then tc a b λc e=>f y c e Q else Q (.bl false) b)
def zr(E:bX X (compareOp o) r)(j:bX X (compareOp g) J)(R:PE X a ta)(hb:PE X b tb)(O:PE X c tc)(t:lastMarks [o,g] [b,c]=false:=by with_unfolding_all rfl):PE X (.Compare a [o,g] [b,c] pos) (zq r J ta tb tc):=by
 intro q s i H Q I h;refine Compare_chain (aM (R _ s i H _ I h) λv w f=>?_) t;obtain⟨x,F,A,S,G⟩:=f;refine chain_link (aM (hb _ w i F _ A G) λu C f=>?_);obtain⟨y,U,K,m,Z⟩:=f;refine aM (E _ C i U x y v u _ K S m Z) λd s3 f=>?_;obtain⟨z,l,p,Y,k,e,n⟩:=f;subst e;cases Y;refine wpAny_truthy_bool ?_
 cases k with
 | false=>exact ite_ff ⟨.bl _,l,p,rfl,n⟩
 | true=>
   refine ite_tt (chain_last (aM (O _ s3 i l _ p n) λB N f=>?_));obtain⟨V,M,D,T,L⟩:=f;exact j _ N i M y V u B Q D m T L
def jR(K:W7)(x:V)(H:Hp)(k:Bool):Prop:=
 match x with
 | .non=>k=false
 | .bl b=>k=b
 | .int i=>k=(i != 0)
 | .str y=>y.length<=sizeLine/\k=((y.length:Int)!=0)
 | .byt y=>y.size<=sizeLine/\k=((y.size:Int)!=0)
 | .ref p=>(∃a,SqL K H p a/\k=!a.isEmpty)\/(∃a,SqT K H p a/\k=!a.isEmpty)\/∃d,H p=some (.dK d)/\k=!d.isEmpty
 | _=>False
def R4{vs:List (κ×Value)}(r:KV d vs):(!vs.isEmpty)=!d.isEmpty:=by
 cases r<;>rfl
def L4(r:Vals xs its):(!its.toArray.isEmpty)=!xs.isEmpty:=by
 cases r<;>simp
def lT:(sizeLine:Nat)<2^63:=by decide
theorem zt:zc X (λx H Q=>∃k,jR X.K x H k/\Q k H):=by
 intro A s E H x v Q I j h;obtain⟨k,e,q⟩:=h;have z:=lT;have D:sizeLine=16777216:=jf
 cases x with
 | non=>
   cases j;have d:k=false:=e;subst d;exact truthy_none ⟨H,I,q⟩
 | bl b=>
   cases j;have d:k=b:=e;subst d;exact wpAny_truthy_bool ⟨H,I,q⟩
 | int i=>
   obtain⟨t,rfl⟩:=j;have d:k=(i != 0):=e;subst d;exact PySem.P.truthy_int ⟨H,I,q⟩
 | str y=>
   obtain⟨t,rfl⟩:=j;obtain⟨w,d⟩:=e;subst d;exact PySem.P.truthy_str (by lia) ⟨H,I.tok _,q⟩
 | byt y=>
   obtain⟨t,rfl⟩:=j;obtain⟨w,d⟩:=e;subst d;exact W.truthy_bytes (by lia) ⟨H,I.tok _,q⟩
 | ref p=>
   cases j;have d:=e;rcases d with⟨C,l,d⟩|⟨C,l,d⟩|⟨n,l,d⟩
   .subst d
    obtain⟨c,r,f,o⟩:=I.list l;have g:=r.length;exact wpAny_truthy_list f.isList (by ext<;>lia) ⟨H,I.tok _,by rw[L4 r];exact q⟩
   .subst d
    obtain⟨c,r,f,o⟩:=I.tuple l;have g:=r.length;exact truthy_tuple f (by ext<;>lia) ⟨H,I.tok _,by rw[L4 r];exact q⟩
   .subst d
    obtain⟨o,u,B,r,m⟩:=I.hok p _ l;have g:n.length=B.length:=Paired.length r;exact wpAny_truthy_dict u m (by lia) ⟨H,I.tok _,by rw[R4 r];exact q⟩
 | _=>exact(show False from e).elim
def zu(n:PE X a ta)(l:∀d,isTrue a X.env d=(do let v <-d;standAt a.pos;holding [v] (truthy v))):
 PT X a (λσ H Q=>ta σ H λx H'=>∃k,jR X.K x H' k/\Q k H'):=by
 intro b s σ H Q I h;refine isTrue_plain (aM (n _ s σ H _ I h) λv i e=>?_) (l _);obtain⟨x,m,g,f,j⟩:=e;exact zt _ i σ m x v Q g f j
def ez(r:Vals [x] us):∃u,us=[u]/\RelV x u:=by
 cases r with
 | cons a b=>cases b;exact⟨_,rfl,a⟩
def nE(r:Vals [x,y] us):∃u w',us=[u,w']/\RelV x u/\RelV y w':=by
 cases r with
 | cons r1 r2=>
   cases r2 with
   | cons r3 r4=>cases r4;exact⟨_,_,rfl,r1,r3⟩
end
structure ObjM(h:Heap)(x dx C:Addr)(mA:AD):Prop where
 obj:h.get? x=some (W.instObj C dx)
 ns:h.Ns1 dx mA
 ne:dx≠x
theorem R5{h:Heap}(n:h.Ns1 m l):∃d,h.get? m=some d/\∀b,W.lookIn b d=some (l b):=by
 obtain⟨o,j,q,f,i,g,_,p⟩:=n;refine⟨o,f,λb=>?_⟩;have e:=p b;unfold nsFind findBy at e;unfold W.lookIn;rw[i];dsimp only
 split
 .grind
 .have a:j.toList.any (·.refKey)=false:=by
   rw[List.any_eq_false];intro y k;obtain⟨z,t,c⟩:=g y (Array.mem_toList_iff.mp k);simp[DictEntry.refKey,c]
  grind
def ObjM.look(I:ObjM h x d C e):∃b,W.InstAt h x (W.instObj C d) C (some b)/\∀g,W.lookIn g b=some (e g):=
 let ⟨b,c,f⟩:=R5 I.ns
 ⟨b,⟨I.obj,rfl,rfl,c⟩,f⟩
def RelO.some_of(r:RelO (some v) o):∃u,o=some u/\RelV v u:=by
 cases o with
 | none=>exact(r).elim
 | some u=>exact⟨u,rfl,r⟩
section
variable {P:P7}{w:World}{H H':Hp}{h h':Heap}{a C dx:Addr}{fs fs':List (Str×V)}
def zw(g:HOk P w H h)(e:H a=some (.ins C dx fs)):∃b,ObjM h a dx C b/\(∀f,RelO (fs.lookup f) (b f))/\PySem.Within b (fs.map (·.1))/\fs.length<=1000/\H dx=some (.own a):=by
 obtain⟨d,z,i,j,b,n,r,q⟩:=g a _ e;exact⟨b,⟨j,n,i⟩,r,q,z,d⟩
end
structure Cls(K:W7)(C:Addr):Prop where
 pg:W.plainGet K C Str.empty=true
 hd:W.hasDictIn K C=true
 po:W.plainOver K C=true
 sa:W.findIn K (.ref C) "__setattr__"=some (some (.builtin "object.__setattr__"))
def Cls.get{K:W7}(c:Cls K C)(f:Str):W.plainGet K C f=true:=c.pg
structure Con(K:W7)(C:Addr)(f:Str)(v:V)(u:Value):Prop where
 at_:W.findIn K (.ref C) f=some (some u)
 rel:RelV v u
 get:W.specialIn K u "__get__"=some none
 cp:W.copiedNames.contains f=false
structure R6(K:W7)(C:Addr)(m:Str)(f:Addr):Prop where
 at_:W.findIn K (.ref C) m=some (some (.ref f))
 fn:W.isFn K (.ref f)=true
 kp:W.keepIn K (.ref f)=true
section
variable {σ:St}{H:Hp}{s:Shared}{A:Around}{E Q:AA}{c:Value}{b:Bool}
inductive cT (K:W7) (H:Hp):V->Value->Prop where
 | non:cT K H .non (.type "NoneType")
 | bl (x:Bool):cT K H (.bl x) (.type "bool")
 | int (i:Int):cT K H (.int i) (.type "int")
 | str (x:Str):cT K H (.str x) (.type "str")
 | flt (x:UInt64):cT K H (.flt x) (.type "float")
 | lst {a:Addr}{xs:AM} (e:H a=some (.lst xs)):cT K H (.ref a) (.type "list")
 | frz {a:Addr}{o:Obj}{xs:AM} (e:H a=some (.frz o (.lst xs))):cT K H (.ref a) (.type "list")
 | tup {a:Addr}{xs:AM} (e:H a=some (.tup xs)):cT K H (.ref a) (.type "tuple")
 | dK {a:Addr}{kvs:List (bW×V)} (e:H a=some (.dK kvs)):cT K H (.ref a) (.type "dict")
 | dT {a:Addr}{kvs:List (List bW×V)} (e:H a=some (.dT kvs)):cT K H (.ref a) (.type "dict")
 | ins {a C dx:Addr}{fs:List (Str×V)} (e:H a=some (.ins C dx fs)) (cl:Cls K C) (ha:W.findIn K (.ref C) "__class__"=some (some (.builtin "object.__class__")))
  (hn:W.specialIn K (.builtin "object.__class__") "__get__"=some (some (.builtin "getset_descriptor.__get__"))) (htk:W.takesIn K (.builtin "object.__class__")=some true)
  (hm:W.mroIn K C (.type "object")=some true):cT K H (.ref a) (.ref C)
def R7(I:Inv X pins σ H s)(j:RelV x u)(F:cT X.K H x t)(e:W.kitOne X.K t c=some b)(h:∀tk,Q (.bool b) {s with toks:=tk}):
 wpAny (mZ X.prog X.w) A (call (.builtin "isinstance") [u,c]) Q E s:=by
 cases F with
 | non=>cases (j);exact W.kia_one W.kitx_none I.kIn .intro e (λz=>nomatch z) h
 | bl y=>cases (j);exact W.kia_one W.kitx_bool I.kIn .intro e (λz=>nomatch z) h
 | int i=>obtain⟨t,q⟩:=j;cases q;exact W.kia_one W.kitx_int I.kIn .intro e (λz=>nomatch z) h
 | str y=>obtain⟨t,q⟩:=j;cases q;exact W.kia_one W.kitx_str I.kIn .intro e (λz=>nomatch z) h
 | flt y=>obtain⟨t,q⟩:=j;cases q;exact W.kia_one W.kitx_float I.kIn .intro e (λz=>nomatch z) h
 | @lst a f g=>
   cases (show u=.ref a from j);obtain⟨_,_,n,_,k⟩:=I.hok a _ g;exact W.kia_one W.kitx_list I.kIn ⟨_,k,rfl⟩ e (λz=>nomatch z) h
 | @frz a P f g=>
   cases (j);obtain⟨_,_,_,n,_,k⟩:=I.hok a _ g;exact W.kia_one W.kitx_list I.kIn ⟨_,k,rfl⟩ e (λz=>nomatch z) h
 | @tup a f g=>
   cases (show u=.ref a from j);obtain⟨_,_,_,p⟩:=I.hok a _ g;obtain⟨o,k,l,_⟩:=p;exact W.kia_one W.kitx_tuple I.kIn ⟨o,k,l⟩ e (λz=>nomatch z) h
 | @dK a r g=>
   cases (show u=.ref a from j);obtain⟨_,_,S,_,p⟩:=I.hok a _ g;obtain⟨o,G,B,k,l,_⟩:=p;exact W.kia_one W.kitx_dict I.kIn ⟨o,k,l.1⟩ e (λz=>nomatch z) h
 | @dT a r g=>
   cases (show u=.ref a from j);obtain⟨_,_,f,_,o,G,B,k,l,_⟩:=I.hok a _ g;exact W.kia_one W.kitx_dict I.kIn ⟨o,k,l.1⟩ e (λz=>nomatch z) h
 | @ins a C L N g v D K m w=>
   cases (j);obtain⟨R,O,_⟩:=zw I.hok g;obtain⟨M,J,_⟩:=O.look;exact W.kia_one (W.kitx_own (v.get _) v.hd D K m w) I.kIn J e (λz=>nomatch z) h
end
structure Room(k:Nat)(A:Around):Prop where
 hd:A.handled=none
 dp:A.depth+3*k+5<recursionLimit
 un:A.units+16*k+200<cLine
theorem Room.mono(r:Room k A)(h:j<=k):Room j A:=⟨r.hd,by have:=r.dp;lia,by have:=r.un;lia⟩
theorem Room.deeper(r:Room (k+1) A)(env:Env):Room k (A.deeper env):=
 ⟨r.hd,by have:=r.dp;show _+1+3*k+5<_;ac_nf,by have:=r.un;show _+3+16*k+200<_;ac_nf⟩
theorem Room.depth(r:Room k A):A.depth<recursionLimit:=by have:=r.dp;lia
theorem Room.units(r:Room k A):A.units+64<cLine:=by have:=r.un;lia
def zx:TA:=λ_ H Q=>Q [] H
def zy(a:TE)(d:TA):TA:=λe H Q=>a e H λx b=>d e b λf c=>Q (x::f) c
section
variable {e:Expr}{te:TE}{t:TA}
def gM:PA X [] zx:=λ_ _ _ _ H Q I h=>Calls.spliced_nil ⟨[],H,I,.nil,h⟩
def fT(k:PE X e te)(d:PA X es t)(hs:starEach (e::es) X.env=(false,eval e X.env)::starEach es X.env:=by rfl):PA X (e::es) (zy te t):=by
 intro b r s v H Q I h;rw[hs];show wpAny _ _ (spliced ((_,eval e _)::backTo b _)) _ _ s;refine Calls.spliced_cons (aM (k _ s v H _ I h) λu c a=>?_);obtain⟨x,o,m,j,f⟩:=a;refine aM (d b _ c v o _ m f) λy p a=>?_;obtain⟨w,l,i,g,n⟩:=a;exact⟨x::w,l,i,.cons j g,n⟩
def zz(t:TA):TE:=λc H Q=>t c H λb a=>b.length<=sizeLine/\∀p,a p=none->Q (.ref p) (upd a p (.tup b))
def zA(t:TA):TE:=λc H Q=>t c H λb a=>b.length<=sizeLine/\∀p,a p=none->Q (.ref p) (upd a p (.lst b))
def zB{d}(h:PA X es t):PE X (.Tuple es d pos) (zz t):=by
 intro i s k H Q I g;exact wpAny_Tuple_spliced (aM (h pos _ s k H _ I g) λl c ⟨j,f,a,r,z,q⟩=>⟨by rwa [<-r.length],⟨.ref _,upd f _ (.tup j),a.laid (λb u e=>qe _ e) (qv _) (⟨z,l,r,⟨_,qp _ rfl,rfl,_,rfl⟩⟩),rfl,q _ (a.hok.fresh (qv _))⟩⟩)
def zC(h:PA X es t):PE X (.List es pos) (zA t):=by
 intro g s j H Q I d;exact wpAny_List_spliced (aM (h pos _ s j H _ I d) λk a ⟨i,f,c,r,z,q⟩=>⟨by rwa [<-r.length],⟨.ref _,upd f _ (.lst i),c.laid (λb u e=>qe _ e) (qv _) (⟨z,k,0,r,qp _ rfl⟩),rfl,q _ (c.hok.fresh (qv _))⟩⟩)
end
abbrev Sp:=AM->Hp->VK->XK->Prop
abbrev i3:=List Env->Hp->Shared->XK->AA
structure hZ(P:P7)(w:World)(K:W7)(mg:AD)(base:Heap)(A:Around)(outer:List Env)(s:Shared)(H:Hp):Prop where
 frames:A.frames=some outer
 mod:Mod K mg base
 bs:∀b o,base.get? b=some o->s.heap.get? b=some o/\H b=none
 bsz:base.objs.size<= ~~~s
 funs:s.heap.FunFrames base outer
 frf:∀b∈fR outer,H b=none
 hok:HOk P w H s.heap
 bare:AllBare s.gens
def CE(a:List Env)(P:P7)(w:World)(H:Hp)(s:Shared)(Q:VK)(u:Value)(s':Shared):Prop:=
 ∃v b,s'.os=s.os/\AllBare s'.gens/\Un (fR a) [] H b s.heap s'.heap/\HOk P w b s'.heap/\RelV v u/\Q v b
def CR(CX:i3)(a:List Env)(P:P7)(w:World)(H:Hp)(s:Shared)(Q:VK)(E:XK)(r:Result)(s':Shared):Prop:=
 match r with
 | .ok (.ret u)=>CE a P w H s Q u s'
 | .ok _=>False
 | .error e=>CX a H s E e s'
structure cB(P:P7)(w:World)(K:W7)(mg:AD)(base:Heap)(CX:i3)(k:Nat)(f:Addr)(fd:FuncData)(ps:AJ)(sp:Sp):Prop where
 len:∀vs H Q E,sp vs H Q E->vs.length=ps.length
 run:∀(A:Around) (outer:List Env) (s:Shared) (H:Hp) (args:Args) (us:AC) (vs:AM) (Q:VK) (E:XK),Room k A->hZ P w K mg base A outer s H->BindsTo s fd args (ps.zip us)->Vals vs us->sp vs H Q E->
  codeAny (mZ P w) A (.call (.ref f) args) (CR CX outer P w H s Q E) s
section
variable {σ:St}{H:Hp}{s s':Shared}
def Inv.env0(I:Inv X pins σ H s):hZ X.prog X.w X.K X.mg X.base X.A X.stack s H:=
 ⟨I.ok.frames,I.ok.mod,I.bs,Qg I.ok.bsz I.sz,I.stack,I.stkFree,I.hok,I.bare⟩
def Inv.after(I:Inv X pins σ H s)(h:CE X.stack X.prog X.w H s Q u s'):EP X pins σ Q u s':=by
 obtain⟨v,j,os,a,e,c,r,q⟩:=h;obtain⟨i,g,d,t,f⟩:=s';obtain rfl:=os;exact⟨v,j,I.call e c a (λb z=>absurd z nofun),r,q⟩
end
def zD(sp:Sp)(b:AM)(E:XK)(t:TA):TE:=λc H Q=>t c H λd a=>sp (d++b) a Q E
def Binds(K:W7)(b:FuncData)(d:AJ)(e:AC):Prop:=
 ∀(s:Shared) (c:List _),K.In s.heap->(c++e).length=d.length->BindsTo s b ⟨c,[]⟩ (d.zip (c++e))
def Binds.all{K:W7}(h:∀us:AC,us.length=d.length->bindArgs c ⟨us,[]⟩=pure (d.zip us)):Binds K c d []:=λs us _ b=>by
 rw[w6]at b ⊢;exact .of_eq (h us b)
def zE(CX:i3)(X:Cx)(E:XK):Prop:=∀(a:List _) (c:St) (H:Hp) (s:Shared) (e:Value) (b:Shared),Inv X a c H s->CX X.stack H s E e b->X.xe e b
section
variable {CX:i3}{k:Nat}{f C:Addr}{fd:FuncData}{ps:AJ}{sp:Sp}{dvs:AM}{ds:AC}{E:XK}{x m:Str}{p:Pos}{e o:Expr}{ta:TE}{t:TA}
def zF{σ:St}(F:cB X.prog X.w X.K X.mg X.base CX k f fd ps sp)(d:Room k X.A)(m:Binds X.K fd ps ds)(c:Vals dvs ds)(g:zE CX X E)(I:Inv X pins σ H s)(r:Vals vs us)(h:sp (vs++dvs) H Q E):aag X (call (.ref f) us) (EP X pins σ Q) X.xe s:=by
 have b:=r.append c
 have i:(us++ds).length=ps.length:=by rw[<-b.length];exact F.len _ _ _ _ h
 refine wpAny_call (codeAny_mono (F.run X.A _ s H _ _ _ Q E d I.env0 (m s us I.kIn i) b h) λr j a=>?_)
 cases r with
 | error e=>exact g _ σ H s e j I a
 | ok l=>
   cases l with
   | ret u=>exact I.after a
   | next=>exact .elim a
   | brk=>exact .elim a
   | cont=>exact .elim a
abbrev aab(X:Cx)(e:Expr)(s:List Expr):Prop:=starEach (e::s) X.env=(false,eval e X.env)::starEach s X.env
theorem L5(F:cB X.prog X.w X.K X.mg X.base CX k f fd ps sp)(y:Room k X.A)(l:Gl X x)(w:X.mg x=some (.ref f))(v:W.keepIn X.K (.ref f)=true)(B:Binds X.K fd ps ds)(n:Vals dvs ds)(i:zE CX X E)(u:PA X (e::es) t)(b:da x:=by decide)(j:aab X e es:=by rfl)(c:(backTo pos (starEach es X.env)).any (·.1)=false:=by rfl):
 PE X (.Call (.Name x p) (e::es) [] pos) (zD sp dvs E t):=by
 intro m s o H Q I h;refine wpAny_Call_Name_kw (LR I l w (W.callWith_K I.ok.mod.kin v (aM (u pos _ s o H _ I h) λD A d=>?_) j c) b);obtain⟨C,z,g,r,q⟩:=d;exact⟨g.kIn,zF F y B n i g r q⟩
structure Mk(K:W7)(C f:Addr):Prop where
 makes:W.makesIn K C=true
 init:W.findIn K (.ref C) "__init__"=some (some (.ref f))
 fn:W.isFn K (.ref f)=true
 kp:W.keepIn K (.ref C)=true
end
section
variable {CX:i3}{k:Nat}{f C:Addr}{fd:FuncData}{ps ks:AJ}{sp:Sp}{E:XK}{x m:Str}{p kpos:Pos}{e o:Expr}{kws:List Keyword}{te ta:TE}{t tk:TA}{nm:Option Str}
structure zG(K:W7)(fd:FuncData)(ps ks:AJ)(g:AC->AC->AC)(gV:AM->AM->AM):Prop where
 to:∀(s:Shared) (us ws:AC),K.In s.heap->(g us ws).length=ps.length->BindsTo s fd ⟨us,ks.zip ws⟩ (ps.zip (g us ws))
 rel:∀{vs:AM}{us:AC}{zs:AM}{ws:AC},Vals vs us->Vals zs ws->Vals (gV vs zs) (g us ws)
variable {g:AC->AC->AC}{gV:AM->AM->AM}
end
structure gN(N P:AJ)(sc:Scope):Prop where
 kind:sc.kind=.function
 co:sc.isCoroutine=false
 gen:sc.isGenerator=false
 nd:N.Nodup
 pre:N.take P.length=P
 par:∀x∈P,sc.names.lookup x=some .local\/sc.names.lookup x=some .cell
 nofree:∀y∈sc.names,y.2≠.free
theorem L6{kindOf:Str->Option NameKind}:∀{a:List (Str×Value)}{m:AD},(∀v,(x,v)∉a)->bindL kindOf a m x=m x
 | [],_,_=>rfl
 | (n,v)::r,m,h=>by
   unfold bindL;rw[L6 λw b=>h w (qg _ b)]
   split
   .grind
   .rfl
theorem L7{kindOf:Str->Option NameKind}:∀{a:List (Str×Value)}{m:AD},(∀v,(x,v)∉a)->bindC kindOf a m x=m x
 | [],_,_=>rfl
 | (n,v)::r,m,h=>by
   unfold bindC;rw[L7 λw b=>h w (qg _ b)]
   split
   .rfl
   symm
theorem L8{kindOf:Str->Option NameKind}:∀{P:AJ}{vs:AC}{i:Nat}{m:AD},P.Nodup->P[i]?=some x->vs[i]?=some v->kindOf x=some .local->
 bindL kindOf (P.zip vs) m x=some v
 | [],_,_,_,_,h,_,_=>by simp at h
 | _::_,[],_,_,_,_,h,_=>by simp at h
 | p::P,w::vs,0,m,c,b,a,d=>by
   simp at b a;subst b a;show bindL _ (_::P.zip vs) m p=_;unfold bindL;rw[L6 λv e=>(List.nodup_cons.mp c).1 (List.of_mem_zip e).1,if_pos d];simp
 | p::P,w::vs,i+1,m,c,b,a,d=>by
   unfold bindL;exact L8 (List.nodup_cons.mp c).2 (by simpa using b) (by simpa using a) d
theorem L9{kindOf:Str->Option NameKind}:∀{P:AJ}{vs:AC}{i:Nat}{m:AD},P.Nodup->P[i]?=some x->vs[i]?=some v->kindOf x≠some .local->
 bindC kindOf (P.zip vs) m x=some v
 | [],_,_,_,_,h,_,_=>by simp at h
 | _::_,[],_,_,_,_,h,_=>by simp at h
 | p::P,w::vs,0,m,c,b,a,d=>by
   simp at b a;subst b a;show bindC _ (_::P.zip vs) m p=_;unfold bindC;rw[L7 λv e=>(List.nodup_cons.mp c).1 (List.of_mem_zip e).1,if_neg d];simp
 | p::P,w::vs,i+1,m,c,b,a,d=>by
   unfold bindC;exact L9 (List.nodup_cons.mp c).2 (by simpa using b) (by simpa using a) d
noncomputable def start(N:AJ)(vs:AM):St:=vs.map some++List.replicate (N.length-vs.length) none
noncomputable def dz(CX:i3)(P:P7)(w:World)(K:W7)(mg:AD)(base:Heap)(N:AJ)(b:Str)(a:Scope)(f:Addr)(d:Value)(A:Around)(outer:List Env)(s:Shared)(H:Hp)(E:XK):Cx where
 prog:=P
 w:=w
 K:=K
 mg:=mg
 base:=base
 A:=A.deeper (envOfC b a (~~~s) f d)
 N:=N
 s₀:=s
 H₀:=H
 env:=envOfC b a (~~~s) f d
 outer:=outer
 stack:=envOfC b a (~~~s) f d::outer
 ex:=[]
 calm:=true
 fn:=λ_=>true
 pn:=[]
 xe:=λe i=>wpAny (mZ P w) (A.deeper (envOfC b a (~~~s) f d)) (leaving (envOfC b a (~~~s) f d) e) (λ_ c=>CX outer H s E e c) (λh c=>CX outer H s E h c) i
def L_{b:Scope}(h:b.names.lookup x=some .cell):∃c,(cellsFrom n b.names []).lookup x=some c:=Option.isSome_iff_exists.mp (PySem.W.cellsFrom_some _ n [] (.inl h))
theorem R8{K:W7}(S:gN N Y a)(M:A.handled=none)(l:hZ P w K J m A j s H)(V:vs.length=Y.length)(r:Vals vs us)(x:InCallC s (~~~s) (bindL (envOfC g a (~~~s) f F).kindOf (Y.zip us) λ_=>none) (cellsFrom (~~~s+1) a.names []) (bindC (envOfC g a (~~~s) f F).kindOf (Y.zip us) λ_=>none) R):
 Inv (dz CX P w K J m N g a f F A j s H E) [] (start N vs) H R:=by
 have O:Y.length<=N.length:=by have:=congrArg List.length S.pre;grind
 obtain⟨C,Z,rfl,G⟩:=x.done;have n:∀b,b∉(dz CX P w K J m N g a f F A j s H E).ex:=λb z=>absurd (show b∈([]) from z) nofun
 refine⟨⟨l.mod,S.kind,rfl,rfl,qv _,λy z c C D=>?_,λy o=>?_,λy c _ h=>?_,λ_=>M,Around.frames_deeper l.frames,.inr ⟨rfl,rfl⟩,λb z=>absurd z (n b),l.bs,l.bsz,λb _ _=>n b,λb z=>absurd z (n b),l.funs,l.frf⟩,
  rfl,l.bare,Un.kept G,⟨_,x.toInCall.ns,λi y v C D T=>?_⟩,λy c h=>⟨_,x.cell y c h⟩,l.hok.fresh (qv _),λy c h=>?_,λp t=>absurd (show p∈([]) from t) nofun,l.hok.kept G,?_⟩
 .exact name_of_addr x.apart (PySem.mem_of_lookup C) (PySem.mem_of_lookup D)
 .rcases o with o|o
  .exact L_ o
  .exact absurd rfl (S.nofree _ (PySem.mem_of_lookup o))
 .exact Nat.le_of_lt (x.above y c (PySem.mem_of_lookup h))
 .have U:i<vs.length:=by
   unfold start at D;grind
  have Q:vs[i]?=some v:=by
   unfold start at D;grind
  obtain⟨u,I,L⟩:=r.get Q
  have t:Y[i]?=some y:=by
   rw[<-S.pre,List.getElem?_take_of_lt (by ext)];exact C
  have B:Y.Nodup:=by rw[<-S.pre];exact S.nd.sublist (List.take_sublist _ _)
  refine⟨u,L,?_⟩;rcases S.par y (List.mem_of_getElem? t)with k|k
  .exact .inl ⟨k,L8 B t I k⟩
  .obtain⟨c,e⟩:=L_ k
   refine .inr ⟨.inl k,c,e,?_⟩;have q:=x.cell y c e;rw[L9 B t I (by show a.names.lookup y≠_;grind)]at q;exact q
 .exact l.hok.fresh (Nat.le_of_lt (x.above y c (PySem.mem_of_lookup h)))
 .unfold start
  show _=N.length
  ext
theorem nF{K:W7}{T kV y R h I Y:Value}(X:K.lookup f=some ⟨Y,od,.func (W.fnOf name g i j c T kV y R Z h I),osl⟩)(G:W.codeIn K h g=true)(S:gN N ps c)(B:∀vs H Q E,sp vs H Q E->vs.length=ps.length)(m:∀(A:Around) (a:List Env) (s:Shared) (H:Hp) (vs:AM) (Q:VK) (E:XK),Room k (A.deeper (envOfC g c (~~~s) f h))->sp vs H Q E->
   ∃t,PSs (dz CX P w K L l N g c f h A a s H E) j t/\t {nx:=λ_ H'=>Q .non H',rt:=Q} (start N vs) H):
  cB P w K L l CX (k+1) f (W.fnOf name g i j c T kV y R Z h I) ps sp:=by
  refine⟨B,λA a s H M us vs Q E D C hb r z=>?_⟩;have O:=C.mod.kin.keeps λb o e=>(C.bs b o e).1
  refine codeAny_call_function D.depth (O _ _ X) rfl S.co S.gen rfl (W.codeRec_of O G) (hb _ _ _ _ (wpAny_newFunctionEnv_cells S.kind (λ⟨n,v⟩ U=>by
   rcases S.par n (List.of_mem_zip U).1 with q|q
   .exact .inl q
   .exact .inr ⟨q,PySem.W.cellsFrom_some _ _ _ (.inl q)⟩) λenv d s1 x=>?_))
  subst d;refine⟨(C.mod.nolimit.keeps λb o e=>(C.bs b o e).1).keeps x.toInCall.keep,codeAny_func ?_⟩;obtain⟨t,ht,hq⟩:=m A a s H vs Q E (D.deeper _) z;refine wz (ht [] s1 _ H _ (R8 S D.hd C (B _ _ _ _ z) r x) hq) (λfl s' hs=>?_) λe s' hs=>hs
  have p:∀{σ':St}{H':Hp}{v:V}{u:_},Inv (dz CX P w K L l N g c f h A a s H E) [] σ' H' s'->_->Q v H'->CE a P w H s Q u s':=
   λ{σ' H' v u} J F q=>⟨v,H',J.os,J.bare,J.base,J.hok,F,q⟩
  cases fl with
  | ret u=>
    obtain⟨v,σ',H',J,F,q⟩:=hs;exact p J F q
  | next=>
    obtain⟨σ',H',J,q⟩:=hs;exact p (v:=.non) J rfl q
  | brk=>
    obtain⟨_,_,_,q⟩:=hs;grind
  | cont=>
    obtain⟨_,_,_,q⟩:=hs;grind
section
variable {x:Str}{p:Pos}{e:Expr}{t:TA}{id T:String}{r:AM->Hp->VK->Prop}
def tM(r:AM->Hp->VK->Prop)(t:TA):TE:=λb H Q=>t b H λc a=>r c a Q
abbrev aac(X:Cx)(p:Pos)(s:List Expr):Prop:=(backTo p (starEach s X.env)).any (·.1)=false
theorem nG(i:dO X (.builtin id) r)(j:Gl X x)(v:X.mg x=none)(m:bootBuiltins x=some (.builtin id))(n:PA X (e::es) t)(l:x≠"__name__":=by decide)(b:da x:=by decide)(g:aab X e es:=by rfl)(d:aac X pos es:=by rfl):PE X (.Call (.Name x p) (e::es) [] pos) (tM r t):=by
 intro y s w H Q I h;refine wpAny_Call_Name_kw (iZ I j v m (PyProof.Rows.callWith_builtin1 (aM (n pos _ s w H _ I h) λA k c=>?_) g d) l b);obtain⟨z,f,q,o,u⟩:=c;exact i _ k w f z A Q q o u
theorem i4(i:dO X (.type T) r)(j:Gl X x)(v:X.mg x=none)(m:bootBuiltins x=some (.type T))(n:PA X (e::es) t)(l:x≠"__name__":=by decide)(b:da x:=by decide)(g:aab X e es:=by rfl)(d:aac X pos es:=by rfl):PE X (.Call (.Name x p) (e::es) [] pos) (tM r t):=by
 intro y s w H Q I h;refine wpAny_Call_Name_kw (iZ I j v m (PyProof.Rows.callWith_type1 (aM (n pos _ s w H _ I h) λA k c=>?_) g d) l b);obtain⟨z,f,q,o,u⟩:=c;exact i _ k w f z A Q q o u
end
section
variable {κ:Type}[DecidableEq κ]
noncomputable def cJ(a:List (κ×V))(k:κ):Option V:=(a.find? λb=>decide (b.1=k)).map (·.2)
noncomputable def cD(a:List (κ×V))(k:κ)(v:V):List (κ×V):=
 if (a.any λb=>decide (b.1=k))=true then a.map (λb=>if b.1=k then (b.1,v)else b)else a++[(k,v)]
def tN{k:κ}(e:p.1=k):cJ (p::r) k=some p.2:=by simp[cJ,e]
def tQ{k:κ}(e:¬p.1=k):cJ (p::r) k=cJ r k:=by simp[cJ,e]
theorem Ma(k:κ):∀a:List (κ×V),(a.any λb=>decide (b.1=k))=(cJ a k).isSome
 | []=>rfl
 | p::r=>by
   rw[List.any_cons];by_cases e:p.1=k
   .simp [tN e,wn e,Bool.true_or]
   .rw[tQ e,wo e];exact Ma k r
theorem zH(a:List (κ×V))(k:κ)(v:V):(cD a k v).length<=a.length+1:=by
 unfold cD
 split<;>ext
def RelO.isSome_eq(r:RelO o u):o.isSome=u.isSome:=by
 cases o with
 | none=>cases u with
   | none=>rfl
   | some _=>exact(r).elim
 | some _=>cases u with
   | none=>exact(r).elim
   | some _=>rfl
def RelO.getD(r:RelO o u)(a:RelV d b):RelV (o.getD d) (u.getD b):=by
 cases o with
 | none=>cases u with
   | none=>exact a
   | some _=>exact(r).elim
 | some _=>cases u with
   | none=>exact(r).elim
   | some _=>exact r
theorem KV.val(r:KV a vs)(k:κ):RelO (cJ a k) (valueAt vs k):=by
 induction r with
 | nil=>exact .intro
 | @cons p q j c h t i=>
   obtain⟨f,g⟩:=h;by_cases e:p.1=k
   .have d:=f.symm.trans e
    have b:valueAt (q::c) k=some q.2:=by simp[valueAt,d]
    rwa [tN e,b]
   .have d:¬_:=λz=>e (f.trans z)
    have b:valueAt (q::c) k=valueAt c k:=by simp[valueAt,d]
    rwa [tQ e,b]
theorem KV.any(r:KV b vs)(k:κ):(b.any λa=>decide (a.1=k))=vs.any λa=>decide (a.1=k):=by
 induction r with
 | nil=>rfl
 | cons h t c=>ext
theorem KV.repl(r:KV b vs)(k:κ)(d:RelV y u):
 KV (b.map λa=>if a.1=k then (a.1,y)else a) (vs.map λa=>if a.1=k then (a.1,u)else a):=by
 induction r with
 | nil=>exact .nil
 | @cons p q f e h t c=>
   refine .cons ?_ c;symm
def KV.put(r:KV a vs)(k:κ)(b:RelV y u):KV (cD a k y) (stored vs k u):=by
 unfold cD stored;rw[r.any k];by_cases e:(vs.any λc=>decide (c.1=k))=true
 .rw[if_pos e,if_pos e];exact r.repl k b
 .rw[if_neg e,if_neg e];exact .snoc r ⟨rfl,b⟩
def KV.length{vs:List (κ×Value)}(r:KV a vs):a.length=vs.length:=Paired.length r
end
def jS(r:RelV (kV k) u):(cS P w).is k u=true:=by
 cases k with
 | inl i=>obtain⟨t,e⟩:=r;subst e;exact RJ P w i t
 | inr x=>obtain⟨t,e⟩:=r;subst e;exact RL P w x t
theorem Mb:∀{ks:List bW}{us:AC},Vals (ks.map kV) us->ItemsAre (cS P w) ks us
 | [],_,r=>by cases r;exact .nil
 | k::ks,_,r=>by
   cases r with
   | cons h t=>exact .cons (jS h) (Mb t)
abbrev KT(H:Hp):List (List bW×V)->List (List bW×Addr×Value)->Prop:=Paired λp q=>p.1=q.1/\H q.2.1=some (.tup (p.1.map kV))/\RelV p.2 q.2.2
theorem KT.val(r:KT H a xs)(k:List bW):RelO (cJ a k) ((atKey xs k).map (·.2)):=by
 induction r with
 | nil=>exact .intro
 | @cons p q j c h t i=>
   obtain⟨f,_,g⟩:=h;by_cases e:p.1=k
   .have d:=f.symm.trans e
    have b:atKey (q::c) k=some q.2:=by simp[atKey,d]
    rwa [tN e,b]
   .have d:¬_:=λz=>e (f.trans z)
    have b:atKey (q::c) k=atKey c k:=by simp[atKey,d]
    rwa [tQ e,b]
theorem KT.repl(r:KT H b xs)(k:List bW)(d:RelV y u):
 KT H (b.map λa=>if a.1=k then (a.1,y)else a) (xs.map (putAt k u)):=by
 induction r with
 | nil=>exact .nil
 | @cons p q e f h t c=>
   refine .cons ?_ c;unfold putAt
   split<;>ext
def KT.put(r:KT H a xs)(k:List bW)(d:H b=some (.tup (k.map kV)))(c:RelV y u):
 KT H (cD a k y) (storedH xs k b u):=by
 have e:(a.any λf=>decide (f.1=k))=(atKey xs k).isSome:=by
  rw[Ma,(r.val k).isSome_eq,Option.isSome_map]
 unfold cD storedH;rw[e];by_cases q:(atKey xs k).isSome=true
 .rw[if_pos q,if_pos q];exact r.repl k c
 .rw[if_neg q,if_neg q];exact .snoc r ⟨rfl,d,c⟩
def KT.keeps(r:KT H a xs)(c:∀b ys,H b=some (.tup ys)->H' b=some (.tup ys)):KT H' a xs:=
 Paired.mapP r λ_ _ z=>⟨z.1,c _ _ z.2.1,z.2.2⟩
section
variable {P:P7}{w:World}{H:Hp}{h:Heap}{a:Addr}
def nH(b:HOk P w H h)(e:Rd H a u):ObjOk P w H h a u:=e.ok b
def i5(c:HOk P w H h)(e:Rd H a (.dK b)):b.length<=sizeLine/\(a==sysModules)=false/\∃vs,KV b vs/\h.DictOf (cS P w) a vs:=
 nH c e
def jT(c:HOk P w H h)(e:H a=some (.dK b)):b.length<=sizeLine/\(a==sysModules)=false/\∃vs,KV b vs/\h.DictOf (cS P w) a vs:=i5 c (.inl e)
def lU(f:HOk P w H h)(e:H a=some (.tup (ks.map kV))):(tupleKind (cS P w)).is h ks a:=by
 obtain⟨_,g,r,o,b,d,n,c⟩:=f a _ e;exact⟨o,g.toArray,n,b,d,c,by simpa using Mb r⟩
theorem jU(d:HOk P w H h)(e:Rd H a (.dT b)):b.length<=sizeLine/\(a==sysModules)=false/\
 ∃xs,KT H b xs/\h.DictOfH (tupleKind (cS P w)) a xs:=by
 obtain⟨z,y,xs,r,o,s,i,k,n,u,j,f⟩:=nH d e;refine⟨z,y,xs,r,o,s,i,k,n,u,j,λx c=>?_,f⟩
 have g:∀{l:_}{m:_},KT H l m->∀x∈m,(tupleKind (cS P w)).is h x.1 x.2.1:=by
  intro l m q
  induction q with
  | nil=>grind
  | @cons p q C B A t v=>
    intro x c;rcases qu c with e|c
    .exact lU d (by ext)
    grind
 grind
def zI(c:HOk P w H h)(e:H a=some (.dT b)):b.length<=sizeLine/\(a==sysModules)=false/\
 ∃xs,KT H b xs/\h.DictOfH (tupleKind (cS P w)) a xs:=jU c (.inl e)
end
def DGet(H:Hp)(a:Addr)(y:V)(r:Option V):Prop:=
 (∃c k,Rd H a (.dK c)/\y=kV k/\r=cJ c k)\/∃c k b,Rd H a (.dT c)/\y=.ref b/\H b=some (.tup (k.map kV))/\r=cJ c k
def DPut(H:Hp)(a:Addr)(y v:V)(H':Hp):Prop:=
 (∃c k,H a=some (.dK c)/\y=kV k/\c.length<sizeLine/\H'=upd H a (.dK (cD c k v)))\/
 ∃c k b,H a=some (.dT c)/\y=.ref b/\H b=some (.tup (k.map kV))/\c.length<sizeLine/\H'=upd H a (.dT (cD c k v))
def DGet.k{k:bW}(e:H a=some (.dK b)):DGet H a (kV k) (cJ b k):=.inl ⟨b,k,.inl e,rfl,rfl⟩
def DPut.k{k:bW}(e:H a=some (.dK b))(c:b.length<sizeLine):DPut H a (kV k) v (upd H a (.dK (cD b k v))):=.inl ⟨b,k,e,rfl,c,rfl⟩
section
variable {σ:St}{H:Hp}{s:Shared}{a:Addr}{y v:V}{u r:Value}{o:Option V}{A:Around}{E:AA}
def Inv.big(I:Inv X pins σ H s):sysModules< ~~~s:=Nat.lt_trans (by decide) ((I.mod.glob.keeps I.bk).lt)
def R9(w:A.units+1<cLine)(I:Inv X pins σ H s)(g:DGet H a y (some v))(t:RelV y u)(h:∀f s',Inv X pins σ H s'->RelV v f->Q f s'):
 wpAny (mZ X.prog X.w) A (getItem (.ref a) u) Q E s:=by
 rcases g with⟨n,k,e,j,l⟩|⟨n,k,b,e,j,C,l⟩
 .subst j
  obtain⟨z,x,o,d,i⟩:=i5 I.hok e;obtain⟨f,m,c⟩:=RelO.some_of (by rw[l];exact d.val k);exact wpAny_getItem_of (jS t) i.mapOf m (h f _ (I.tok _) c)
 .subst j
  cases (t);obtain⟨z,x,r,d,i⟩:=jU I.hok e;obtain⟨f,m,c⟩:=RelO.some_of (by rw[l];exact d.val k);obtain⟨p,B,q⟩:=qc m;refine wpAny_getItem_heap (tupleKind_room_in1 w) (lU I.hok C) i B ?_;rw[q];exact h f _ (I.tok _) c
def zJ(n:A.units+1<cLine)(I:Inv X pins σ H s)(g:DGet H a y o)(m:RelV y u)(h:∀s',Inv X pins σ H s'->Q (.bool o.isSome) s'):
 wpAny (mZ X.prog X.w) A (compareOp .In u (.ref a)) Q E s:=by
 rcases g with⟨i,k,e,j,l⟩|⟨i,k,b,e,j,p,l⟩
 .subst j
  obtain⟨z,d,t,c,f⟩:=i5 I.hok e;refine wpAny_in_of (jS m) d f.mapOf ?_;rw[<-(c.val k).isSome_eq,<-l];exact h _ (I.tok _)
 .subst j
  cases (m);obtain⟨z,d,r,c,f⟩:=jU I.hok e;refine wpAny_in_heap (tupleKind_room_in1 n) (lU I.hok p) d f ?_;have q:=(c.val k).isSome_eq;rw[Option.isSome_map]at q;rw[<-q,<-l];exact h _ (I.tok _)
def zL(n:A.units+1<cLine)(I:Inv X pins σ H s)(g:DGet H a y o)(m:RelV y u)(h:∀s',Inv X pins σ H s'->Q (.bool (!o.isSome)) s'):
 wpAny (mZ X.prog X.w) A (compareOp .NotIn u (.ref a)) Q E s:=by
 rcases g with⟨d,k,e,j,l⟩|⟨d,k,b,e,j,p,l⟩
 .subst j
  obtain⟨z,i,r,c,f⟩:=i5 I.hok e;refine wpAny_notIn_of (jS m) i f.mapOf ?_;rw[<-(c.val k).isSome_eq,<-l];exact h _ (I.tok _)
 .subst j
  cases (m);obtain⟨z,i,t,c,f⟩:=jU I.hok e;refine wpAny_notIn_heap (tupleKind_room_in1 n) (lU I.hok p) i f ?_;have q:=(c.val k).isSome_eq;rw[Option.isSome_map]at q;rw[<-q,<-l];exact h _ (I.tok _)
def nI(I:Inv X pins σ H s)(e:nk (H a))(hs:Heap.SameBut a s.heap h')(g:∃q,h'.get? a=some q)(c:ObjOk X.prog X.w (upd H a d) h' a d):
 Inv X pins σ (upd H a d) {s with heap:=h',toks:=t' }:=
 I.write e (.inl rfl) (λb q f z=>(hs.2 b f).trans z) g c
def zM(z:b.length<=sizeLine)(d:(a==sysModules)=false)(c:KV b vs)(e:f.DictOf (cS P w) a vs):
 ObjOk P w H' f a (.dK b):=⟨z,d,vs,c,e⟩
theorem R_(M:A.units+1<cLine)(I:Inv X pins σ H s)(g:DPut H a y v H')(x:RelV y u)(B:RelV v r)(h:∀s',Inv X pins σ H' s'->Q () s'):
 wpAny (mZ X.prog X.w) A (setItem (.ref a) u r) Q E s:=by
 rcases g with⟨d,k,e,p,l,n⟩|⟨d,k,b,e,p,D,l,n⟩
 .subst p n
  obtain⟨z,t,F,f,w⟩:=jT I.hok e
  have T:F.length<=sizeLine:=by rw[<-f.length];exact z
  have m:(cD d k v).length<=sizeLine:=by have:=zH d k v;lia
  refine wpAny_setItem_pairs (jS x) w λO i o=>h _ ?_;have L:∃q,_:=let ⟨q,_,_,j,_⟩:=i;⟨q,j⟩;exact nI I (by rw[e];exact .intro) o L (zM m t (f.put k B) i)
 .subst p n
  cases (x);obtain⟨z,t,N,f,w⟩:=zI I.hok e
  have T:N.length<=sizeLine:=by rw[<-Paired.length f];exact z
  have m:(cD d k v).length<=sizeLine:=by have:=zH d k v;lia
  refine wpAny_setItem_heap (tupleKind_room_in1 M) (lU I.hok D) w λO i o=>h _ ?_;obtain⟨q,R,J,j,S,G,K,_,U⟩:=i;refine nI I (by rw[e];exact .intro) o ⟨q,j⟩ ⟨m,t,_,(f.put k D B).keeps λc V C=>?_,q,R,J,j,S,G,K,U⟩;rw[Yl (x9 C e (λz=>nomatch z))];exact C
end
def nJ(i:Expr):Prop:=∀a b,subscripted i false a b=operate [a,b] (getItem a b)
def zN{T id:String}(m:typeLookup (.type T) "__getitem__"=pure (some (.builtin id)))(hs:nJ a)(h:wpAny (mZ prog w) A (eval c env) (λo e=>wpAny (mZ prog w) A (eval a env) (λi b=>b.TypeIs o T/\wpAny (mZ prog w) A (getItem o i) Q E b) E e) E s):
 wpAny (mZ prog w) A (eval (.Subscript c a l) env) Q E s:=by
 refine Subscript_ (wz h (λo e k=>wz k (λi b d=>?_) λ_ _ x=>x) λ_ _ x=>x);obtain⟨n,d⟩:=d;refine wa (wa (wpAny_specialOf n m ?_))
 have g:wpAny (mZ prog w) A (subscripted a false o i) (λr f=>wpAny (mZ prog w) A (letTemporaryGo c o r>>=λ_=>pure r) Q E f) E b:=by
  rw[hs o i];exact wpAny_operating (wz d (λr f j=>wa (wpAny_letTemporaryGo (wb j))) λ_ _ x=>x)
 first
  | exact wb (wa g)
  | exact wa _
  | exact wa g
def Sa{σ:St}(I:Inv X pins σ H s)(g:DGet H a y o):s.TypeIs (.ref a) "dict":=by
 rcases g with⟨c,k,e,_,_⟩|⟨c,k,b,e,_,_,_⟩
 .obtain⟨_,_,f,_,d⟩:=i5 I.hok e
  exact d.typeIs
 .obtain⟨_,_,h,_,d⟩:=jU I.hok e
  exact d.typeIs
def zO(h:Heap)(a:sysModules<h.objs.size):ObjOk P w H (h.push {cls:=.type "dict",data:=.dict #[]}) h.objs.size (.dK []):=
 ⟨Qh _,beq_eq_false_iff_ne.mpr (.symm (qm a)),[],.nil,.new h⟩
def zP:TE:=λ_ H Q=>∀p,H p=none->Q (.ref p) (upd H p (.dK []))
def zQ:PE X (.Dict [] [] pos) zP:=λa s b H Q I h=>
 wpAny_Dict_empty ⟨.ref _,_,I.laid (λ_ _ q=>qe _ q) (qv _) (zO _ I.big),rfl,h _ (I.hok.fresh (qv _))⟩
def zR:List (TE×TE)->St->Hp->(List (V×V)->Hp->Prop)->Prop
 | [],_,H,Q=>Q [] H
 | (tk,a)::r,σ,H,Q=>tk σ H λx c=>a σ c λy b=>zR r σ b λps d=>Q ((x,y)::ps) d
abbrev VV:List (V×V)->List (Value×Value)->Prop:=Paired λp q=>RelV p.1 q.1/\RelV p.2 q.2
def nK(X:Cx)(c:Pos)(b:List (Option Expr))(a:AK)(d:List (TE×TE)):Prop:=
 ∀(e:List _) (s:Shared) (f:St) (H:Hp) (Q:List _->Hp->Prop),Inv X e f H s->zR d f H Q->
  aag X (evalPairs (pairTrees b a X.env c)) (λi j=>∃h g,Inv X e f g j/\VV h i/\Q h g) X.xe s
def zS:nK X pos [] [] []:=λa s b H Q I h=>pairTrees_nil_walk ⟨[],H,I,.nil,h⟩
def zT(j:PE X k tk)(B:PE X v i)(p:nK X pos ks vs c):
 nK X pos (some k::ks) (v::vs) ((tk,i)::c):=λd s a H Q I h=>
 pairTrees_cons_walk (aM (j _ s a H _ I h) λu m ⟨x,n,g,A,q⟩=>aM (B _ m a n _ g q) λE l ⟨y,C,w,e,z⟩=>
  aM (p _ l a C _ w z) λD F ⟨o,r,f,b,t⟩=>⟨(x,y)::o,r,f,.cons ⟨A,e⟩ b,t⟩)
structure M1(X:Cx)(o:Expr)(m:Str)(apos:Pos)(e:Expr)(cpos:Pos):Prop where
 base:attributeBase o m X.env (eval o X.env)=eval o X.env
 few:((backTo cpos (starEach [e] X.env)).all (λx=>!x.1)&&(backToKw cpos (keywordEach [] X.env)).all (λx=>x.1.isSome)
  &&decide (([e]:AK).length+([]:List Keyword).length+(if ([]:List Keyword).isEmpty then 0 else 1)<30))=true
 line:(apos.endLine==cpos.line)=true
 trees:backTo cpos (starEach [e] X.env)=[(false,eval e X.env)]
structure M2(X:Cx)(o:Expr)(m:Str)(apos:Pos)(e f:Expr)(cpos:Pos):Prop where
 base:attributeBase o m X.env (eval o X.env)=eval o X.env
 few:((backTo cpos (starEach [e,f] X.env)).all (λx=>!x.1)&&(backToKw cpos (keywordEach [] X.env)).all (λx=>x.1.isSome)
  &&decide (([e,f]:AK).length+([]:List Keyword).length+(if ([]:List Keyword).isEmpty then 0 else 1)<30))=true
 line:(apos.endLine==cpos.line)=true
 trees:backTo cpos (starEach [e,f] X.env)=[(false,eval e X.env),(false,eval f X.env)]
def Mc(H:Hp)(a:Addr):Prop:=(∃b,Rd H a (.dK b))\/∃b,Rd H a (.dT b)
def zU{σ:St}(I:Inv X pins σ H s)(d:Mc H a):
 s.TypeIs (.ref a) "dict"/\(∀b,Value.ref a=.ref b->∃c,s.heap.get? b=some c/\c.dict=none)/\(a==sysModules)=false:=by
 rcases d with⟨i,e⟩|⟨i,e⟩
 .obtain⟨_,g,k,_,f⟩:=i5 I.hok e
  refine⟨f.typeIs,λb q=>?_,g⟩;cases q;obtain⟨c,_,_,h,j,_⟩:=f;exact⟨c,h,j.2.1⟩
 .obtain⟨_,g,l,_,f⟩:=jU I.hok e
  refine⟨f.typeIs,λb q=>?_,g⟩;cases q;obtain⟨c,_,_,h,j,_⟩:=f;exact⟨c,h,j.2.1⟩
section
variable {σ:St}{H:Hp}{s:Shared}{a:Addr}{y d:V}{u r:Value}{o:Option V}{A:Around}{E:AA}
def zV(w:A.units+1<cLine)(I:Inv X pins σ H s)(g:DGet H a y o)(q:RelV y u)(p:RelV d r)(h:∀t s',Inv X pins σ H s'->RelV (o.getD d) t->Q t s'):
 wpAny (mZ X.prog X.w) A (call (.builtin "dict.get") [.ref a,u,r]) Q E s:=by
 rcases g with⟨n,k,e,m,l⟩|⟨n,k,b,e,m,v,l⟩
 .subst m
  obtain⟨z,j,B,f,i⟩:=i5 I.hok e;refine call_meetsIn PySem.F.slot_dict_get i.typeIs PySem.F.entry_dict_get (PySem.F.args_dict_get_3 _ _ _) (meets_dict_get_default _ a (jS q) j r) ⟨_,i.mapOf,h _ _ (I.tok _) ?_⟩;rw[l];exact(f.val k).getD p
 .subst m
  cases (q);obtain⟨z,j,x,f,i⟩:=jU I.hok e;refine call_meetsIn PySem.F.slot_dict_get i.typeIs PySem.F.entry_dict_get (PySem.F.args_dict_get_3 _ _ _) (meetsH_dict_get_default _ a b j r) ⟨tupleKind_room_in1 w,k,x,lU I.hok v,i,h _ _ (I.tok _) ?_⟩;rw[l];exact(f.val k).getD p
end
def zW(f e d:TE):TE:=λh H Q=>f h H λx c=>∃a,x=.ref a/\Mc c a/\e h c λy g=>d h g λz b=>∃o,DGet b a y o/\Q (o.getD z) b
section
variable {o e f:Expr}{td ty tx:TE}
def zX(w:X.A.units+1<cLine)(A:PE X o td)(r:PE X e ty)(G:PE X f tx)(m:M2 X o "get" apos e f cpos):PE X (.Call (.Attribute o "get" apos) [e,f] [] cpos) (zW td ty tx):=by
 intro Z s Y H Q I h;refine wpAny_Call_method m.base m.few m.line PySem.F.plainAttrs_dict PySem.F.slot_dict_get PySem.F.type_dict_get (aM (A _ s Y H _ I h) λu v c=>?_);obtain⟨x,B,k,L,a,q,d,C⟩:=c;subst q;obtain rfl:=L;obtain⟨K,D,_⟩:=zU k d;refine⟨K,D,?_⟩;rw[m.trees];refine Calls.callWith_builtin rfl (Calls.evalArgs_plain (Calls.spliced_cons (aM (r _ v Y B _ k C) λP t c=>?_)));obtain⟨y,J,n,l,N⟩:=c;refine Calls.spliced_cons (aM (G _ t Y J _ n N) λV S c=>?_);obtain⟨z,E,p,O,U,g,F⟩:=c;exact Calls.spliced_nil (zV w p g l O λR T M j=>⟨_,E,M,j,F⟩)
end
end L2
namespace HT
open PySem PyProof.Rows
section
variable {prog:P7}{w:World}{A:Around}{E:AA}{s:Shared}
theorem cat_tup(r:IsTup s.heap t vs.toArray)(u:IsTup s.heap b d.toArray)(y:vs≠[])(v:d=[]->Q (.ref t) s)(x:d≠[]->Q (.ref (~~~s)) {s with heap:=s.heap.push {cls:=.type "tuple",data:=.seq (vs++d).toArray} })(hsz:vs.length+d.length<=sizeLine):wpAny (mZ prog w) A (binaryOp .Add (.ref t) (.ref b)) Q E s:=by
 obtain⟨⟨cls,m,data,l⟩,i,o,n,k⟩:=id r;obtain⟨⟨p,g,data2,h⟩,c,f,q,e⟩:=id u;simp at o k f e;subst o k f e;by_cases j:d=[]
 .exact concat_meets ⟨_,i,rfl⟩ ⟨_,c,rfl⟩ noFill_tuple_add seq_tuple_add PySem.F.slot_tuple_add PySem.F.entry_tuple_add (PySem.F.args_tuple_add_2 _ _)
   (tuple_addW1 t b _ _ n q m g l h (by grind) (by simp[j])) ⟨i,c,v j⟩
 .refine concat_meets ⟨_,i,rfl⟩ ⟨_,c,rfl⟩ noFill_tuple_add seq_tuple_add PySem.F.slot_tuple_add PySem.F.entry_tuple_add (PySem.F.args_tuple_add_2 _ _)
   (tuple_addW2 t b _ _ n q m g l h (by grind) (by grind) (by omega)) ⟨i,c,?_⟩
  ext
noncomputable def sIx(n d:Nat):Option Int->Nat
 | none=>d
 | some v=>if v<0 then (v+n).toNat else min v.toNat n
def sIx_none(n d:Nat):sIx n d none=d:=rfl
theorem sIx_nat(n d k:Nat):sIx n d (some (k:Int))=min k n:=by
 show(if k<0 then (k+(n:Int)).toNat else _)=_;constructor<;>ac_nf
theorem zY(n d:Nat)(hd:d<=n)(o:Option Int):sIx n d o<=n:=by
 cases o with
 | none=>exact hd
 | some v=>
   show(if v<0 then (v+(n:Int)).toNat else min v.toNat n)<=n;by_cases hv:v<0
   .rw[if_pos hv];ac_nf
   .rw[if_neg hv];exact Nat.min_le_right _ _
theorem Md(v:Int)(n d:Nat):(if v<0 then max (v+(n:Int)) 0 else min v (n:Int))=((sIx n d (some v):Nat):Int):=by
 show(if v<0 then _ else min v _)=(((if v<0 then (v+n).toNat else min v.toNat n)));grind
def Sb(lo a:Option Int)(n:Nat):Builtin.Slice.sliceAdjust lo a 1 (n:Int)=(((sIx n 0 lo:Nat):Int),((sIx n n a:Nat):Int)):=by
 refine Prod.ext ?_ ?_
 .cases lo with
  | none=>rfl
  | some v=>exact Md v n 0
 .cases a with
  | none=>rfl
  | some v=>exact Md v n n
theorem Sd(i j:Nat):Builtin.Slice.slicePlaces (i:Int) (j:Int) 1=j-i:=by
 unfold Builtin.Slice.slicePlaces
 ext<;>lia
def Me(p:IsPart v o)(h:Q o s):wpAny (mZ prog w) A (Builtin.Slice.slicePartIndex v) Q E s:=by
 cases p with
 | none=>exact slicePart_none h
 | int i t=>exact slicePart_int h
def sliceApplied_gen{lo c:Option Int}{Q:Int×Int×Nat->Shared->Prop}(hs:s.heap.IsSliceOf g e d .none)(f:IsPart e lo)(j:IsPart d c)(h:Q (((sIx n 0 lo:Nat):Int),1,sIx n n c-sIx n 0 lo) s):wpAny (mZ prog w) A (Builtin.Slice.sliceApplied (.ref g) (pure (n:Int))) Q E s:=by
 obtain⟨os,a,i,b⟩:=id hs;refine wa (wa (wpAny_field a b (x:=e) rfl (wa (wpAny_field a b (x:=d) rfl (wa (wpAny_field a b (x:=.none) rfl (wb (wa (slicePart_none (wa (Me f (wa (Me j (wa (wb ?_)))))))))))))));show wpAny _ _ (match Builtin.Slice.sliceAdjust lo c 1 _ with|(lo,c)=>pure (lo,_,Builtin.Slice.slicePlaces lo c 1)) _ _ s;rw[Sb lo c n];show wpAny _ _ (pure _) _ _ s;rw[Sd];exact wb h
theorem zZ(xs:Array Value)(i k:Nat):((List.range k).filterMap fun(m:Nat)=>xs[((i:Int)+(m:Int)*1).toNat]?).toArray=((xs.toList.drop i).take k).toArray:=by
 have e:(fun(m:Nat)=>xs[((i:Int)+(m:Int)*1).toNat]?)=λm=>xs[i+m]?:=by
  funext m
  have:((i:Int)+(m:Int)*1).toNat=i+m:=by lia
  rw[this]
 rw[e];have:=pick_run xs i k;rw[List.filterMap_map]at this;have e2:((λx=>xs[x]?) ∘ λx=>i+x)=λm=>xs[i+m]?:=rfl;rw[e2]at this;rw[this]
theorem getItem_tuple_cut{lo d:Option Int}(e:IsTup s.heap t a)(hs:s.heap.IsSliceOf k o n .none)(m:IsPart o lo)(l:IsPart n d)(q:¬(sIx a.size 0 lo=0/\sIx a.size a.size d=a.size))(h:Q (.ref (~~~s)) {s with heap:=s.heap.push {cls:=.type "tuple",data:=.seq ((a.toList.drop (sIx a.size 0 lo)).take (sIx a.size a.size d-sIx a.size 0 lo)).toArray} })(hsz:a.size<=sizeLine):wpAny (mZ prog w) A (getItem (.ref t) (.ref k)) Q E s:=by
 have c:=by
  show((a.toList.drop (sIx a.size 0 lo)).take (sIx a.size a.size d-sIx a.size 0 lo)).toArray.size<=sizeLine
  (simp at*;lia)
 obtain⟨os,f,i,p⟩:=id hs
 have g:s.TypeIs (.ref k) _:=⟨os,f,i⟩
 unfold getItem
 try with_reducible refine wc ?_
 refine wa (wpAny_sequenceKey e.typeIs (by decide) ?_)
 refine wa (wpAny_callSpecial?_slot e.typeIs PyProof.Rows.slot_tuple_getitem
  (we PyProof.Rows.slot_tuple_getitem e.typeIs entry_tuple_getitem ?_ (args_tuple_getitem _ _)))
 show wpAny _ _ (Builtin.Tuple.tupleItemsOf _>>=_) _ _ s;refine wa (tupleItemsOf_ e ?_);refine wa (wpAny_typeOf g ?_);refine wa (sliceApplied_gen hs m l ?_)
 have j:¬((((sIx a.size 0 lo):Int)==0&&(1:Int)==1&&(sIx a.size a.size d-sIx a.size 0 lo)==a.size)=true):=by
  ext
 show wpAny _ _ (if _ then _ else _) _ _ s;rw[if_neg j,zZ]
 first
  | exact wa (wg (wb ⟨_,rfl,wb h⟩) c)
  | exact wa _
  | exact wa _
  | exact wa _
end
end HT
namespace L2
variable {X:Cx}{pins:AB}{pos apos cpos:Pos}{ys:AM}{es:AK}
open PySem PySem.Spec PyProof.Rows
abbrev TO:=St->Hp->(Option Int->Hp->Prop)->Prop
def PO(X:Cx)(e:Option Expr)(t:TO):Prop:=
 ∀(a:List _) (s:Shared) (b:St) (H:Hp) (Q:Option Int->Hp->Prop),Inv X a b H s->t b H Q->
  aag X (evalPart e X.env) (λu d=>∃o c,Inv X a b c d/\IsPart u o/\Q o c) X.xe s
def Mf:TO:=λ_ H Q=>Q none H
def nL(t:TE):TO:=λb H Q=>t b H λx a=>∃i,x=.int i/\Q (some i) a
theorem tR:∀{us:AC},Vals (ns.map V.int) us->IntsAre us ns:=by
 induction ns with
 | nil=>intro us r;cases r;exact .nil
 | cons n ns b=>
   intro us r
   cases r with
   | cons a c=>
     obtain⟨t,e⟩:=a;subst e;exact .cons n t (b c)
section
variable {e:Expr}{te:TE}{lo hi:Option Expr}{tl th:TO}{p2:Pos}
def z0:PO X none Mf:=by
 intro a s b H Q I h;exact wb ⟨none,H,I,.none,h⟩
def z1(h:PE X e te):PO X (some e) (nL te):=by
 intro k s l H Q I f;refine aM (h _ s l H _ I f) λu j a=>?_;obtain⟨x,g,c,b,d⟩:=a;obtain⟨i,rfl,q⟩:=d;obtain⟨t,rfl⟩:=b;exact⟨some i,g,c,.int i t,q⟩
def SlR(X:Cx)(r:V->Option Int->Option Int->Hp->VK->Prop):Prop:=
 ∀(d:List _) (s:Shared) (f:St) (H:Hp) (x:V) (v b a:Value) (lo e:Option Int) (c:Addr) (Q:VK),Inv X d f H s->RelV x v->s.heap.IsSliceOf c b a .none->IsPart b lo->IsPart a e->r x lo e H Q->
  ∃T id,typeLookup (.type T) "__getitem__"=pure (some (.builtin id))/\s.TypeIs v T/\aag X (getItem v (.ref c)) (EP X d f Q) X.xe s
def SlR.or(h:SlR X r)(h':SlR X k):SlR X (λx lo hi H Q=>r x lo hi H Q\/k x lo hi H Q):=by
 intro f s g H x v d b lo hi c Q I i e j a q;rcases q with q|q
 .exact h _ s g H x v d b lo hi c Q I i e j a q
 .exact h' _ s g H x v d b lo hi c Q I i e j a q
def Se(r:V->Option Int->Option Int->Hp->VK->Prop)(te:TE)(tl th:TO):TE:=λd H Q=>te d H λx c=>tl d c λl b=>th d b λu a=>r x l u a Q
def z3(z:SlR X r)(E:PE X e te)(p:PO X lo tl)(F:PO X hi th):PE X (.Subscript e (.Slice lo hi none p2) pos) (Se r te tl th):=by
 intro g s c H Q I h;refine Subscript_ (aM (E _ s c H _ I h) λv D a=>?_);obtain⟨x,y,m,K,A⟩:=a;refine wpAny_Slice (aM (p _ D c y _ m A) λf o a=>?_);obtain⟨l,M,B,n,L⟩:=a;refine aM (F _ o c M _ B L) λi d a=>?_;obtain⟨u,j,N,k,C⟩:=a;refine wb ?_;have t:Inv X _ c j {d with heap:=d.heap.push {cls:=.type "slice",data:=.fields #[f,i,.none]} }:=N.kept λb O q=>qe _ q;obtain⟨T,id,w,G,J⟩:=z _ _ c j x v f i l u d.heap.objs.size Q t K (.new ..) n k C;exact tail_any G w J (by with_unfolding_all rfl)
def fC(xs:AM)(lo hi:Option Int):AM:=(xs.drop (HT.sIx xs.length 0 lo)).take (HT.sIx xs.length xs.length hi-HT.sIx xs.length 0 lo)
theorem Mg(xs:AM)(lo hi:Option Int):(fC xs lo hi).length<=xs.length:=by
 unfold fC
 ext<;>ac_nf
def z4(K:W7):V->Option Int->Option Int->Hp->VK->Prop:=λx lo d H Q=>∃a b,x=.ref a/\SqT K H a b/\
 ¬(HT.sIx b.length 0 lo=0/\HT.sIx b.length b.length d=b.length)/\∀p,H p=none->Q (.ref p) (upd H p (.tup (fC b lo d)))
def z_:SlR X (z4 X.K):=by
 intro g s w H x v y A lo n z Q I m j k i h;obtain⟨a,l,rfl,p,t,q⟩:=h;cases m;obtain⟨e,r,f,o⟩:=I.tuple p;have c:e.toArray.size=_:=r.length.symm;refine⟨"tuple",_,PyProof.Rows.slot_tuple_getitem.lookup,f.typeIs,HT.getItem_tuple_cut f j k i (by rwa [c]) ?_ (by rwa [c])⟩;rw[c];refine⟨.ref _,_,I.laid (λb u q=>qe _ q) (qv _) ?_,rfl,q _ (I.hok.fresh (qv _))⟩;exact⟨Qg (Mg l lo n) o,_,(r.drop _).take _,.new _ _⟩
def Aa(K:W7):R2:=λx y H Q=>∃a b d c,x=.ref a/\y=.ref b/\SqT K H a d/\SqT K H b c/\d≠[]/\d.length+c.length<=sizeLine/\
 (c=[]->Q (.ref a) H)/\(c≠[]->∀p,H p=none->Q (.ref p) (upd H p (.tup (d++c))))
def Vals.nil_iff(r:Vals xs us):us=[]↔xs=[]:=by
 cases r with
 | nil=>simp
 | cons _ _=>simp
def Ab:bX X (binaryOp .Add) (Aa X.K):=by
 intro f s A H x y v u Q I n l h;obtain⟨a,b,C,B,rfl,rfl,m,o,i,t,j,p⟩:=h;cases n;cases l;obtain⟨g,d,r,_⟩:=I.tuple m;obtain⟨e,c,k,_⟩:=I.tuple o;refine HT.cat_tup r k (λz=>i (d.nil_iff.mp z)) (λz=>⟨.ref a,H,I,rfl,j (c.nil_iff.mp z)⟩) (λz=>⟨.ref _,_,I.laid (λb E q=>qe _ q) (qv _) ?_,rfl,p (λw=>z (c.nil_iff.mpr w)) _ (I.hok.fresh (qv _))⟩) (by rwa [<-d.length,<-c.length]);exact⟨by rwa [qz],_,d.append c,.new _ _⟩
end
noncomputable def dM(n:Nat)(i:Int):AL:=if 0<=i then (if i<n then some i.toNat else none)else if -n<=i then some (i+n).toNat else none
def aY{a:Type}(xs:List a)(i:Int):Option a:=(dM xs.length i).bind λj=>xs[j]?
theorem Mh(h:dM n i=some j):seqIndex? i n=some j/\j<n/\-(n:Int)<=i/\i<n:=by
 unfold dM at h;by_cases b:0<=i
 .rw[if_pos b]at h
  by_cases a:i<n
  .rw[if_pos a]at h
   have e:=w4 h;exact⟨by rw[seqIndex_of b a,e],by lia,by lia,a⟩
  ext
 .rw[if_neg b]at h
  by_cases a:-n<=i
  .rw[if_pos a]at h
   have e:=w4 h;exact⟨by rw[seqIndex_neg (by lia) a,e],by lia,a,by lia⟩
  ext
theorem Ac(h:aY xs i=some v):∃j,seqIndex? i xs.length=some j/\xs[j]?=some v/\j<xs.length/\-(xs.length:Int)<=i/\i<xs.length:=by
 unfold aY at h
 cases e:dM xs.length i with
 | none=>ext
 | some j=>
   obtain⟨a,d,c,b⟩:=Mh e
   ext
theorem lV{j:Nat}(h:xs[j]?=some v):aY xs (j:Int)=some v:=by
 have a:=(qo h).1
 have e:dM xs.length j=some j:=by
  unfold dM;rw[if_pos (by lia),if_pos (by ext)];simp
 unfold aY;rwa [e]
def nM(b:Expr):Prop:=∀o i,subscripted b false o i=operate [o,i] (getItem o i)
def IxR(X:Cx)(r:R2):Prop:=
 ∀(b a:Expr) (c:List _) (s:Shared) (d:St) (H:Hp) (x y:V) (v u:Value) (Q:VK),Inv X c d H s->RelV x v->RelV y u->r x y H Q->
  subscripted a false v u=operate [v,u] (getItem v u)->aag X (subscriptTail b a v u) (EP X c d Q) X.xe s
def Sf(X:Cx)(id:String)(r:V->AM->Hp->VK->Prop):Prop:=
 ∀(a:List _) (s:Shared) (b:St) (H:Hp) (x:V) (c:AM) (v:Value) (d:List _) (Q:VK),Inv X a b H s->RelV x v->Vals c d->r x c H Q->
  aag X (call (.builtin id) (v::d)) (EP X a b Q) X.xe s
section
variable {a b:Expr}{ta tb:TE}
def IxR.or(h:IxR X r)(j:IxR X g):IxR X (λx y H Q=>r x y H Q\/g x y H Q):=by
 intro c d i s a H x y v u Q I f e q b;rcases q with q|q
 .exact h c d _ s a H x y v u Q I f e q b
 .exact j c d _ s a H x y v u Q I f e q b
def Ad(f:IxR X r)(c:PE X a ta)(l:PE X b tb)(hs:nM b):PE X (.Subscript a b pos) (jM r ta tb):=by
 intro k s m H Q I h;exact Subscript_ (jN c l I h λv u g x y e i d j q=>f a b _ g m e x y v u Q i d j q (hs _ _))
def nN(K:W7):R2:=λx y H Q=>∃p b i v,x=.ref p/\y=.int i/\SqL K H p b/\aY b i=some v/\Q v H
def nO(K:W7):R2:=λx y H Q=>∃p b i v,x=.ref p/\y=.int i/\SqT K H p b/\aY b i=some v/\Q v H
def nP:R2:=λx y H Q=>∃z i c,x=.str z/\y=.int i/\z.length<=sizeLine/\aY z.cps.toList i=some c/\Q (.str ⟨#[c]⟩) H
theorem ix_list:IxR X (nN X.K):=by
 intro f c o s E H x y v u Q I D A h n;obtain⟨p,M,i,z,rfl,rfl,G,F,q⟩:=h;cases D;obtain⟨t,rfl⟩:=A;obtain⟨k,r,g,L⟩:=I.list G;obtain⟨j,b,J,N,C,K⟩:=Ac F;obtain⟨w,l,d⟩:=r.get J;have B:=r.length;have O:=lT
 have a:EP X _ E Q w s:=⟨z,H,I,d,q⟩
 by_cases m:0<=i
 .have e:=by
   rw[seqIndex_of m K]at b;exact w4 b
  exact item_listR g.isList m (by lia) (by rw[e];simpa using l) a n
 .have e:(i+k.toArray.size).toNat=j:=by
   rw[seqIndex_neg (by lia) C]at b;rw[qk,<-B];exact w4 b
  exact subscriptTail_builtinR g.isList.typeIs slot_list_getitem.lookup
   (wpAny_getItem_list_neg g.isList (by lia) (by rw[qk]<;>lia) (by lia) (by rw[e];simpa using l) ⟨rfl,a⟩) n
theorem ix_tup:IxR X (nO X.K):=by
 intro d c a s L H x y v u Q I k f h J;obtain⟨p,K,i,z,rfl,rfl,l,g,q⟩:=h;cases k;obtain⟨t,rfl⟩:=f;obtain⟨G,r,b,C⟩:=I.tuple l;obtain⟨j,D,m,n,B,F⟩:=Ac g;obtain⟨w,A,e⟩:=r.get m;have E:=r.length;have o:=lT
 exact subscriptTail_builtinR b.typeIs slot_tuple_getitem.lookup
  (getItem_tuple (j:=j) b ∅ ∅ ⋯ ⋯ ⟨rfl,⟨z,H,I,e,q⟩⟩) J
theorem Ae:IxR X nP:=by
 intro e d a s C H x y v u Q I g f h b;obtain⟨z,i,c,rfl,rfl,n,k,q⟩:=h;obtain⟨t,rfl⟩:=g;obtain⟨B,rfl⟩:=f;obtain⟨j,r,p,l,o,A⟩:=Ac k
 have w:z.cps.toList.length=z.length:=by simp[Str.length]
 have m:=lT
 exact tail_any (typeIs_str s z t) slot_str_getitem.lookup (getItem_str (by
  ext<;>lia) (by grind) ⟨.str _,H,I.tok _,⟨_,rfl⟩,q⟩) b
def Mi(K:W7):R2:=λx y H Q=>nN K x y H Q\/nO K x y H Q\/nP x y H Q
def Af:IxR X (Mi X.K):=ix_list.or (ix_tup.or Ae)
def Sg(its:AC)(n j:Nat)(u:Value):Obj.mapSeq (·.setIfInBounds j u) {cls:=.type "list",data:=.seq its.toArray n}={cls:=.type "list",data:=.seq (its.set j u).toArray n}:=by
 simp[Obj.mapSeq]
def Inv.lst{pins:AB}{σ:St}{H:Hp}{s:Shared}{p:Addr}{xs:AM}(I:Inv X pins σ H s)(h:H p=some (.lst xs)):
 ∃(its:AC) (n:Nat),Vals xs its/\s.heap.get? p=some {cls:=.type "list",data:=.seq its.toArray n}/\xs.length<=sizeLine:=by
 obtain⟨z,its,n,r,e⟩:=I.hok p _ h;exact⟨its,n,r,e,z⟩
theorem Inv.lstUpd{pins:AB}{σ:St}{H:Hp}{s:Shared}{p:Addr}{xs ys:AM}{its its':AC}{n n':Nat}{f:Obj->Obj}(I:Inv X pins σ H s)(h:H p=some (.lst xs))(ho:s.heap.get? p=some {cls:=.type "list",data:=.seq its.toArray n})(hf:f {cls:=.type "list",data:=.seq its.toArray n}={cls:=.type "list",data:=.seq its'.toArray n' })(r:Vals ys its')(hz:ys.length<=sizeLine)(t:Nat):
 Inv X pins σ (upd H p (.lst ys)) {s with heap:=s.heap.update p f,toks:=t}:=by
 have e:(s.heap.update p f).get? p=some {cls:=.type "list",data:=.seq its'.toArray n' }:=by
  rw[wx f ho (by rw[hf]<;>rfl),hf]
 refine I.write (x:=p) (e:=p) (by rw[h];trivial) (.inl rfl) (λb u hb q=>(Heap.get?_update_other _ _ (Ne.symm hb)).trans q) ⟨_,e⟩ ?_;exact⟨hz,its',n',r,e⟩
def Ag:V->V->V->Hp->(Hp->Prop)->Prop:=λo i v H Q=>∃p xs k j,o=.ref p/\i=.int k/\H p=some (.lst xs)/\dM xs.length k=some j/\Q (upd H p (.lst (xs.set j v)))
theorem Ah:hJ X Ag:=by
 intro pins s σ H o i v ov iv u Q I ro ri rv h;obtain⟨p,xs,k,j,rfl,rfl,hp,hj,q⟩:=h;cases ro;obtain⟨t,rfl⟩:=ri;obtain⟨its,n,r,ho,hz⟩:=I.lst hp;obtain⟨h1,h2,h3,h4⟩:=Mh hj;have hl:=r.length;have hn:=lT
 have I':Inv X pins σ (upd H p (.lst (xs.set j v))) {s with heap:=s.heap.update p (Obj.mapSeq (·.setIfInBounds j u))}:=
  I.lstUpd hp ho (Sg its n j u) (r.set rv j) (by rw[List.length_set];exact hz) s.toks
 by_cases h0:0<=k
 .have hk:k.toNat=j:=by
   rw[seqIndex_of h0 h4]at h1;exact w4 h1
  exact W.ki_setAt ho h0 ∅ (by rw[qk,<-hl];exact h4) (by rw[hk];exact⟨_,I',q⟩)
 .have hk:(k+(its.toArray.size:Int)).toNat=j:=by
   rw[seqIndex_neg ∅ h3]at h1;rw[qk,<-hl];exact w4 h1
  exact W.ki_setBack ho ∅ (by rw[qk,<-hl];exact h3) ∅ (by rw[hk];exact⟨_,I',q⟩)
theorem Sh(lo d:Option Int)(n:Nat):(sliceBounds lo d none n).1=((HT.sIx n 0 lo:Nat):Int)/\(sliceBounds lo d none n).2.1=((HT.sIx n n d:Nat):Int)/\(sliceBounds lo d none n).2.2=1:=by
 refine⟨?_,?_,rfl⟩
 .cases lo with
  | none=>constructor<;>ac_nf
  | some i=>
    simp only[sliceBounds,HT.sIx];symm
 .cases d with
  | none=>constructor<;>ac_nf
  | some i=>
    simp only[sliceBounds,HT.sIx];symm
def Si(its:AC)(lo c:Option Int):slicePick its.toArray lo c none=((its.drop (HT.sIx its.length 0 lo)).take (HT.sIx its.length its.length c-HT.sIx its.length 0 lo)).toArray:=by
 obtain⟨f,g,e⟩:=Sh lo c _;unfold slicePick;rw[f,g,e];simp only[sliceRange_one,pick_run]<;>rfl
def Ai(K:W7):V->Option Int->Option Int->Hp->VK->Prop:=λx lo d H Q=>∃a c,x=.ref a/\SqL K H a c/\∀p,H p=none->Q (.ref p) (upd H p (.lst (fC c lo d)))
theorem Aj:SlR X (Ai X.K):=by
 intro f s y H x v n o lo e m Q I i w t g h;obtain⟨a,p,rfl,j,q⟩:=h;cases i;obtain⟨u,r,d,k⟩:=I.list j;have c:=r.length;refine⟨"list",_,slot_list_getitem.lookup,d.isList.typeIs,wpAny_getItem_list_slice d.isList w t g .none nofun ?_ (by ext)⟩;rw[Si,<-c];refine⟨.ref _,_,I.laid (λb l q=>qe _ q) (qv _) ?_,rfl,q _ (I.hok.fresh (qv _))⟩;exact⟨Qg (Mg p lo e) k,_,0,(r.drop _).take _,qp _ rfl⟩
theorem Sj:dO X (.builtin "len") (λxs H Q=>∃p ys,xs=[.ref p]/\(SqL X.K H p ys\/SqT X.K H p ys)/\Q (.int ys.length) H):=by
 intro k s m H xs l Q I r h;obtain⟨p,ys,rfl,c,q⟩:=h;obtain⟨u,rfl,g⟩:=ez r;cases g;have j:=lT;rcases c with c|c
 .obtain⟨f,e,b,i⟩:=I.list c
  have d:=e.length;exact Calls.call_len_list b.isList (by ext<;>lia) ⟨.int _,H,I.tok _,⟨s.toks+1,by grind⟩,q⟩
 .obtain⟨f,e,b,i⟩:=I.tuple c
  have d:=e.length;exact len_tuple b (by ext<;>lia) ⟨.int _,H,I.tok _,⟨s.toks+1,by grind⟩,q⟩
theorem Sk:dO X (.type "list") (λxs H Q=>∃p ys,xs=[.ref p]/\(SqL X.K H p ys\/SqT X.K H p ys)/\∀l,H l=none->Q (.ref l) (upd H l (.lst ys))):=by
 intro y s z H xs A Q I r h;obtain⟨p,ys,rfl,f,q⟩:=h;obtain⟨u,rfl,x⟩:=ez r;cases x
 have j:∀_,_->_->∀(b:Heap) _,_->
  _->EP X _ z Q _ {s with heap:=b}:=λa c g b d i e=>
  ⟨.ref _,_,I.laid i (qv _) (show ObjOk _ X.w _ b _ (.lst ys) from⟨g,a,d,c,e⟩),rfl,q _ (I.hok.fresh (qv _))⟩
 rcases f with f|f
 .obtain⟨a,c,w,g⟩:=I.list f
  have k:=c.length;obtain⟨o,m,v,n,t⟩:=w.isList;exact call_list_seq p (.inl rfl) m v t (λb d i e=>j a c g b d i e) (by grind)
 .obtain⟨a,c,w,g⟩:=I.tuple f
  have k:=c.length;obtain⟨o,m,v,n,t⟩:=w;exact call_list_seq p (.inr rfl) m v t (λb d i e=>j a c g b d i e) (by grind)
theorem Sl:dO X (.type "tuple") (λxs H Q=>∃p ys,xs=[.ref p]/\((SqL X.K H p ys/\∀l,H l=none->Q (.ref l) (upd H l (.tup ys)))\/(SqT X.K H p ys/\Q (.ref p) H))):=by
 intro n s w H xs v Q I r h;obtain⟨p,ys,rfl,h⟩:=h;obtain⟨u,rfl,j⟩:=ez r;cases j;rcases h with⟨c,q⟩|⟨c,q⟩
 .obtain⟨a,d,m,f⟩:=I.list c
  have g:=d.length;refine call_tuple_list m.isList (λt k=>?_) ⋯;have i:=I.kept (t':=s.toks) k;exact⟨.ref _,_,i.laid (λb o e=>qe _ e) (qv _) (show ObjOk _ X.w _ _ _ (.tup ys) from⟨f,a,d,.new _ _⟩),rfl,q _ (i.hok.fresh (qv _))⟩
 .obtain⟨a,d,m,f⟩:=I.tuple c
  exact call_tuple_same m ⟨.ref p,H,I,rfl,q⟩
def Mj(K:W7)(T:String)(x:V)(H:Hp):Prop:=match x with
 | .str _=>T="str"
 | .int _=>T="int"
 | .ref p=>(T="list"/\∃b,SqL K H p b)\/(T="tuple"/\∃o,K.lookup p=some o/\o.cls=.type "tuple"/\o.dict=none)\/
  (T="dict"/\((∃c,H p=some (.dK c))\/∃c,H p=some (.dT c)))\/(T="set"/\∃S n,H p=some (.set S n))
 | _=>False
theorem Ak{σ:St}(I:Inv X pins σ H s)(r:RelV x v)(g:Mj X.K T x H):
 s.TypeIs v T/\∀a,v=.ref a->∃k,s.heap.get? a=some k/\k.dict=none:=by
 cases x with
 | str z=>
   obtain⟨t,rfl⟩:=r;cases (g);exact⟨typeIs_str s z t,λ_ e=>nomatch e⟩
 | int i=>
   obtain⟨t,rfl⟩:=r;cases (g);exact⟨typeIs_int s i t,λ_ e=>nomatch e⟩
 | ref p=>
   cases r;rcases g with⟨rfl,w,l⟩|⟨rfl,o,d,m,j⟩|⟨rfl,d⟩|⟨rfl,S,n,d⟩
   .obtain⟨u,_,q,_⟩:=I.list l
    refine⟨q.isList.typeIs,λa e=>?_⟩;obtain⟨o,n,e,c,j,_⟩:=q
    ext
   .refine⟨⟨o,I.kIn p o d,m⟩,λa e=>?_⟩
    cases e;exact⟨o,I.kIn _ o d,j⟩
   .have z:∃o,s.heap.get? p=some o/\o.ExactDict:=by
     rcases d with⟨h,d⟩|⟨h,d⟩
     .obtain⟨_,_,_,_,o,_,_,e,f,_⟩:=I.hok p _ d
      grind
     .obtain⟨_,_,_,_,o,_,_,e,f,_⟩:=I.hok p _ d
      grind
    obtain⟨o,e,f⟩:=z;refine⟨⟨o,e,f.1⟩,λa b=>?_⟩;cases b;exact⟨o,e,f.2.1⟩
   .obtain⟨o,_,_,_,e,f,_⟩:=I.hok p _ d
    refine⟨⟨o,e,f.1⟩,λa b=>?_⟩;cases b;exact⟨o,e,f.2.1⟩
 | _=>exact False.elim g
def Sn(K:W7)(T:String)(r:V->AM->Hp->VK->Prop)(e:TE)(t:TA):TE:=λb H Q=>e b H λx d=>Mj K T x d/\t b d λc f=>r x c f Q
variable {o e:Expr}{to:TE}{t:TA}{name:Str}{T id:String}{r:V->AM->Hp->VK->Prop}
theorem nQ(K:PlainAttrs T)(g:Slot T name id)(j:typeOf (.builtin id)=pure (.type "method_descriptor"))(w:Sf X id r)(y:PE X o to)(G:PA X (e::es) t)(d:attributeBase o name X.env (eval o X.env)=eval o X.env:=by rfl)(i:((backTo cpos (starEach (e::es) X.env)).all (λx=>!x.1)&&(backToKw cpos (keywordEach [] X.env)).all (λx=>x.1.isSome)
  &&decide ((e::es).length+([]:List Keyword).length+(if ([]:List Keyword).isEmpty then 0 else 1)<30))=true:=by rfl)(b:(apos.endLine==cpos.line)=true:=by rfl)(hs:starEach (e::es) X.env=(false,eval e X.env)::starEach es X.env:=by rfl)(a:(backTo cpos (starEach es X.env)).any (·.1)=false:=by rfl):
 PE X (.Call (.Attribute o name apos) (e::es) [] cpos) (Sn X.K T r to t):=by
 intro p s k H Q I h;refine wpAny_Call_method_late d i b rfl (aM (y _ s k H _ I h) λv E c=>?_);obtain⟨x,C,m,l,q,D⟩:=c;obtain⟨A,M⟩:=Ak m l q;refine⟨T,id,K,g,j,A,M,?_⟩;have n:=G cpos _ E k C _ m D;rw[hs]at n ⊢;refine Calls.callWith_builtin (by show(false||(backTo _ _).any _)=_;rw[a]<;>rfl) (Calls.evalArgs_plain (aM n λF u c=>?_));obtain⟨B,L,z,J,N⟩:=c;exact w _ u k L x B v F Q z l J N
end
def nR(X:Cx)(id:String)(r:V->AM->Hp->VK->Prop):Prop:=
 ∀(a:List _) (s:Shared) (b:St) (H:Hp) (x:V) (c:AM) (v:Value) (d:List _) (Q:VK),Inv X a b H s->RelV x v->Vals c d->r x c H Q->
  aag X (call (.builtin id) (v::d)) (EP X a b Q) X.xe s
theorem Vals.one:∀{x:V}{us:AC},Vals [x] us->∃u,us=[u]/\RelV x u
 :=by
  intro x us h
  cases h with
  | cons r t=>
    cases t;symm
section
variable {σ:St}{H:Hp}{s:Shared}{l b:Addr}{xs zs:AM}
def Inv.lset{its its':AC}(I:Inv X pins σ H s)(i:H l=some (.lst xs))(e:s.heap.get? l=some {cls:=.type "list",data:=.seq its.toArray n})(g:f its.toArray=its'.toArray)(c:Vals ys its')(d:ys.length<=sizeLine):
 Inv X pins σ (upd H l (.lst ys)) {s with heap:=s.heap.update l (Obj.mapSeq f),toks:=t' }:=by
 have q:=PySem.IsL.update e f;rw[g]at q;exact I.write (by rw[i];exact trivial) (.inl rfl) (λj u hb h=>(Heap.get?_update_other s.heap (Obj.mapSeq f) (Ne.symm hb)).trans h) ⟨_,q⟩ (⟨d,its',_,c,q⟩)
def Inv.lnew(I:Inv X pins σ H s)(a:Vals ys its)(c:ys.length<=sizeLine):
 Inv X pins σ (upd H (~~~s) (.lst ys)) {s with heap:=s.heap.push {cls:=.type "list",data:=.seq its.toArray},toks:=t' }:=
 I.laid (λ_ _ q=>qe _ q) (qv _) ⟨c,its,0,a,qp _ rfl⟩
def Inv.fresh(I:Inv X pins σ H s):H (~~~s)=none:=I.hok.fresh (qv _)
def Inv.lstM(I:Inv X pins σ H s)(a:H l=some (.lst xs)):xs.length<=sizeLine/\∃(its:AC) (n:Nat),Vals xs its/\xs.length=its.length/\s.heap.get? l=some {cls:=.type "list",data:=.seq its.toArray n}:=by
 obtain⟨z,its,n,r,e⟩:=I.hok l _ a;exact⟨z,its,n,r,r.length,e⟩
theorem Al(h:n<=sizeLine):Builtin.List.listTooLong n=false:=by
 unfold Builtin.List.listTooLong
 ext
def Am:V->AM->Hp->VK->Prop:=λx b H Q=>∃l a y,x=.ref l/\b=[y]/\H l=some (.lst a)/\a.length<sizeLine/\Q .non (upd H l (.lst (a++[y])))
theorem Ml:nR X "list.append" Am:=by
 intro b s p H x t v o Q I g f h;obtain⟨l,m,y,rfl,rfl,c,i,q⟩:=h;cases g;obtain⟨u,rfl,d⟩:=f.one;obtain⟨z,k,n,r,j,e⟩:=I.lstM c;refine call_meets F.slot_list_append ⟨_,e,rfl⟩ F.entry_list_append (F.args_list_append_2 _ _) (PySem.list_append l _ n u (by ext)) ⟨e,⟨.non,_,I.lset c e nofun (r.append (.cons d .nil)) ?_,rfl,q⟩⟩
 (simp;lia)
end
end L2
namespace Att
open PySem PySem.W PySem.Calls PyProof.Rows
theorem So:∀(ns:AF) (vs:AC),WellAll P h vs (ns.map WData.int)->IntsAre vs ns:=by
 intro ns
 induction ns with
 | nil=>
   intro vs w;cases w;exact .nil
 | cons n ns c=>
   intro vs w
   cases w with
   | cons a b=>
     cases a;exact .cons _ _ (c _ b)
theorem Sq{l:OpenLaw}(t:l.most=some n)(b:l.row.toRowW.claim.pre args=true)(g:WellAll P h e args):
 ∃a vs ns,e=[Value.ref a]/\args=[WData.list (ns.map WData.int)]/\h.get? a=some {cls:=.type "list",data:=.seq vs.toArray}/\IntsAre vs ns/\ns.length<=n:=by
 have s:l.pre.holds [] _=true:=(pre_splitW b).2;obtain⟨d,r,rfl,p,o⟩:=hasAllW_cons ((pre_splitW b).1);obtain rfl:=hasAllW_nil o;obtain⟨v,rfl,m⟩:=hasW_list p;obtain⟨ns,rfl⟩:=items_int m
 have f:ns.length<=n:=by
  have i:(WTm.not (.lt (.lit (.int n)) (.len (.arg 0)))).holds [] {args:=[.list (ns.map .int)]}=true:=by
   have i:=(holds_andW s).1
   ext
  have u:=condW_of i (w_not (w_lt w_lit (w_len_list (w_arg rfl))))
  ext
 cases g with
 | cons q k=>
   cases k
   cases q with
   | list j c=>exact⟨_,_,ns,rfl,rfl,j,So ns _ c,f⟩
def Sr(l:OpenLaw)(a:List WData):l.row.toRowW.claim.post a (.bool true) a=true:=
 postW_of
  (by first|rfl|decide|simp[.arms])
  (w_eq_bool (w_res rfl) w_lit) rfl
def attach_call{l:OpenLaw}(M:l.most=some n)(v:d.params.defaults=[])(call:∀(w:World) (c b:Shared) (p S:AD) (h:Addr) (o:Obj) (y m e:Value) (a:Addr) (vs:AC) (ns:AF),
  Ground q loose [] XP w c p S b.heap->YP w b.heap->
  b.heap.get? h=some o->o.data=.func (docDef d.name d.params d.body d.scope y m e)->b.heap.CodeRec m d.name->p d.name=some (.ref h)->
  b.heap.get? a=some {cls:=.type "list",data:=.seq vs.toArray}->IntsAre vs ns->ns.length<=n->b.gens=#[]->
  codeAny (mZ l.prog w) callerA (.call (.ref h) ⟨[.ref a],[]⟩) (λr s'=>r=.ok (.ret (.bool true))/\OldK b.heap s'.heap/\s'.os=b.os/\AllBare s'.gens) b):
 WalkO q loose XP YP l.row.toRowW d [] (λf vs=>PySem.call f vs):=by
 intro w c b p S G Y h o y m e R Q E N u B t L C A P k z F s J;obtain rfl:=Dflts.none B v;obtain rfl:=Dflts.noKw B;obtain⟨a,vs,ns,rfl,rfl,j,g,i⟩:=Sq M k s;refine enter_call (codeAny_mono (call w c b p S h o y m e a vs ns G Y E (fd_plain N) u t j g i L) λr s' K=>?_);obtain⟨rfl,H,I,D⟩:=K;exact⟨.inl ⟨.bool _,.bool _,[],rfl,λ_=>rfl,.bool _,Sr l _,λ_=>⟨.nil,λ_ O=>nomatch O⟩⟩,H,I,D⟩
end Att
namespace L2
variable {X:Cx}{pins:AB}{pos apos cpos:Pos}{ys:AM}{es:AK}
open PySem PySem.Spec PyProof.Rows
theorem nS:∀{vs:AC}{ns:AF},IntsAre vs ns->Vals (ns.map V.int) vs
 | _,_,.nil=>.nil
 | _,_,.cons n t h=>.cons ⟨t,rfl⟩ (nS h)
def jV(H:Hp):Prop:=∀b,H b=none\/∃o a,H b=some (.frz o (.lst a))
theorem An{K:W7}(T:K.In c.heap)(t:c.heap.Ns mainGlobals G)(hb:c.heap.Ns builtinsNs mb)(O:∀x:Str,x≠"__name__"->mb x=bootBuiltins x)(p:c.heap.NoLimit)(hg:c.gens=#[])(M:c.heap.get? a=some {cls:=.type "list",data:=.seq vs.toArray})(ua:IntsAre vs ns)(hl:ns.length<=sizeLine)(hr:Room k callerA)(F:∀g:Heap,K.In g->g.Ns mainGlobals G->cB P w K G g CX k U fd [x] sp)(l:∀(s:Shared) (u:Value),BindsTo s fd ⟨[u],[]⟩ [(x,u)])(I:∀H:Hp,jV H->SqL K H a (ns.map V.int)->sp [.ref a] H (λv _=>v=.bl true) λ_ _ _=>False)(L:∀H e s',CX [] H c (λ_ _ _=>False) e s'->False):
 codeAny (mZ P w) callerA (.call (.ref U) ⟨[.ref a],[]⟩) (λr s'=>r=.ok (.ret (.bool true))/\OldK c.heap s'.heap/\s'.os=c.os/\AllBare s'.gens) c:=by
 have rv:=nS ua;have R:=ua.length
 have j:∀H,jV H->SqL K H a (ns.map V.int)->HOk P w H c.heap->(∀b,H b≠none->b=a)->(H a≠none->K.lookup a=none)->
  codeAny (mZ P w) callerA (.call (.ref U) ⟨[.ref a],[]⟩) (λr s'=>r=.ok (.ret (.bool true))/\OldK c.heap s'.heap/\s'.os=c.os/\AllBare s'.gens) c:=by
  intro H S Y C hA hK;have f:∀{b:Addr}{o:Obj},c.heap.get? b=some o->H b=none->_:=λe n=>x_ e n
  have N:∀{b:Addr}{o:Obj}{E:Array DictEntry}{D:Nat},c.heap.get? b=some o->o.data=.dict E D->H b=none:=λ{b o E D} e d=>by
   grind
  have i:∀{b:Addr}{m:AD},c.heap.Ns b m->(eJ c.heap H).Ns b m:=λ{b m} ⟨o,E,D,e,d,r⟩=>⟨o,E,D,f e (N e d),d,r⟩
  have B:=λb o e=>f (T b o e) (by
   grind)
  have hM:Mod K G (eJ c.heap H):=⟨B,i t,⟨mb,i hb,O⟩,let ⟨mc,h1,h2⟩:=p;⟨mc,i h1,h2⟩⟩
  have Z:hZ P w K G (eJ c.heap H) callerA [] c H:=⟨rfl,hM,λb o e=>ya e,Nat.le_of_eq (RN _ _),trivial,λb hb=>absurd (show b∈([]) from hb) nofun,C,.of_eq hg⟩
  refine codeAny_mono ((F _ B (i t)).run callerA [] c H ⟨[.ref a],[]⟩ [.ref a] [.ref a] _ _ hr Z (l c (.ref a)) (.cons rfl .nil) (I H S Y)) λr s' h=>?_
  cases r with
  | error e=>exact(L H e s' h).elim
  | ok fl=>
    cases fl with
    | next=>exact False.elim h
    | brk=>exact False.elim h
    | cont=>exact False.elim h
    | ret u=>
      obtain⟨v,H',os,A,Q,y,r',q⟩:=h;have q':=q;subst q';obtain rfl:=r';refine⟨rfl,OldK.of_keep λb o e=>?_,os,A⟩
      cases q:H b with
      | none=>exact Q.keep b o e q (by intro z;exact absurd (show b∈([]) from z) nofun) nofun
      | some u=>
        rcases S b with z|⟨ob,xs,z⟩
        .grind
        .have z2:=Q.frzs b ob _ z
         obtain⟨e1,_⟩:=C b _ z;obtain⟨e2,_⟩:=y b _ z2;grind
 cases J:K.lookup a with
 | some o=>
   have e:=T a o J;rw[M]at e;cases e;refine j (λ_=>none) (λ_=>.inl rfl) (.inr ⟨_,vs.toArray,_,J,rfl,rfl,rfl,by ext,by grind⟩) (λb u z=>by grind) (λb z=>absurd rfl z) λz=>absurd rfl z
 | none=>
   refine j (λb=>if b=a then some _ else none) (λb=>?_) (.inl (.inr ⟨{cls:=.type "list",data:=.seq vs.toArray},if_pos rfl⟩)) (λb u z=>?_) (λb z=>?_) λ_=>J
   .grind
   .by_cases hb:b=a
    .have z':=(if_pos hb).symm.trans z
     cases z';subst hb;exact⟨M,by ext,vs,_,rv,M⟩
    ext
   ext
def walk_of{l:W.OpenLaw}{K:Params->W7}{CX:World->i3}{sp:World->Sp}(S:l.most=some n)(A:n<=sizeLine)(t:d.params.defaults=[])(P:Room k callerA)(O:∀(w:World) (h:Heap),YP w h->(K w.params).In h)(F:∀(w:World) (j:AD) (r:Addr) (h:Heap),(K w.params).In h->h.Ns mainGlobals j->j d.name=some (.ref r)->
  ∃z:FuncData,(∀(s:Shared) (u:Value),BindsTo s z ⟨[u],[]⟩ [(x,u)])/\
   ∀c:Heap,(K w.params).In c->c.Ns mainGlobals j->cB l.prog w (K w.params) j c (CX w) k r z [x] (sp w))(C:∀(w:World) (H:Hp) (a:Addr) (ns:AF),ns.length<=n->jV H->SqL (K w.params) H a (ns.map V.int)->sp w [.ref a] H (λv _=>v=.bl true) λ_ _ _=>False)(B:∀(w:World) (H:Hp) (s:Shared) (e:Value) (s':Shared),CX w [] H s (λ_ _ _=>False) e s'->False):
 W.WalkO q loose XP YP l.row.toRowW d [] (λf vs=>PySem.call f vs):=by
 refine Att.attach_call S t λw D m j mb r o U T J a vs ns G Y X L R y p i g I=>?_;have E:=O w _ Y;obtain⟨z,Z,M⟩:=F w j r _ E G.T.g y;exact An E G.T.g G.T.b G.T.builtins G.T.nolimit I p i (Qg g A) P M Z (λH Q N=>C w H a ns g Q N) λH e s'=>B w H m e s'
noncomputable def aDa(s:Stmt):Arguments:=match s with
 | .FunctionDef _ a _ _ _ _ _ _ _ _=>a
 | _=>{posonlyargs:=[],args:=[],vararg:=none,kwonlyargs:=[],kw_defaults:=[],kwarg:=none,defaults:=[]}
def aCa(s:Stmt):List Stmt:=match s with
 | .FunctionDef _ _ b _ _ _ _ _ _ _=>b
 | _=>[]
def aAa(s:Stmt):Scope:=match s with
 | .FunctionDef _ _ _ _ _ _ a _ _ _=>a
 | _=>{kind:=.function,names:=[],isGenerator:=false,isCoroutine:=false}
abbrev dY:i3:=λ_ _ _ _ _ _=>False
abbrev E0:XK:=λ_ _ _=>False
def nT:zE dY X E0:=λ_ _ _ _ _ _ _ h=>h.elim
structure Fun(K:W7)(x qual:Str)(st:Stmt)(f:Addr)(fd:FuncData):Prop where
 ex:∃(oc:Value) (od:Option Addr) (kV doc pm:Value) (an:Option Addr) (cdv ct:Value) (osl:Array (Option Value)),
  fd=W.fnOf x qual (aDa st) (aCa st) (aAa st) .none kV doc pm an cdv ct/\K.lookup f=some ⟨oc,od,.func fd,osl⟩/\W.codeIn K cdv qual=true
 kp:W.keepIn K (.ref f)=true
section
variable {P:P7}{w:World}{K:W7}{mg:AD}{base:Heap}
def Fun.ok{st:Stmt}(F:Fun K x c st f n)(S:gN N z (aAa st))(g:∀vs H Q E,sp vs H Q E->vs.length=z.length)(d:∀(b:Value) (A:Around) (a:List Env) (s:Shared) (H:Hp) (vs:AM) (Q:VK) (E:XK),Room k (A.deeper (envOfC c (aAa st) (~~~s) f b))->sp vs H Q E->
  ∃t,PSs (dz dY P w K mg base N c (aAa st) f b A a s H E).nox (aCa st) t/\t {nx:=λ_ H'=>Q .non H',rt:=Q} (start N vs) H):cB P w K mg base dY (k+1) f n z sp:=by
 obtain⟨p,u,kV,j,v,r,b,y,m,rfl,l,i⟩:=F.ex;refine nF l i S g λA a s H vs Q E o e=>?_;obtain⟨t,h,q⟩:=d b A a s H vs Q E o e;exact⟨t,h.nox,q⟩
def Fun.binds{st:Stmt}(F:Fun K x c st f i)(h:∀(kV a e:Value) (g:Option Addr) (b d:Value) (us:AC),us.length=o.length->bindArgs (W.fnOf x c (aDa st) (aCa st) (aAa st) .none kV a e g b d) ⟨us,[]⟩=pure (o.zip us)):Binds K i o []:=by
 obtain⟨n,m,kV,a,e,g,b,d,k,rfl,l,j⟩:=F.ex;exact .all (h kV a e g b d)
def nU{st:Stmt}{kV d h b g:Value}(l:K.lookup f=some ⟨j,m,.func (W.fnOf x a (aDa st) (aCa st) (aAa st) .none kV d h i b g),e⟩)(c:W.codeIn K b a=true)(k:W.keepIn K (.ref f)=true):Fun K x a st f (W.fnOf x a (aDa st) (aCa st) (aAa st) .none kV d h i b g):=⟨⟨j,m,kV,d,h,i,b,g,e,rfl,l,c⟩,k⟩
end
def Same(H H':Hp):Prop:=∀b o,H b=some o->H' b=some o
def Same.refl(H:Hp):Same H H:=λ_ _ h=>h
def Same.trans(a:Same H e)(b:Same e d):Same H d:=λc o h=>b c o (a c o h)
def Same.free(e:Same H H')(h:H' l=Option.none):H l=Option.none:=by
 cases q:H l with
 | none=>rfl
 | some o=>
   rw[e l o q]at h;cases h
def Same.seq{K:W7}(e:Same H H')(h:SqL K H a xs):SqL K H' a xs:=by
 rcases h with(h|⟨o,h⟩)|h
 .exact .inl (.inl (e _ _ h))
 .exact .inl (.inr ⟨o,e _ _ h⟩)
 .exact .inr h
noncomputable def br(env:Env):List (Str×NameKind)->List (Str×Addr)->List (Str×Addr)
 | [],cs=>cs
 | (n,k)::r,cs=>if (k==NameKind.free)=true then (match env.cells.lookup n with|some c=>br env r ((n,c)::cs)|none=>br env r cs)else br env r cs
theorem Mm(h:∀x∈a.names,x.2=NameKind.free->∃c,env.cells.lookup x.1=some c):closureFor a env=pure (br env a.names []):=by
 have f:∀(l:_) (d:_),(∀x∈l,x.2=.free->∃c,env.cells.lookup x.1=some c)->
  (forIn l d fun(x:Str×_) r=>if (x.2==.free)=true then (do let c <-cellOf env x.1;pure (.yield ((x.1,c)::r)))else pure (.yield r))=(pure (br env l d)):=by
  intro l
  induction l with
  | nil=>intro d _;rfl
  | cons x l j=>
    intro d g;obtain⟨n,k⟩:=x;have m:=λy s=>g y (qg _ s);rw[List.forIn_cons];by_cases o:k=.free
    .subst o
     obtain⟨c,q⟩:=g _ qh rfl;have b:=q
     have p:cellOf env n=pure c:=by unfold cellOf;rw[b]
     have e:(.free==NameKind.free)=true:=rfl;rw[if_pos e,p,pure_bind,pure_bind];show forIn l _ _=_;rw[j _ m];show _=pure (if _ then _ else _);rw[if_pos e,b]
    .have i:(k==.free)=false:=by simpa using o
     rw[if_neg (by rw[i];exact qi),pure_bind];show forIn l d _=_;rw[j _ m];show _=pure (if _ then _ else _);rw[if_neg (by rw[i];exact qi)]
 have:=f _ [] h;unfold closureFor;simpa using this
theorem tS:∀(l:List (Str×NameKind)) (d:List (Str×Addr)),(∀x c,(x,c)∈d->env.cells.lookup x=some c)->∀x c,(x,c)∈br env l d->env.cells.lookup x=some c
 | [],d,h,x,c,e=>h x c e
 | (n,k)::r,d,h,x,c,e=>by
   unfold br at e
   split at e
   .split at e
    .refine tS r _ (λy b a=>?_) x c e
     grind
    .exact tS r d h x c e
   .exact tS r d h x c e
theorem tU:∀(l:List (Str×NameKind)) (a:List (Str×Addr)) (p:Str×Addr),p∈a->p∈br env l a
 | [],_,_,h=>h
 | (n,k)::r,a,p,h=>by
   unfold br
   split
   .split
    .exact tU r _ p (qg _ h)
    .exact tU r _ p h
   .exact tU r _ p h
theorem nV:∀(l:List (Str×NameKind)) (b:List (Str×Addr)) (x:Str) (c:Addr),(x,NameKind.free)∈l->env.cells.lookup x=some c->(x,c)∈br env l b
 | (n,k)::r,b,x,c,h,a=>by
   rcases qu h with q|q
   .cases q
    unfold br;rw[a];exact tU r _ _ qh
   .unfold br
    split
    .split
     .exact nV r _ x c q a
     .exact nV r _ x c q a
    .exact nV r _ x c q a
theorem Mn{a:List (Str×Addr)}(h:(x,c)∈a):∃d,a.lookup x=some d:=by
 induction a with
 | nil=>cases h
 | cons p r f=>
   obtain⟨n,b⟩:=p;rw[List.lookup_cons]
   cases e:(x==n)with
   | true=>grind
   | false=>
     ext
structure gg(XN:AJ)(xsc:Scope)(N:AJ)(src:List AL)(sc:Scope):Prop where
 kind:sc.kind=.function
 xkind:xsc.kind=.function
 cellU:∀y∈sc.names,y.2=NameKind.cell->sc.names.lookup y.1=some NameKind.cell
 names:∀y∈sc.names,y.2=NameKind.local->sc.names.lookup y.1=some NameKind.local
 len:src.length=N.length
 nd:N.Nodup
 cap:∀(i j:Nat) (x:Str),N[i]?=some x->src[i]?=some (some j)->XN[j]?=some x/\sc.names.lookup x=some NameKind.free
 fr:∀y∈sc.names,y.2=NameKind.free->xsc.names.lookup y.1=some NameKind.cell\/xsc.names.lookup y.1=some NameKind.free
noncomputable def gh(b:AJ)(a:Scope):AJ->List AL->Bool
 | [],[]=>true
 | x::N,none::src=>gh b a N src
 | x::N,some j::src=>decide (b[j]?=some x)&&decide (a.names.lookup x=some NameKind.free)&&gh b a N src
 | _,_=>false
theorem Ao:∀{N:AJ}{c:List AL},gh b a N c=true->c.length=N.length
 | [],[],_=>rfl
 | _::N,none::c,h=>by
   have:=Ao (N:=N) h;simp[this]
 | _::N,some j::c,h=>by
   replace h:(_&&_)=true:=h;simp [Qe]at h;have:=Ao h.2;simp[this]
 | [],_::_,h=>Bool.noConfusion h
 | _::_,[],h=>Bool.noConfusion h
theorem Ap:∀{N:AJ}{e:List AL},gh b a N e=true->∀(i j:Nat) (x:Str),N[i]?=some x->e[i]?=some (some j)->b[j]?=some x/\a.names.lookup x=some NameKind.free
 | [],[],_,i,j,x,h,_=>by simp at h
 | _::N,none::e,h,i,j,x,d,c=>by
   cases i with
   | zero=>simp at c
   | succ i=>exact Ap (N:=N) h i j x (by ext) (by ext)
 | y::N,some k::e,h,i,j,x,d,c=>by
   replace h:(_&&_)=true:=h;simp [Qe]at h
   cases i with
   | zero=>
     ext
   | succ i=>exact Ap h.2 i j x (by ext) (by ext)
 | [],_::_,h,_,_,_,_,_=>Bool.noConfusion h
 | _::_,[],h,_,_,_,_,_=>Bool.noConfusion h
def jW(c:AJ)(a:Scope)(N:AJ)(d:List AL)(b:Scope):Bool:=
 decide (b.kind=.function)&&decide (a.kind=.function)&&b.names.all (λy=>decide (y.2=.cell->b.names.lookup y.1=some .cell))&&b.names.all (λy=>decide (y.2=.local->b.names.lookup y.1=some .local))&&
  decide N.Nodup&&gh c b N d&&b.names.all (λy=>decide (y.2=.free->a.names.lookup y.1=some .cell\/a.names.lookup y.1=some .free))
def Mo(h:jW e a N l g=true):gg e a N l g:=by
 unfold jW at h;simp only[Qe,wm,List.all_eq_true]at h;obtain⟨⟨⟨⟨⟨⟨i,d⟩,k⟩,c⟩,j⟩,b⟩,f⟩:=h;exact⟨i,d,k,c,Ao b,j,Ap b,f⟩
noncomputable abbrev cQ(X:Cx)(a:Scope)(N:AJ)(b:List (Str×Addr))(C:Addr)(c:List Addr)(s:Shared)(H:Hp):Cx where
 prog:=X.prog
 w:=X.w
 K:=X.K
 mg:=X.mg
 base:=X.base
 A:=X.A
 N:=N
 s₀:=s
 H₀:=H
 env:=compEnvC a b C X.env
 outer:=X.stack
 stack:=X.stack
 ex:=c
 fn:=λx=>a.names.lookup x==some .cell
 calm:=X.calm
 pn:=[]
 xe:=λ_ _=>False
noncomputable def dA(a:List AL)(σ:St):St:=a.map λo=>o.bind λj=>σ[j]?.join
def d8(X:Cx)(a:AK)(t:TT):Prop:=
 ∀(d:List _) (s:Shared) (e:St) (H:Hp) (Q:Bool->Hp->Prop),Inv X d e H s->t e H Q->
  aag X (forIn a true λc r=>if r=true then do let b <-isTrue c X.env (eval c X.env);pure (.yield b)else pure (.yield r)) (TP X d e Q) X.xe s
def nW:TT:=λ_ H Q=>Q true H
def Aq:d8 X [] nW:=λ_ _ _ H _ I h=>wpAny_tests_nil ⟨H,I,h⟩
def Ar(n:TI)(r:List AL)(g:TG)(q:TT)(l:TE):TE:=λt H Q=>n t H λJ f=>∀p,f p=none->
 ∃W:Nat->Nat->St->Hp->Prop,(∃m,W 0 m (dA r t) (upd f p (.lst [])))/\∀i m c e,W i m c e->
  (J.stop i e/\Q (.ref p) e)\/
  (J.go i e/\∀x h,J.yld i e x h->g x c h λa o=>q a o λb j=>if b=true then l a j λv k=>∃s,k p=some (.lst s)/\s.length<sizeLine/\∃d,d<m/\W (i+1) d a (upd k p (.lst (s++[v])))else ∃d,d<m/\W (i+1) d a j)
section
variable {prog:P7}{w:World}{A:Around}{R:Result->Shared->Prop}{s:Shared}{elt tg iter:Expr}{ifs:AK}{scope:Scope}{wi:TI}{g:TG}{ti:TT}{te:TE}{N:AJ}{src:List AL}
theorem Ss(I:Nat->Shared->Prop)(u:∀n s,I n s->wpAny (mZ prog w) A (pyNext y) (λr a=>match r with
  | none=>R (.ok .next) a
  | some v=>wpAny (mZ prog w) A (letOwnedTupleGo b y v) (λ_ a=>wpAny (mZ prog w) A (assign b env v) (λ_ l=>
   wpAny (mZ prog w) A (forIn ifs true λc r=>if r=true then do let ok <-isTrue c env (eval c env);pure (ForInStep.yield ok)else pure (ForInStep.yield r)) (λok f=>
    if ok=true then wpAny (mZ prog w) A (eval elt env) (λx j=>
     wpAny (mZ prog w) A (call (.builtin "list.append") [t,x]) (λ_ k=>∃m,m<n/\I m k) (notedBy (mZ prog w) A env λe s'=>R (.error e) s') j) (notedBy (mZ prog w) A env λe s'=>R (.error e) s') f
    else ∃m,m<n/\I m f) (notedBy (mZ prog w) A env λe s'=>R (.error e) s') l) (notedBy (mZ prog w) A env λe s'=>R (.error e) s') a) (notedBy (mZ prog w) A env λe s'=>R (.error e) s') a) (notedBy (mZ prog w) A env λe s'=>R (.error e) s') s)(n:Nat)(h:I n s):
 codeAny (mZ prog w) A (.compLoop (.ListComp elt [⟨b,iter,ifs,0⟩] scope pos) 0 y t env) R s:=by
 refine codeAny_loop rfl I (λn s z=>?_) n h;show wpAny _ A _ _ _ s;refine wpAny_noted ?_;rw[compTurn_list];refine wa (wpAny_standAt (wa (wz (u n s z) (λr a d=>?_) λ_ _ g=>g)))
 cases r with
 | none=>exact wb d
 | some v=>
   refine wa (wz d (λ_ a d=>wa (wz d (λ_ l o=>wa (wz o (λok f i=>?_) λ_ _ g=>g)) λ_ _ g=>g)) λ_ _ g=>g)
   cases ok with
   | false=>exact wb ⟨rfl,i⟩
   | true=>
     exact wa (wa (wz i (λx j q=>wa (wz q (λ_ k p=>wb (wb ⟨rfl,p⟩)) λ_ _ g=>g)) λ_ _ g=>g))
theorem Su(h:scope.names.lookup x=some NameKind.free)(a:env.kindOf x=some NameKind.cell\/env.kindOf x=some NameKind.free):
 (relabel scope env).names.lookup x=some NameKind.cell\/(relabel scope env).names.lookup x=some NameKind.free:=by
 unfold relabel;generalize scope.names=l at h
 induction l with
 | nil=>cases h
 | cons p r b=>
   symm
theorem Sv(h:(relabel scope env).names.lookup x=some NameKind.cell\/(relabel scope env).names.lookup x=some NameKind.free):
 (x,NameKind.free)∈scope.names\/(x,NameKind.cell)∈scope.names:=by
 unfold relabel at h
 revert h
 generalize scope.names=l
 induction l with
 | nil=>simp
 | cons p r a=>
   symm
theorem nX:∀(b:List (Str×NameKind)) (n:Nat) (a:List (Str×Addr)),cellsFrom n b a=cellsFrom n b []++a
 | [],_,_=>rfl
 | (x,k)::r,n,a=>by
   unfold cellsFrom
   split
   .rw[nX r _ _,nX r _ [(x,n)],w9];rfl
   .exact nX r n a
theorem As:∀(a:List (Str×NameKind)) (n:Nat) (x:Str) (c:Addr),(x,c)∈cellsFrom n a []->(x,NameKind.cell)∈a
 | [],_,_,_,h=>nomatch h
 | (y,k)::r,n,x,c,h=>by
   unfold cellsFrom at h
   split at h
   .rw[nX]at h
    rcases qw h with h|h
    .exact qg _ (As r _ x c h)
    ext
   .exact qg _ (As r n x c h)
theorem Mp{a b:List (Str×Addr)}:(a++b).lookup x=(a.lookup x).or (b.lookup x):=by grind
theorem jX{a b:List (Str×Addr)}(h:(a++b).lookup x=some c):a.lookup x=some c\/(a.lookup x=none/\b.lookup x=some c):=by
 rw[Mp]at h
 ext
def Sw(h:Q (newEnv scope (~~~s) a (cellsFrom (~~~s+1) scope.names []++i) c none .none (some b) f) {s with heap:=pushCells (s.heap.push {cls:=.type "dict",data:=.dict #[]}) scope.names}):
 wpAny M A (newFunctionEnv scope a i [] c none .none (some b) f) Q E s:=by
 refine wa (wpAny_alloc (wa (wpAny_layCells _ (λg e d=>by simp) _ _ _ _ ?_)));rw[ww ..,nX];exact wa (wb (wb h))
theorem Sx{σ:St}(S:gg X.N X.env.scope N src scope)(I:Inv X pins σ H s)(M:∀b∈fp,c4 X pins H b)(ho:∀b∈fp,∃o,s.heap.get? b=some o)(hn:n.Ns (~~~s) λ_=>none)(O:∀b o,s.heap.get? b=some o->n.get? b=some o)(t:CellsOk n (~~~s+1) f)(R:∀x c,(x,c)∈f->(x,NameKind.cell)∈scope.names)(E:∀x,scope.names.lookup x=some NameKind.cell->∃c,f.lookup x=some c):
 Inv (cQ X scope N (f++br X.env scope.names []) (~~~s) fp s H) [] (dA src σ) H {s with heap:=n,toks:=tk}:=by
 have h:∀x c,(br X.env scope.names []).lookup x=some c->X.env.cells.lookup x=some c:=λx c e=>tS scope.names [] (λ_ _ z=>nomatch z) x c (PySem.mem_of_lookup e)
 have clt:∀x c,(br X.env scope.names []).lookup x=some c->c< ~~~s:=λx c e=>by
  obtain⟨v,q⟩:=I.cell x c (h x c e);exact q.lt
 have V:∀x c,f.lookup x=some c->(~~~s)<c:=λx c e=>(t.empty x c (PySem.mem_of_lookup e)).2
 have L:∀x,scope.names.lookup x=some NameKind.free->f.lookup x=none:=λx J=>by
  cases e:f.lookup x with
  | none=>rfl
  | some c=>
    have:=S.cellU _ (R x c (PySem.mem_of_lookup e)) rfl;grind
 have T:∀b∈fp,b< ~~~s:=λb g=>by
  obtain⟨o,e⟩:=ho b g;exact ql e
 have U:∀b∈fp,b∉fR X.stack:=λb g z=>by
  rcases qu (I.stkSub b z)with e|e
  .exact(M b g).2.1 e
  .exact(M b g).2.2.1 e
 refine⟨⟨I.ok.mod,S.kind,I.ok.glob,I.ok.blt,qv _,λx y c C k=>?_,λx J=>?_,λx c z e=>?_,I.ok.hd,I.ok.frames,.inl rfl,λb g=>⟨qm (T b g),λx c e=>?_⟩,
  I.bs,Qg I.ok.bsz I.sz,λb o e g=>?_,U,I.stack,I.stkFree⟩,rfl,I.bare,Un.kept O,⟨_,hn,λi x v C k h3=>?_⟩,λx c e=>?_,I.fresh,λx c e=>?_,λp hp=>(nomatch hp),I.hok.kept O,?_⟩
 .rcases jX C with C|⟨_,C⟩
  .rcases jX k with k|⟨_,k⟩
   .exact name_of_addr t.apart (PySem.mem_of_lookup C) (PySem.mem_of_lookup k)
   grind
  .rcases jX k with k|⟨_,k⟩
   .grind
   .exact I.ok.inj x y c (h x c C) (h y c k)
 .show ∃c,(f++br X.env scope.names []).lookup x=some c
  rw[Mp]
  cases e:f.lookup x with
  | some c=>grind
  | none=>
    rcases Sv J with P|P
    .obtain⟨c,t⟩:=I.ok.has x (S.fr _ P rfl)
     exact Mn (nV scope.names [] x c P t)
    .obtain⟨c,t⟩:=E x (S.cellU _ P rfl)
     grind
 .have z':scope.names.lookup x=some NameKind.cell:=by simpa using z
  obtain⟨d,Y⟩:=E x z';rcases jX e with e|⟨e,_⟩
  .grind
  ext
 .rcases jX e with e|⟨_,e⟩
  .grind
  .exact(M b g).2.2.2.2.1 x c (h x c e)
 .rcases(M b g).2.2.2.1 with z|z
  .exact I.ok.noex b o e z
  .exact absurd (Qi (ql e) (Qg I.ok.bsz z)) (Nat.lt_irrefl _)
 .have hi:i<src.length:=by
   have:=(qo k).1;unfold dA at this
   ext
  have A:src[i]?=some src[i]:=qr hi;unfold dA at k;rw[Qm,A]at k;have F:(src[i].bind λj=>(σ[j]?).join)=some v:=w4 k;cases q:src[i]with
  | none=>ext
  | some j=>
    rw[q]at F A;have W:(σ[j]?).join=some v:=F;obtain⟨J,D⟩:=S.cap i j x C A;obtain⟨m,_,Z⟩:=I.loc;have G:X.env.kindOf x=some NameKind.cell\/X.env.kindOf x=some NameKind.free:=S.fr (x,NameKind.free) (PySem.mem_of_lookup D) rfl
    have Q:σ[j]?=some (some v):=by
     grind
    obtain⟨u,r,l⟩:=Z j x v J Q (.inr G);refine⟨u,r,.inr ⟨Su D G,?_⟩⟩;rcases l with⟨z,_⟩|⟨_,c,t,B⟩
    .simp_all
    .obtain⟨d,Y⟩:=Mn (nV (env:=X.env) scope.names [] x c (PySem.mem_of_lookup D) t)
     have K:=h x d Y;rw[t]at K;cases K;refine⟨c,?_,B.keeps O⟩;show(f++br X.env scope.names []).lookup x=some c;grind
 .rcases jX e with e|⟨_,e⟩
  .exact⟨_,(t.empty x c (PySem.mem_of_lookup e)).1⟩
  .obtain⟨v,q⟩:=I.cell x c (h x c e)
   exact⟨v,q.keeps O⟩
 .rcases jX e with e|⟨_,e⟩
  .exact I.hok.fresh (Nat.le_of_lt (V x c e))
  .exact I.freeC x c (h x c e)
 .unfold dA
  rw[qf];exact S.len
def Au{σ c:St}(I:Inv X pins σ H s)(a:∀b∈d,c4 X pins H b)(J:Inv (cQ X scope N f C d s H) e c H' s'):Inv X pins σ H' s':=
 I.call' J.os J.base J.hok J.bare λb g=>⟨(a b g).2.2.2.1,(a b g).2.1,(a b g).2.2.2.2.1,(a b g).2.2.2.2.2⟩
theorem Mq{σ:St}{Q:VK}{R:Value->Addr->Result->Shared->Prop}(S:gg X.N X.env.scope N src scope)(hc:X.calm=true)(hg:∀cl C k s H,PG (cQ X scope N cl C k s H) tg g)(hi:∀cl C k s H,d8 (cQ X scope N cl C k s H) ifs ti)(he:∀cl C k s H,PE (cQ X scope N cl C k s H) elt te)(I:Inv X pins σ H s)(T:d7 X.prog X.w X.K tg J k it tn)(st:tn 0 s.heap)(hf:∀b∈k,c4 X pins H b)(h:∀p,H p=none->∃W:Nat->Nat->St->Hp->Prop,(∃m,W 0 m (dA src σ) (upd H p (.lst [])))/\∀i m σ1 H2,W i m σ1 H2->
  (J.stop i H2/\Q (.ref p) H2)\/
  (J.go i H2/\∀x G,J.yld i H2 x G->g x σ1 G λO H4=>ti O H4 λb H5=>if b=true then te O H5 λv H6=>∃xs,H6 p=some (.lst xs)/\xs.length<sizeLine/\∃A,A<m/\W (i+1) A O (upd H6 p (.lst (xs++[v])))else ∃A,A<m/\W (i+1) A O H5))(hR:∀(D C:Addr) (s':Shared) (H':Hp) (m:AD),Inv X pins σ H' s'->s'.heap.Ns C m->H' C=none->C≠X.env.locals->X.s₀.heap.objs.size<=C->(∀x c,X.env.cells.lookup x=some c->c≠C)->(∀p∈X.pn++pins,p.1≠C)->Q (.ref D) H'->R (.ref D) C (.ok .next) s'):
 aag X (newList []) (λacc s₃=>aag X (newFunctionEnv scope X.env.globals (br X.env scope.names []) [] X.env.qual none .none (some X.env)) (λZ s₄=>
  codeAny (mZ X.prog X.w) X.A (.compStart (.ListComp elt [⟨tg,iter,ifs,0⟩] scope pos) 0 (.ref it) acc {Z with scope:=relabel scope X.env}) (R acc Z.locals) s₄) E s₃) E s:=by
 refine wg (Sw ?_);have hfree:H (~~~s)=none:=I.fresh;obtain⟨W,⟨m0,w0⟩,turn⟩:=h (~~~s) hfree;have I3:Inv X pins σ (upd H (~~~s) (.lst [])) {s with heap:=s.heap.push {cls:=.type "list",dict:=none,data:=.seq ([]:AC).toArray},toks:=s.toks}:=I.lnew (ys:=[]) (its:=[]) .nil (Qh _);generalize hD:(~~~s)=L at *;generalize hH3:upd H L (.lst [])=G at *;have kp0:∀b o,s.heap.get? b=some o->(s.heap.push {cls:=.type "list",dict:=none,data:=.seq ([]:AC).toArray}).get? b=some o:=λb o e=>qe _ e
 have lt0:∀b o,s.heap.get? b=some o->b≠L:=λb o e=>by rw[<-hD];exact qm (ql e)
 generalize hs3:s.heap.push {cls:=.type "list",dict:=none,data:=.seq ([]:AC).toArray}=a at *
 have f3:∀b∈k,c4 X pins G b:=λb l=>by
  obtain⟨o,e,_⟩:=T.obj _ _ st b l;refine⟨?_,(hf b l).2⟩;rw[<-hH3,Yl (lt0 b o e)];exact(hf b l).1
 have ob3:∀b∈k,∃o,a.get? b=some o:=λb l=>by
  obtain⟨o,e,_⟩:=T.obj _ _ st b l;exact⟨o,kp0 b o e⟩
 dsimp only;have M:(pushCells (a.push {cls:=.type "dict",data:=.dict #[]}) scope.names).Ns a.objs.size (λ_=>none):=(Heap.Ns.new a (.type "dict")).keeps (pushCells_keeps _ _);have old:∀b o,a.get? b=some o->(pushCells (a.push {cls:=.type "dict",data:=.dict #[]}) scope.names).get? b=some o:=λb o e=>pushCells_keeps _ _ b o (qe _ e);have cok:=cellsFrom_ok scope.names (a.push {cls:=.type "dict",data:=.dict #[]}) (a.objs.size+1) [] ⟨λ_ _ V=>(nomatch V),List.Pairwise.nil⟩ (by rw[ww];exact qv _);rw[ww]at cok;have chas:∀x,scope.names.lookup x=some NameKind.cell->∃c,(cellsFrom (a.objs.size+1) scope.names []).lookup x=some c:=λx hx=>Option.isSome_iff_exists.mp (PySem.W.cellsFrom_some _ _ _ (.inl hx));have cmem:∀x c,(x,c)∈cellsFrom (a.objs.size+1) scope.names []->(x,NameKind.cell)∈scope.names:=λx c h=>As _ _ x c h;generalize cellsFrom (a.objs.size+1) scope.names []=z,pushCells (a.push {cls:=.type "dict",data:=.dict #[]}) scope.names=F at *
 have I4:Inv (cQ X scope N (z++br X.env scope.names []) a.objs.size k {s with heap:=a,toks:=s.toks} G) [] (dA src σ) G {s with heap:=F,toks:=s.toks}:=
  Sx (s:={s with heap:=a,toks:=s.toks}) (tk:=s.toks) S I3 f3 ob3 M old cok cmem chas
 have st4:tn 0 F:=T.keep _ _ _ st λb _ o e=>old b o (kp0 b o e);have hCl:a.objs.size≠X.env.locals:=Nat.ne_of_gt I3.lt
 have hCc:∀x c,X.env.cells.lookup x=some c->c≠a.objs.size:=λx c e=>by
  obtain⟨v,q⟩:=I3.cell x c e;exact qm q.lt
 have hCp:∀p∈X.pn++pins,p.1≠a.objs.size:=λp hp=>qm (ql (I3.pin p hp).1)
 have K:∀{H':Hp},(∀b∈k,H' b=none)->∀b∈k,c4 _ [] H' b:=λ{H'} hn b l=>by
  obtain⟨e1,e2⟩:=I4.ok.exf b l;exact⟨hn b l,e1,I4.ok.exfs b l,.inl l,e2,λp hp=>nomatch hp⟩
 have loop:codeAny (mZ X.prog X.w) X.A (.compLoop (.ListComp elt [⟨tg,iter,ifs,0⟩] scope pos) 0 (.ref it) (.ref L) (compEnvC scope (z++br X.env scope.names []) a.objs.size X.env)) (R (.ref L) a.objs.size) {s with heap:=F,toks:=s.toks}:=by
  refine Ss (λn s'=>∃i B H',Inv (cQ X scope N (z++br X.env scope.names []) a.objs.size k {s with heap:=a,toks:=s.toks} G) [] B H' s'/\tn i s'.heap/\(∀b∈k,H' b=none)/\W i n B H') ?_ m0 ⟨0,_,G,I4,st4,λb l=>(f3 b l).1,w0⟩;rintro n s3 ⟨i,Y,U,I3',st3,fr3,w3⟩;rcases turn i n Y U w3 with⟨stop,qn⟩|⟨go,step⟩
  .refine aM (T.done (cQ X scope N (z++br X.env scope.names []) a.objs.size k {s with heap:=a,toks:=s.toks} G) rfl rfl rfl hc i [] s3 Y U _ I3' (K fr3) st3 stop) λr s4 j=>?_
   obtain⟨hr,I5⟩:=j;subst hr;obtain⟨m,V,_⟩:=I5.loc;exact hR L a.objs.size s4 U m (Au I3 f3 I5) V I5.free hCl (Qg I3.sz (qv _)) hCc hCp qn
  .refine aM (T.item (cQ X scope N (z++br X.env scope.names []) a.objs.size k {s with heap:=a,toks:=s.toks} G) rfl rfl rfl hc i [] s3 Y U _ I3' (K fr3) st3 go) λr s4 j=>?_
   obtain⟨u,hr,h4⟩:=j;subst hr;refine aM h4 λ_ s5 j=>?_;obtain⟨x,H5,I5,r5,y5,st5,fr5⟩:=j;have I5':=I5.pinned (K fr5) (T.obj _ _ st5);have un:∀{α:Type}{t:Sem α}{Q':α->Shared->Prop}{E':AA}{s':Shared},aag X t Q' (λ_ _=>False) s'->aag X t Q' E' s':=λh=>wz h (λ_ _ q=>q) λ_ _ f=>f.elim;refine un (aM (hg _ _ _ _ _ _ s5 Y H5 x u _ I5' r5 (step x H5 y5)) λ_ s6 j=>?_);obtain⟨w,H6,I6,q6⟩:=j;refine un (aM (hi _ _ _ _ _ _ s6 w H6 _ I6 q6) λok s7 j=>?_);obtain⟨H7,I7,q7⟩:=j
   have again:∀{H8:Hp}{s8:Shared}{A:Nat},A<n->Inv (cQ X scope N (z++br X.env scope.names []) a.objs.size k {s with heap:=a,toks:=s.toks} G) ([]++tI k s5.heap) w H8 s8->W (i+1) A w H8->
    ∃m,m<n/\∃i B H',Inv _ [] B H' s8/\tn i s8.heap/\(∀b∈k,H' b=none)/\W i m B H':=λ{H8 s8 A} V I8 w8=>by
    refine⟨A,V,i+1,w,H8,I8.unpinned,T.keep _ _ _ st5 λb l o e=>(I8.pin (b,o) (Qr _ (Qr _ (tJ l e)))).1,λb l=>?_,w8⟩;obtain⟨o,e,d⟩:=T.obj _ _ st5 b l;exact(I8.pin (b,o) (Qr _ (Qr _ (tJ l e)))).2.1
   cases ok with
   | false=>
     rw[if_neg qi]at q7 ⊢;obtain⟨A,V,w7⟩:=q7;exact again V I7 w7
   | true=>
     rw[if_pos rfl]at q7 ⊢;refine un (aM (he _ _ _ _ _ _ s7 w H7 _ I7 q7) λy s8 j=>?_);obtain⟨v,H8,I8,r8,q8⟩:=j;obtain⟨xs,e8,z8,A,V,w8⟩:=q8;refine un (aM (Ml _ s8 w H8 (.ref L) [v] (.ref L) [y] (λ_ H9=>H9=upd H8 L (.lst (xs++[v]))) I8 rfl (.cons r8 .nil) ⟨L,xs,v,rfl,rfl,e8,z8,rfl⟩) λ_ s9 j=>?_);obtain⟨_,H9,I9,_,q9⟩:=j;subst q9;exact again V I9 w8
 exact codeAny_compStart_list loop (T.self _ _ _ _ _ st4 loop)
def Av(S:gg X.N X.env.scope N src scope)(M:X.calm=true)(l:PI X tg iter wi)(P:∀c C a s H,PG (cQ X scope N c C a s H) tg g)(t:∀c C a s H,d8 (cQ X scope N c C a s H) ifs ti)(O:∀c C a s H,PE (cQ X scope N c C a s H) elt te)(hs:∀x,foldedSetIterable iter X.env x=pure x:=by intro _;rfl):PE X (.ListComp elt [⟨tg,iter,ifs,0⟩] scope pos) (Ar wi src g ti te):=by
 intro w s σ H Q I h;refine wpAny_comprehension_free rfl hs (Mm λy K F=>I.ok.has y.1 (S.fr y K F)) S.kind S.names (aM (l _ s σ H _ I h) λv Y r=>aM r λU W j=>?_);obtain⟨V,a,Z,J,H2,e,u,T,i,G,q⟩:=j;subst e
 exact Mq S M P t O u T i G q λD C s' R m B p E k d n f z=>⟨m,p,λh' L=>⟨.ref D,R,B.turned (λb o A e=>(L.2 b A).trans e) E k (.inr d) n f,rfl,z⟩⟩
theorem Aw{M c:Pos}(S:gg X.N X.env.scope N src scope)(hc:X.calm=true)(u:PI X tg iter wi)(Z:∀f C d s H,PG (cQ X scope N f C d s H) tg g)(hi:∀f C d s H,d8 (cQ X scope N f C d s H) ifs ti)(Q:∀f C d s H,PE (cQ X scope N f C d s H) elt te)(O:X.N.Nodup)(F:X.N[i]?=some y)(V:dX X.env.scope y)(p:swapsWith (.ListComp elt [⟨tg,iter,ifs,0⟩] scope pos) (some (.Name y M)) c.line X.env=pure true)(G:X.fn y=true\/X.env.scope.names.lookup y=some .local:=by trivial)(hs:∀x,foldedSetIterable iter X.env x=pure x:=by intro _;rfl):PS X (.Assign [.Name y M] (.ListComp elt [⟨tg,iter,ifs,0⟩] scope pos) c) (gc (Ar wi src g ti te) (lR i)):=by
 intro w s A H D I h;rw[exec_Assign_Name_used _ _ _ _ p];refine wa (wpAny_standAt (wa (wa (wz (wpAny_comprehension_free rfl hs (Mm λy F G=>I.ok.has y.1 (S.fr y F G)) S.kind S.names (aM (u _ s A H _ I h) λv s1 h1=>aM h1 λitv s2 B=>?_)) (λ_ s' n=>wb (wb n)) λ_ _ e=>e))));obtain⟨it,d,tn,J,H2,e,I2,T,r,U,q⟩:=B;subst e;refine Mq (Q:=λx H1=>lR i x A H1 _) S hc Z hi Q I2 T r U q λDd C s' H' m Y hm P z j k E n=>wpAny_assign_Name (LQ Y O F V (v:=.ref Dd) rfl (λs'' t K=>?_) G);obtain⟨a,W,ha⟩:=K
 have L:C≠a:=by
  grind
 exact⟨m,hm.sameBut W L,λh' l=>⟨_,H',t.turned (λb o R e=>(l.2 b R).trans e) P z (.inr j) k E,n⟩⟩
end
end L2
namespace M
variable {prog:P7}{fp wr:List Addr}{K:W7}{X:Cx}{es rest ifs elts:AK}{fa fk fz f2:AU}{ga gl:AV}{pos pos' pt p2 pos2 px p3 pos3 pos4:Pos}{pins:AB}{fd:AT}{st:Stmt}{sts:List Stmt}{fs gs:AR}{tg elt iter ie ke f':Expr}{scope:Scope}{mg:AD}{base:Heap}{x1:Nat}{ta:TA}
open PySem PySem.Spec PyProof.Rows L2
def cK(xs:Array Nat):Prop:=xs.toList.Pairwise (·<·)
theorem Ax(f:cK xs)(j:Nat):∀(a lo b:Nat),lo<=b->b<=xs.size->b-lo<=a->
 (∀(i:Nat) (h:i<xs.size),i<lo->xs[i]<j)->(∀(i:Nat) (h:i<xs.size),b<=i->j<=xs[i])->
 SetTable.below.go xs j a lo b<=xs.size/\(∀(i:Nat) (h:i<xs.size),i<SetTable.below.go xs j a lo b->xs[i]<j)/\(∀(i:Nat) (h:i<xs.size),SetTable.below.go xs j a lo b<=i->j<=xs[i])
 | 0,lo,b,p,l,t,g,n=>by
   rw[SetTable.below.go];grind
 | a+1,lo,b,p,l,t,g,n=>by
   have m:∀(i k:Nat) (b:i<xs.size) (s:k<xs.size),i<k->xs[i]<xs[k]:=λi k b s h=>by
    have:=List.pairwise_iff_getElem.mp f i k (by ext) (by ext) h
    ext
   rw[SetTable.below.go];by_cases r:lo<b
   .rw[if_pos r]
    have u:(lo+b)/2<xs.size:=by lia
    have q:xs.getD ((lo+b)/2) j=xs[(lo+b)/2]:=by ext
    dsimp only;rw[q];by_cases c:xs[(lo+b)/2]<j
    .rw[if_pos c]
     refine Ax f j a _ _ (by lia) l (by ext<;>lia) (λi d o=>?_) n;by_cases e:i=(lo+b)/2
     .simp_all
     grind
    .rw[if_neg c]
     refine Ax f j a _ _ (by lia) (by lia) (by ext<;>lia) g (λi d o=>?_);by_cases e:i=(lo+b)/2
     .subst e;ext
     grind
   grind
theorem Mr(l:cK xs)(j:Nat):SetTable.below xs j<=xs.size/\(∀a∈xs.toList.take (SetTable.below xs j),a<j)/\(∀a∈xs.toList.drop (SetTable.below xs j),j<=a):=by
 obtain⟨k,f,g⟩:=Ax l j xs.size 0 _ (Qh _) (qv _) ∅ (λi _ h=>absurd h (Nat.not_lt_zero _)) (λi h n=>absurd h ∅);have e:SetTable.below xs j=SetTable.below.go xs j _ 0 _:=rfl;refine⟨k,λa b=>?_,λa b=>?_⟩
 .obtain⟨i,d,rfl⟩:=List.mem_iff_getElem.mp b
  rw[List.length_take]at d
  have c:i<xs.size:=by ext<;>ac_nf
  rw[List.getElem_take];exact f i c (by ext)
 .obtain⟨i,d,rfl⟩:=List.mem_iff_getElem.mp b
  rw[List.length_drop]at d
  have m:xs.toList.length=xs.size:=by simp
  rw[List.getElem_drop];exact g _ (by ext<;>ac_nf) (by ext)
def Ms(xs:Array a)(p:Nat)(x:a):(SetTable.insertAt xs p x).toList=xs.toList.take p++x::xs.toList.drop p:=by
 unfold SetTable.insertAt;simp[Array.toList_extract];exact List.take_of_length_le nofun
theorem Sy(d:cK xs)(j:Nat)(e:xs[SetTable.below xs j]?≠some j):cK (SetTable.insertAt xs (SetTable.below xs j) j):=by
 obtain⟨n,k,f⟩:=Mr d j;unfold cK at d ⊢;rw[Ms];generalize q:SetTable.below xs j=p at n k f e ⊢;rw[<-Array.getElem?_toList]at e;generalize xs.toList=l at d k f e ⊢;rw[<-List.take_append_drop p l,List.pairwise_append]at d;obtain⟨o,h,s⟩:=d
 have m:∀a∈l.drop p,j<a:=by
  cases i:l.drop p with
  | nil=>grind
  | cons b r=>
    rw[i]at h f
    have t:l[p]?=some b:=by
     have:(l.drop p)[0]?=some b:=by rw[i];rfl
     grind
    have c:=Nat.lt_of_le_of_ne (f b qh) (λz=>e (by rw[t,z]));intro a g;rcases qu g with rfl|g
    .exact c
    .exact Nat.lt_trans c ((List.pairwise_cons.mp h).1 a g)
 rw[List.pairwise_append]
 ext
theorem Sz{t:SetTable}(h:∀i,t.slot j≠.live i):t.place[SetTable.below t.place j]?≠some j:=λz=>by
 refine h (SetTable.below t.place j) ?_;unfold SetTable.slot
 ext
theorem Ay:∀(a:Nat) (p:SetTable.Probe) {j:Nat}{d:AL},(∀x,p.dummy=some x->∀i,t.slot x≠.live i)->
 SetTable.probe.go t g h a p=some (.empty j d)->∀i,t.slot (d.getD j)≠.live i
 | 0,p,j,d,_,e=>by cases e
 | a+1,p,j,d,f,e=>by
   rw[SetTable.probe.go]at e
   split at e
   .cases k:p.dummy with
    | none=>grind
    | some x=>grind
   .refine Ay a _ (λx b i=>?_) e
    have c:x=p.j:=by
     unfold SetTable.advance at b;grind
    grind
   .split at e
    .cases e
    .refine Ay a _ (λx b i=>f x ?_ i) e
     unfold SetTable.advance at b;grind
def Tab(a:Bool)(t:SetTable):Prop:=(a=false->t.led=true)/\(t.plain=true->cK t.place)
def Tab.standIn(h:Tab a t)(n:Nat):Tab a (t.standIn n):=⟨h.1,λz=>nomatch z⟩
def Tab.off(h:Tab a t):Tab a {t with plain:=false}:=⟨h.1,λz=>nomatch z⟩
def Tab.fresh:Tab a (.fresh 0 0 (!a)):=⟨λh=>by subst h;rfl,λ_=>.nil⟩
def Tab.layNew(h:Tab g t)(i:Array (Int×Value))(e:Int)(x:Value):Tab g (PySem.layNew t i e x).2.1:=by
 unfold PySem.layNew
 split
 .rename_i b l c
  dsimp only;unfold SetTable.orStandIn
  split
  .refine⟨h.1,λz=>Sy (h.2 z) b (Sz ?_)⟩
   unfold SetTable.freeSlot at c
   split at c
   .rename_i j d k
    cases c;exact Ay _ _ (λx f=>by simp[SetTable.probeStart]at f) k
   .cases c
  .exact⟨h.1,λz=>nomatch z⟩
 .exact h.standIn _
theorem Az{led plain:Bool}(h:SetTable.laid mask finger moves led plain hs=some (t,o)):cK t.place/\t.led=led/\t.plain=plain:=by
 obtain⟨f,_,h⟩:=qa h;cases h;refine⟨?_,rfl,rfl⟩;rw[List.map_filterMap];refine .filterMap _ (λa b c x e y d=>?_) List.pairwise_lt_range
 ext
def Tab.relayAll(h:Tab c t)(f:Array (Int×Value))(n:Nat):Tab c (PySem.relayAll t f n).2.1:=by
 unfold PySem.relayAll
 split
 .rename_i j b e
  obtain⟨g,d,i⟩:=Az e;dsimp only
  split
  .exact⟨λz=>by rw[d];exact h.1 z,λ_=>g⟩
  .exact h.standIn _
 .exact h.standIn _
section
variable {w:World}{A:Around}{E:AA}{s:Shared}
noncomputable def c5(e:Int×Value):Int:=match e.2 with
 | .int n _=>n
 | _=>0
noncomputable abbrev eK(w:World):Bool:=w.params.followText "set-order"
def SetI(prog:P7)(w:World)(h:Heap)(a:Addr)(ns:AF):Prop:=
 ∃o b c t,h.get? a=some o/\o.ExactSet/\o.data=.set b c t/\ElemsOf (intKind prog w) b.toList/\b.toList.map c5=ns/\ns.Nodup/\b.size<scanBound/\t.fits b.size=true/\Tab (eK w) t
def AI(h:(intKind prog w).is k e.2=true):c5 e=k:=by
 obtain⟨t,a⟩:=Value.isInt_shape h;unfold c5;rw[a]
def lW(h:ElemsOf (intKind prog w) d)(b:e∈d):∃t,e=(hashInt (c5 e),.int (c5 e) t):=by
 obtain⟨⟨k,a,c⟩,_⟩:=h e b;obtain⟨t,f⟩:=Value.isInt_shape a;refine⟨t,?_⟩;rw[AI a];exact Prod.ext c f
def SetI.at(x:SetI prog w h a ns)(e:∀o,h.get? a=some o->f.get? a=some o):SetI prog w f a ns:=
 let ⟨o,c,d,t,b,r⟩:=x
 ⟨o,c,d,t,e o b,r⟩
theorem SetI.len(x:SetI prog w h a ns):ns.length<scanBound:=by
 obtain⟨o,g,i,t,f,b,j,d,e,c,k,_⟩:=x;grind
def jY{h:Heap}(d:h.get? a=some o)(c:o.data=.set f e t)(b:Array (Int×Value))(t':SetTable):
 (h.update a (Obj.putSet b t')).get? a=some {o with data:=.set b (e+1) t' }:=by
 have:=wx (.putSet b t') d (by rw[putSet_of b t' c];rfl)
 rwa [putSet_of b t' c]at this
theorem Mt{g:Bool->Sem Unit}(N:∀(b:Bool) (i:Shared) (F:Unit->Shared->Prop),F () i->wpAny (mZ prog w) A (g b) F E i)(G:s.heap.get? a=some o)(n:o.ExactSet)(H:o.data=.set P O t)(f:ElemsOf (intKind prog w) c.toList)(k:(c.toList.map c5).Perm J)(u:J.Nodup)(p:c.size<scanBound)(D:d.fits c.size=true)(v:Tab (eK w) d)(h:∀Q x,Heap.SameBut a s.heap Q->SetI prog w Q a x->x.Perm J->R (some true) {s with heap:=Q}):
  wpAny (mZ prog w) A (do
   storeSet a c d
   if (!m&&d.tooFull)=true then do
       g (relayAll d c (SetTable.grown c.size)).2.2
       storeSet a (relayAll d c (SetTable.grown c.size)).1 (relayAll d c (SetTable.grown c.size)).2.1
       pure (some true)
    else pure (some true)) R E s:=by
  refine wa (wpAny_storeSet_of G H ?_ (fits_of_scanBound p));have l:=jY G H c d;have j:=wv s.heap a (.putSet c d)
  split
  .have B:=relayAll_perm d c (SetTable.grown c.size)
   have q:=relayAll_fits d c (SetTable.grown c.size);have z:=v.relayAll c (SetTable.grown c.size);generalize M:relayAll d c _=L at B q z ⊢;obtain⟨e,I,C⟩:=L
   have K:e.size=c.size:=by rw[<-qj,B.length_eq,qj]
   have r:e.size<scanBound:=by ext
   have y:=(B.map c5).trans k;exact wa (N _ _ _ (wa (wpAny_storeSet_of l rfl (wb (h _ _ (j.trans (.update _ a _)) ⟨_,e,_,I,jY l rfl e I,n,rfl,f.perm B,rfl,y.nodup_iff.mpr u,r,q,z⟩ y)) (fits_of_scanBound r))))
  .exact wb (h _ _ j ⟨_,c,_,d,l,n,rfl,f,rfl,k.nodup_iff.mpr u,p,D,v⟩ k)
theorem Mu(hS:SetI prog w s.heap a ns)(R:ns.length+1<scanBound)(h:∀h' f,Heap.SameBut a s.heap h'->SetI prog w h' a f->f.Perm (if k∈ns then ns else ns++[k])->Q (!decide (k∈ns)) {s with heap:=h' }):
 wpAny (mZ prog w) A (setAddHashed a (.int k u) (hashInt k)) Q E s:=by
 have U:=hS;obtain⟨o,D,ep,t,M,H,K,l,y,hnd,hb,hf,ht⟩:=hS;have p:(intKind prog w).is k (.int k u)=true:=intKind_is _ _ _ _;have C:(Value.int k u).scannable=true:=rfl
 have hsz:D.size=ns.length:=by grind
 unfold setAddHashed setAddHashedIn;refine wc (wa (wj M K hf ?_));dsimp only;rw[byScan_of C hb l];simp only[↓reduceIte];unfold setAddByScan;refine wa ?_;refine wa (wpAny_rule ?_);refine wa (wpAny_setScan_of (knd:=intKind prog w) (k:=k) p M K hf l ?_)
 cases hr:List.findIdx? (λe=>(intKind prog w).is k e.2) D.toList with
 | some j=>
   dsimp only;obtain⟨hj,O,_⟩:=List.findIdx?_eq_some_iff_getElem.mp hr
   have J:k∈ns:=by
    rw[<-y,<-AI O];grind
   refine wb (wb ?_);have:=h s.heap ns (Heap.SameBut.refl a s.heap) U (by grind)
   ext
 | none=>
   dsimp only
   have J:k∉ns:=λJ=>by
    rw[<-y]at J;obtain⟨e,Z,T⟩:=qy J;have h1:=List.findIdx?_eq_none_iff.mp hr e Z;obtain⟨t',V⟩:=lW l Z;rw[V,T]at h1;have h2:(intKind prog w).is k (.int k t')=true:=intKind_is _ _ _ _;grind
   have S:∀(b:Bool) {i:Shared}{G:Unit->Shared->Prop},G () i->wpAny (mZ prog w) A (match b with|true=>rule "set.scan.the-table-gave-way" | false=>pure ()) G E i:=
    λb i G m=>by cases b<;>first|exact wb m|exact wpAny_rule m
   have c:=layNew_perm t D (hashInt k) (.int k u);have d:=layNew_fits t D (hashInt k) (.int k u);have g:=ht.layNew D (hashInt k) (.int k u);generalize hL:layNew t D (hashInt k) (.int k u)=L at c d g ⊢;obtain⟨z,t1,F,Y⟩:=L;dsimp only at c d g ⊢;rw[Array.toList_push]at c;have n:ElemsOf (intKind prog w) z.toList:=(l.push (knd:=intKind prog w) (k:=k) p C).perm c
   have r:z.size<scanBound:=by rw[<-qj,c.length_eq,qz,qj];simp;ext
   have I:(z.toList.map c5).Perm (ns++[k]):=by
    have:=c.map c5;rw[wt,y]at this;exact this
   have q:(ns++[k]).Nodup:=by
    grind
   have v:∀h' f,Heap.SameBut a s.heap h'->SetI prog w h' a f->f.Perm (ns++[k])->Q true {s with heap:=h' }:=by
    grind
   refine wa (S _ ?_)
   split
   .refine wa ?_
    rw[hashByValue_scannable 8 C];refine wb ?_;refine Mt ?_ M H K n I q r ?_ ?_ ?_
    .intro b i G m;cases b<;>first|exact wb m|exact wpAny_rule m
    .split
     .exact d
     .exact SetTable.fits_plain_off d
    .split
     .exact g
     .exact g.off
    .intro h' f B x N;dsimp only;exact wb (v h' f B x N)
   .refine wa (wb ?_)
    simp only[↓reduceIte];refine Mt ?_ M H K n I q r d g ?_
    .intro b i G m;cases b<;>first|exact wb m|exact wpAny_rule m
    .intro h' f B x N;dsimp only;exact wb (v h' f B x N)
end
noncomputable def aZ:AF->AF->AF
 | a,[]=>a
 | a,k::r=>aZ (if k∈a then a else a++[k]) r
theorem Mv:∀(r a b:AF),a.Perm b->(aZ a r).Perm (aZ b r)
 | [],_,_,h=>h
 | k::r,a,b,h=>by
   refine Mv r _ _ ?_;symm
section
variable {w:World}{A:Around}{R:Result->Shared->Prop}{I:Addr}{G:Array GenState->Array GenState->Prop}{n:Nat}{P:Nat->Value->Prop}{St:Nat->Shared->Prop}
theorem Mw(W:WalksS prog w A.in1 I fp wr G n P St)(S:Addr)(y:S∉fp)(g:AF)(Y:g.length=n)(B:∀i v,P i v->∃t,v=.int (g.getD i 0) t)(Z:n+1<scanBound):
 ∀(k i:Nat) (s:Shared) (ns:AF),n-i=k->i<=n->St i s->ns.length<=i->SetI prog w s.heap S ns->
  (∀s' a,Moved (S::wr) G s s'->SetI prog w s'.heap S a->a.Perm (aZ ns (g.drop i))->R (.ok (.ret .none)) s')->
  codeAny (mZ prog w) A (.builtin "set.update.loop" ⟨[.ref S,.ref I],[]⟩) R s:=by
 have u:S∉wr:=λh=>y (W.sub _ h);have c:∀b∈wr,b∈S::wr:=λb Z=>qg _ Z;intro k
 induction k with
 | zero=>
   intro i s ns X V f T D K
   have L:i=n:=by lia
   subst L;refine wy F.entry_set_update_loop ?_;refine wa (W.done s _ _ f λs' j=>?_);show wpAny _ A.in1 (ret Value.none) _ _ s';refine wb (K s' ns (j.mono c) (D.at λo e=>j.heap S _ u e) ?_);rw[List.drop_of_length_le (by lia),aZ]
 | succ k U=>
   intro i s ns X V f T D K
   have z:i<n:=by lia
   refine wy F.entry_set_update_loop ?_;refine wa (W.item i s _ _ z f λv s' O p j=>?_);obtain⟨t,rfl⟩:=B i v O;have E:SetI prog w s'.heap S ns:=D.at λo e=>j.heap S _ u e;generalize Q:g.getD i 0=x
   have d:g.drop i=x::g.drop (i+1):=by
    rw[List.drop_eq_getElem_cons (by ext),<-Q,List.getD_eq_getElem?_getD,qr (by ext)];rfl
   refine wa (wc ?_);unfold setAdd;refine wc ?_;refine wa ((intKind prog w).pyHash (k:=x) (intKind_is _ _ _ _) ?_);refine Mu (s:={ s' with toks:=s'.toks+1}) E (by lia) λh' a C M N=>?_
   have J:a.length<=i+1:=by
    rw[N.length_eq];grind
   refine wb ⟨jb F.plain_set_update_loop _,U (i+1) _ a (by ext<;>lia) z (W.frame _ s' _ _ p (Nat.le_succ _) λb Z o e=>?_) J M λH m q r l=>?_⟩
   .rw[C.2 b (λh:b=S=>y (by grind))];exact e
   .refine K H m (Moved.trans W.gtrans ((j.mono c).then_heap (Nat.le_succ _) λb o Z e=>?_) q) r ?_
    .rw[C.2 b (λh:b=S=>Z (by grind))];exact e
    .rw[d,aZ]
     exact l.trans (Mv _ _ _ N)
end
section
variable {w:World}{A:Around}{E:AA}{s:Shared}
def SA:isSubtype (.type "tuple") (.type "set")=pure false:=by kernel_rfl
def SB:isSubtype (.type "tuple") (.type "frozenset")=pure false:=by kernel_rfl
theorem Mx(k:TypeCalled T l h)(G:checkTypeCall T ⟨g,[]⟩=pure ())(j:entryFor table h=some H)(o:codeAny (mZ prog w) A.in1 (.call (.builtin l) ⟨.type T::g,[]⟩) (wants Q₁ E) s)(m:∀d b,Q₁ d b->b.TypeIs d T/\(∀(K:Around) (L:AA) (z:Unit->Shared->Prop),z () b->wpAny (mZ prog w) K (checkBuiltinCall h ⟨d::g,[]⟩) z L b)/\
  wpAny (mZ prog w) A.in1.in1 (H ⟨d::g,[]⟩)
   (λv s'=>match v with|.done f=>wants (λr a=>r=.none/\Q d a) E (.ok f) s'|.again C=>C.quiet=true/\codeAny (mZ prog w) A.in1 C (wants (λr a=>r=.none/\Q d a) E) s')
   (λe s'=>wants (λr a=>r=.none/\Q d a) E (.error e) s') b):
 wpAny (mZ prog w) A (call (.type T) g) Q E s:=by
 obtain⟨c,P,B⟩:=k.mro;have t:=k.made;have D:=k.sub;refine wpAny_call (codeAny_of_tree ?_);refine wb ⟨Code.quiet_builtin _ (by decide +kernel),wy F.entry_type_call ?_⟩;have R:=k.notType;have O:=k.canCreate
 repeat (any_goals (first|assumption|wp_step))
 refine codeAny_mono o λr b u=>?_
 cases r with
 | error e=>exact u
 | ok q=>
   cases q with
   | ret d=>
     obtain⟨N,y,x⟩:=m _ _ u;have I:=k.init.lookup;have J:=k.init.bind d
     repeat (any_goals (first|assumption|wp_step))
     refine codeAny_mono (codeAny_call_builtin k.init.plain j (y _ _ _ x)) λp a i=>?_
     cases p with
     | error e=>exact i
     | ok n=>
       cases n with
       | ret r=>
         obtain⟨rfl,M⟩:=i
         repeat (any_goals (first|assumption|wp_step))
       | _=>ext
   | _=>exact u.elim
abbrev c6(w:World):Obj:={cls:=.type "set",dict:=none,data:=.set #[] 0 (.fresh 0 0 (!eK w))}
def My(a:Value)(h:Q₁ (.ref (~~~s)) {s with heap:=s.heap.push (c6 w)}):
 codeAny (mZ prog w) A (.call (.builtin "set.__new__") ⟨[.type "set",a],[]⟩) (wants Q₁ E) s:=by
 refine codeAny_of_tree (wa (wpAny_of_eq (F.newCall_set_1 a) (wb ⟨jb F.plain_set_new _,wy F.entry_set_new ?_⟩)));have b:=sub_set_self
 wp_walk
 refine wpAny_askSetting (wb ?_);refine wa (wpAny_alloc (wb ?_));exact wb h
theorem SC{l:Addr}{a:Array Value}{u:AF}{Q:AA}(Y:A.handled=none)(X:s.heap.IsList l a)(O:IntsAre a.toList u)(hb:a.size+1<scanBound)(h:∀(h':Heap) (tk:Nat) ns,SetI prog w h' (~~~s) ns->ns.Perm (aZ [] u)->
  (∀b o,b< ~~~s->s.heap.get? b=some o->h'.get? b=some o)->Q (.ref (~~~s)) {s with heap:=h',toks:=tk}):
 wpAny (mZ prog w) A (call (.type "set") [.ref l]) Q E s:=by
 refine Mx (Q₁:=λg d=>g=.ref (~~~s)/\d={s with heap:=s.heap.push (c6 w)}) F.called_set (F.typeCall_set_1 _) F.entry_set_init (My _ ⟨rfl,rfl⟩) ?_;rintro g d ⟨rfl,rfl⟩;have M:(s.heap.push (c6 w)).get? (~~~s)=some (c6 w):=qp _ rfl
 have R:Shared.TypeIs {s with heap:=s.heap.push (c6 w)} (.ref (~~~s)) "set":=⟨_,M,rfl⟩
 refine⟨R,λA' E' Q' Z=>check_set_init_1 R Z,?_⟩;obtain⟨U,m,k,T,r⟩:=X;obtain⟨P,f,C,c⟩:=U;simp only at k r;subst k;subst r;have q:(s.heap.push (c6 w)).get? l=some {cls:=.type "list",dict:=f,data:=.seq a T,slots:=c}:=qe _ m;have N:=F.sub_list_set;have S:=F.sub_list_frozenset
 have hne:(Value.type "list"==Value.type "dict")=false:=by decide
 have y:(s.heap.push (c6 w)).IsList l a:=⟨_,q,rfl,T,rfl⟩
 unfold Builtin.«set.__init__» noKeywords Builtin.Frozenset.updateFrom;generalize G:pyIter=PI
 wp_walk
 subst G;refine wpAny_pyIter_list y ?_;refine wa (wpAny_runValue ?_);have W:l< ~~~s:=ql m
 have D:A.in1.in1.in1.handled=none:=by simp[Y]
 have p:l≠(s.heap.push (c6 w)).objs.size:=by
  rw[ww];grind
 have J:(~~~s)∉[(s.heap.push (c6 w)).objs.size,l]:=by
  rw[ww];grind
 have x:u.length=a.size:=by have:=IntsAre.length O;grind
 have n:∀(i:Nat) (v:Value),a[i]?=some v->∃t,v=.int (u.getD i 0) t:=λi v hv=>
  IntsAre.int_at O i v (by grind)
 refine Mw ((Walks.list D _ l p a).toS) (~~~s) J u x n hb (a.size-0) 0 _ [] (by lia) (Qh _)
  ⟨⟨_,qp _ rfl,rfl,rfl⟩,y.push _⟩ (qv _) ?hS0 ?hR
 case hS0=>
  have j:((s.heap.push (c6 w)).push {cls:=.type "list_iterator",data:=.fields #[.ref l,.int 0 0]}).get? (~~~s)=some (c6 w):=qe _ M;exact⟨c6 w,#[],0,_,j,⟨rfl,rfl,rfl⟩,rfl,λe he=>by simp at he,rfl,.nil,by decide,rfl,.fresh⟩
 case hR=>
  intro s' L z B H;obtain⟨h',g',d',K,I⟩:=s';have eg:g'=s.gens:=z.gens;have ed:d'=s.drawn:=z.drawn;have V:I=s.os:=z.os;subst eg;subst ed;subst V;show wpAny _ _ _ _ _ _;refine wb ?_;show wpAny _ _ (ret Value.none) _ _ _;refine wb ⟨rfl,h h' K L B H λb o hb e=>?_⟩;have hb1:b≠(~~~s):=qm hb
  have hb2:b≠(s.heap.push (c6 w)).objs.size:=by
   rw[ww];grind
  exact z.heap b o (by grind) (qe _ (qe _ e))
theorem SD{l:Addr}{a:Array Value}{p:AF}{Q:AA}(Y:A.handled=none)(X:s.heap.IsTuple l a)(O:IntsAre a.toList p)(hb:a.size+1<scanBound)(h:∀(h':Heap) (tk:Nat) ns,SetI prog w h' (~~~s) ns->ns.Perm (aZ [] p)->
  (∀b o,b< ~~~s->s.heap.get? b=some o->h'.get? b=some o)->Q (.ref (~~~s)) {s with heap:=h',toks:=tk}):
 wpAny (mZ prog w) A (call (.type "set") [.ref l]) Q E s:=by
 refine Mx (Q₁:=λj f=>j=.ref (~~~s)/\f={s with heap:=s.heap.push (c6 w)}) F.called_set (F.typeCall_set_1 _) F.entry_set_init (My _ ⟨rfl,rfl⟩) ?_;rintro j f ⟨rfl,rfl⟩;have N:(s.heap.push (c6 w)).get? (~~~s)=some (c6 w):=qp _ rfl
 have R:Shared.TypeIs {s with heap:=s.heap.push (c6 w)} (.ref (~~~s)) "set":=⟨_,N,rfl⟩
 refine⟨R,λA' E' Q' Z=>check_set_init_1 R Z,?_⟩;obtain⟨U,m,k,G,x⟩:=X;obtain⟨P,g,K,c⟩:=U;simp only at k x;subst k;subst x;have d:(s.heap.push (c6 w)).get? l=some {cls:=.type "tuple",dict:=g,data:=.seq a G,slots:=c}:=qe _ m;have S:=SA;have T:=SB
 have hne:(Value.type "tuple"==Value.type "dict")=false:=by decide
 have J:(s.heap.push (c6 w)).IsTuple l a:=⟨_,d,rfl,G,rfl⟩
 unfold Builtin.«set.__init__» noKeywords Builtin.Frozenset.updateFrom;generalize C:pyIter=PI
 wp_walk
 subst C;refine wpAny_pyIter_tuple J ?_;refine wa (wpAny_runValue ?_);have W:l< ~~~s:=ql m
 have D:A.in1.in1.in1.handled=none:=by simp[Y]
 have r:l≠(s.heap.push (c6 w)).objs.size:=by
  rw[ww];symm
 have L:(~~~s)∉[(s.heap.push (c6 w)).objs.size,l]:=by
  rw[ww];symm
 have u:p.length=a.size:=by have:=IntsAre.length O;symm
 have n:∀(i:Nat) (v:Value),a[i]?=some v->∃t,v=.int (p.getD i 0) t:=λi v hv=>
  IntsAre.int_at O i v ⋯
 refine Mw ((Walks.tuple D _ l r a).toS) (~~~s) L p u n hb (a.size-0) 0 _ [] ∅ (Qh _)
  ⟨⟨_,qp _ rfl,rfl,rfl⟩,(⟨_,qe _ d,rfl,G,rfl⟩)⟩ (qv _) ?hS0 ?hR
 case hS0=>
  have q:((s.heap.push (c6 w)).push {cls:=.type "tuple_iterator",data:=.fields #[.ref l,.int 0 0]}).get? (~~~s)=some (c6 w):=qe _ N;exact⟨c6 w,#[],0,_,q,⟨rfl,rfl,rfl⟩,rfl,λe he=>by simp at he,rfl,.nil,by decide,rfl,.fresh⟩
 case hR=>
  intro s' M y z H;obtain⟨h',g',d',I,B⟩:=s';have eg:g'=s.gens:=y.gens;have ed:d'=s.drawn:=y.drawn;have V:B=s.os:=y.os;subst eg;subst ed;subst V;show wpAny _ _ _ _ _ _;refine wb ?_;show wpAny _ _ (ret Value.none) _ _ _;refine wb ⟨rfl,h h' I M z H λb o hb e=>?_⟩;have hb1:b≠(~~~s):=qm hb
  have hb2:b≠(s.heap.push (c6 w)).objs.size:=by
   rw[ww];symm
  exact y.heap b o ⋯ (qe _ (qe _ e))
end
theorem AO{a:Type}{l:List a}(h:i<l.length):(l[i]::l.eraseIdx i).Perm l:=by
 rw[List.eraseIdx_eq_take_drop_succ]
 have e:l=l.take i++l[i]::l.drop (i+1):=by
  ext
 conv=>rhs;rw[e]
 exact List.perm_middle.symm
theorem Mz(c:Nat->Nat):∀(b k:Nat) (a:List e) (f:Array e),a.length=b->(pickOrder.go c b k a f).toList.Perm (f.toList++a)
 | 0,k,a,f,h=>by
   rw[pickOrder.go]
   ext
 | b+1,k,a,f,h=>by
   rw[pickOrder.go];have d:c k%a.length<_:=Nat.mod_lt _ (by ext);rw[qr d];refine(Mz c b _ _ _ (by grind)).trans ?_;rw[Array.toList_push,w9];exact(AO d).append_left _
def MD(a:Nat->Nat)(xs:Array b):(pickOrder a xs).toList.Perm xs.toList:=by
 have:=Mz a xs.size 0 xs.toList #[] nofun;simpa [pickOrder]using this
section
variable {w:World}{A:Around}{E:AA}
theorem SG(a:0<n)(h:∀i e,i<n->Q i {s with drawn:=e}):wpAny (mZ prog w) A (choose d n) Q E s:=by
 intro c p b;exact⟨by lia,h _ _ (Nat.mod_lt _ a)⟩
theorem AY:∀(n:Nat) (xs:List c) (s:Shared) (Q:List c->Shared->Prop),xs.length=n->(∀ys f,ys.Perm xs->Q ys {s with drawn:=f})->wpAny (mZ prog w) A (drawOrder n xs) Q E s
 | 0,xs,s,Q,h,a=>by
   rw[List.length_eq_zero_iff.mp h]at a ⊢;exact wb (a [] _ .nil)
 | n+1,[],s,Q,h,a=>by simp at h
 | n+1,x::xs,s,Q,h,a=>by
   refine wa (SG nofun λi f b=>?_);rw[qr b];exact wa (AY n _ _ _ (by grind) λys d e=>wb (a _ d ((e.cons _).trans (AO b))))
end
def nY:Manifest.owners.lookup (String.ofList ['r','o','t','a','r','e','t','i','_','t','e','s'].reverse)=some Manifest.sig_set_iterator:=by kernel_rfl
theorem slot_si_next:Slot "set_iterator" "__next__" "set_iterator.__next__":=
 .of (owner:="set_iterator") (n:="__next__") (by kernel_rfl) (by decide +kernel) (by decide +kernel) (by decide +kernel)
  (by first|exact .inl (by decide +kernel)|exact .inr (by decide +kernel)) (by kernel_rfl)
def tV:entryFor table "set_iterator.__next__"=some Builtin.«set_iterator.__next__»:=entryFor_of_tree (by kernel_rfl)
def tW(a:Value):argsOk "set_iterator.__next__" ⟨[a],[]⟩:=by
 kernel_rfl
theorem MH:Slot "set_iterator" "__iter__" "set_iterator.__iter__":=
 .of (owner:="set_iterator") (n:="__iter__") (by kernel_rfl) (by decide +kernel) (by decide +kernel) (by decide +kernel)
  (by first|exact .inl (by decide +kernel)|exact .inr (by decide +kernel)) (by kernel_rfl)
def SH(a:Value):argsOk "set_iterator.__iter__" ⟨[a],[]⟩:=by
 kernel_rfl
theorem SI:entryFor table "set_iterator.__iter__"=some Builtin.«dict_keyiterator.__iter__»:=
 entryFor_alias (id':="dict_keyiterator.__iter__") (by kernel_rfl) (by first|rfl|decide +kernel|(unfold String.splitOn)) (by decide +kernel) (by kernel_rfl)
theorem SJ:entryFor table "set.__iter__"=some Builtin.«frozenset.__iter__»:=
 entryFor_alias (id':="frozenset.__iter__") (by kernel_rfl) (by first|rfl|decide +kernel|(unfold String.splitOn)) (by decide +kernel) (by kernel_rfl)
def SIt(h:Heap)(I:Addr)(first:Value)(i:Nat)(a:Addr)(n b:Nat):Prop:=∃o,h.get? I=some o/\o.cls=.type "set_iterator"/\o.data=.fields #[first,.int i 0,.ref a,.int n 0,.int b 0]
def SAt(h:Heap)(a:Addr)(b:Array (Int×Value))(c:Nat)(t:SetTable):Prop:=∃o,h.get? a=some o/\o.ExactSet/\o.data=.set b c t/\t.fits b.size=true
def SIt.at(x:SIt h I f i a n c)(e:∀o,h.get? I=some o->d.get? I=some o):SIt d I f i a n c:=let ⟨o,b,r⟩:=x;⟨o,e o b,r⟩
def SAt.at(x:SAt h a c d t)(e:∀o,h.get? a=some o->f.get? a=some o):SAt f a c d t:=let ⟨o,b,r⟩:=x;⟨o,e o b,r⟩
def SIt.typeIs{s:Shared}(x:SIt s.heap I f i a n d):s.TypeIs (.ref I) "set_iterator":=let ⟨o,b,c,_⟩:=x;⟨o,b,c⟩
section
variable {w:World}{A:Around}{E:AA}{s:Shared}
def MJ(b:SIt s.heap I f i a n c)(h:Q (.ref I) s):wpAny (mZ prog w) A (pyIter (.ref I)) Q E s:=wpAny_pyIter_slot b.typeIs MH (we MH b.typeIs SI (wb ⟨_,rfl,"set_iterator",_,b.typeIs,slot_si_next.lookup,h⟩) (SH _))
theorem AZ{m i f nx:Nat}(c:SIt s.heap I (.int m 0) i a n.size f)(q:SAt s.heap a n f t)(y:∀(u:Around) (l:Option (Value×Nat)->Shared->Prop) (z:AA),l (some (x,nx)) s->wpAny (mZ prog w) u (setNext a m i f) l z s)(r:∀C,SIt C I (.int nx 0) (i+1) a n.size f->Heap.SameBut I s.heap C->Q (some x) {s with heap:=C}):wpAny (mZ prog w) A (pyNext (.ref I)) Q E s:=by
 obtain⟨o,k,v,e⟩:=id c;obtain⟨B,g,p,h,j⟩:=q;refine wa (je (wpAny_callSpecial?_slot c.typeIs slot_si_next (we slot_si_next c.typeIs tV ?_ (tW _))));show wpAny _ _ (fieldsOf _>>=_) _ _ s;refine wa (wpAny_fieldsOf k e (wa (wpAny_setEntries_of g h j ?_)));rw[if_neg nofun];refine wa (y _ _ _ (wa (wpAny_setField k e nofun ?_)));have d:=wx (.mapFields (·.setIfInBounds 0 (rawInt nx))) k (Obj.isFreed_of_fields (jd e _));have b:=jd e (·.setIfInBounds 0 (rawInt nx))
 exact wa (wpAny_setField d b nofun (wb ⟨x,rfl,wb (r _ (⟨_,wx _ d (Obj.isFreed_of_fields (jd b _)),(Obj.cls_mapFields ..).trans ((Obj.cls_mapFields ..).trans v),by
  rw[jd b];simp[rawInt]⟩) ((wv ..).trans (.update ..)))⟩))
theorem A0{j i d:Nat}(l:A.handled=none)(b:SIt s.heap I (.int j 0) i a r.size d)(v:SAt s.heap a r d t)(n:∀(q:Around) (g:Option (Value×Nat)->Shared->Prop) (u:AA),g none s->wpAny (mZ prog w) q (setNext a j i d) g u s)(p:∀z,Heap.ExtBut I s.heap z->Q none {s with heap:=z}):wpAny (mZ prog w) A (pyNext (.ref I)) Q E s:=by
 obtain⟨o,m,x,k⟩:=id b;obtain⟨y,c,h,e,f⟩:=v;refine wa (je (wpAny_callSpecial?_slot b.typeIs slot_si_next (we slot_si_next b.typeIs tV ?_ (tW _))));show wpAny _ _ (fieldsOf _>>=_) _ _ s;refine wa (wpAny_fieldsOf m k (wa (wpAny_setEntries_of c e f ?_)));rw[if_neg nofun];refine wa (n _ _ _ (wa (wpAny_setField m k nofun (wa (wa (m:=firstArgMember _ _) (wpAny_of_eq (a:=.none) (by first|rfl|(rfl)) (wg (wa (wpAny_handled ?_)) (by size_fits))))))))
 first|rw[l]|rw[l]
 refine wa (wb (wpAny_throw ?_));exact wa (wpAny_isInstance ⟨_,qp _ rfl,rfl⟩ isSubtype_stop (wb (p _ (((wv ..).extBut.push _).push _))))
theorem A3{i j l:Nat}(b:SIt s.heap I (.ref T) i a k.size l)(v:SAt s.heap a k l t)(y:s.heap.IsTuple T F)(x:F[i]?=some (.int j tk))(u:k[j]?=some e)(r:∀D,SIt D I (.ref T) (i+1) a k.size l->Heap.SameBut I s.heap D->Q (some e.2) {s with heap:=D}):wpAny (mZ prog w) A (pyNext (.ref I)) Q E s:=by
 obtain⟨o,n,q,g⟩:=id b;obtain⟨B,c,p,f,d⟩:=v;obtain⟨z,h,_,C,m⟩:=y;refine wa (je (wpAny_callSpecial?_slot b.typeIs slot_si_next (we slot_si_next b.typeIs tV ?_ (tW _))));show wpAny _ _ (fieldsOf _>>=_) _ _ s;refine wa (wpAny_fieldsOf n g (wa (wpAny_setEntries_of c f d ?_)));rw[if_neg nofun];refine wa (wpAny_seqItems h m ?_);simp [x];refine wa (wa (wj c f d ?_));dsimp only;rw[if_neg nofun,u]
 exact wb (wa (wpAny_setField n g nofun (wb ⟨e.2,rfl,wb (r _ (⟨_,wx _ n (Obj.isFreed_of_fields (jd g _)),(Obj.cls_mapFields ..).trans q,by
  rw[jd g];simp[rawInt]⟩) (.update ..))⟩)))
theorem A4(n:A.handled=none)(b:SIt s.heap I (.ref T) i a q.size u)(v:SAt s.heap a q u t)(p:s.heap.IsTuple T F)(x:F[i]?=none)(r:∀D,Heap.ExtBut I s.heap D->Q none {s with heap:=D}):wpAny (mZ prog w) A (pyNext (.ref I)) Q E s:=by
 obtain⟨o,l,C,c⟩:=id b;obtain⟨B,g,m,k,h⟩:=v;obtain⟨y,d,_,z,j⟩:=p;refine wa (je (wpAny_callSpecial?_slot b.typeIs slot_si_next (we slot_si_next b.typeIs tV ?_ (tW _))));show wpAny _ _ (fieldsOf _>>=_) _ _ s;refine wa (wpAny_fieldsOf l c ?_);refine wa (wpAny_setEntries_of g k h ?_);rw[if_neg nofun];refine wa (wpAny_seqItems d j ?_);simp [x];refine wa (wpAny_setField l c nofun ?_);have f:=wx (.mapFields (·.setIfInBounds 0 (rawInt 0))) l (Obj.isFreed_of_fields (jd c _));have e:=jd c (·.setIfInBounds 0 (rawInt 0));refine wa (wpAny_setField f e nofun ?_);refine wa ?_;simp [newExc];refine wa (m:=firstArgMember _ _) (wpAny_of_eq (a:=.none) (by first|rfl|(rfl)) ?_);refine wg ?_ (by size_fits);refine wa (wpAny_handled ?_)
 first|rw[n]|rw[n]
 refine wa (wb (wpAny_throw ?_));refine wa (wpAny_isInstance ⟨_,qp _ rfl,rfl⟩ isSubtype_stop ?_);exact wb (r _ ((((wv ..).trans (.update ..)).extBut.push _).push _))
end
section
variable {w:World}{A:Around}{E:AA}{s:Shared}
def jZ(h:Q (eK w) s):wpAny (mZ prog w) A setsByText Q E s:=wa (wpAny_askSetting (wb h))
def MK(n:eK w=true)(j:SAt s.heap a k g t)(h:Q (((pickOrder (w.params.setOrder a g) k)[i]?).map λe=>(e.2,l)) s):wpAny (mZ prog w) A (setNext a l i g) Q E s:=by
 obtain⟨m,c,f,d,b⟩:=j;refine wa (wj c d b (wa (jZ ?_)));rw[if_pos n,if_neg nofun];refine wa (wa (wj c d b (wa (jZ ?_))));rw[if_pos n];exact wa (wpAny_askSetting (wb (wb h)))
theorem ML(hb:eK w=false)(n:(!t.plain&&decide (f.size > 1))=false)(p:t.led=true)(o:SAt s.heap a f m t)(k:SetTable.below t.place l=i)(h:Q (match f[i]?,t.place[i]? with|some (_,x),some j=>some (x,j+1)|_,_=>none) s):wpAny (mZ prog w) A (setNext a l g m) Q E s:=by
 obtain⟨q,b,e,c,d⟩:=o;refine wa (wj b c d (wa (jZ ?_)));rw[if_neg (by rw[hb];exact qi)];show wpAny _ _ (if (_&&_)=true then _ else _) _ _ _;rw[if_neg (by rw[n];exact qi)];show wpAny _ _ ((if _ then _ else _)>>=_) _ _ _;rw[if_neg (by rw[p];simp),k];exact wb h
noncomputable def h7(a:Array Nat):Nat->Nat
 | 0=>0
 | i+1=>a.getD i 0+1
theorem MM(g:cK q)(m:i<=q.size):SetTable.below q (h7 q i)=i:=by
 obtain⟨n,l,f⟩:=Mr g _;generalize o:SetTable.below q (h7 q i)=p at n l f
 have b:∀(i k:Nat) _ (a:k<q.size),i<k->q[i]<q[k]:=λi k m a h=>by
  have:=List.pairwise_iff_getElem.mp g i k ⋯ ⋯ h;symm
 have r:∀k _,k<p->q[k]<h7 q i:=λk a d=>l _ (by
  rw[List.mem_iff_getElem]
  ext<;>ac_nf)
 have s:∀k _,p<=k->h7 q i<=q[k]:=λk a d=>f _ (by
  rw[List.mem_iff_getElem]
  exact⟨k-p,by simp;symm,by
   ext⟩)
 rcases Nat.lt_trichotomy p i with h|h|h
 .have a:p<q.size:=by ac_nf
  have:=s p a (qv _)
  cases i with
  | zero=>ac_nf
  | succ j=>
    have c:j<q.size:=by ac_nf
    simp only[h7,Array.getD,c,dite_true]at this;by_cases e:p=j
    .subst e;exact absurd this nofun
    .have:=b p j a c ∅
     simp at *;ac_nf
 .exact h
 .have a:i<q.size:=by symm
  have:=r i a h
  cases i with
  | zero=>simp[h7]at this
  | succ j=>
    have c:j<q.size:=by ac_nf
    have t:=b j (j+1) c a ∅;simp only[h7,Array.getD,dite_true]at this;simp at *;ac_nf
def j3(a:AF)(i:Nat)(v:Value):Prop:=∃k t,a[i]?=some k/\v=.int k t
theorem A5{b:Array (Int×Value)}(a:ElemsOf (intKind prog w) b.toList)(c:e∈b.toList):∃t,e.2=.int (c5 e) t:=by
 obtain⟨t,d⟩:=lW a c;grind
theorem A6(hS:SetI prog w s.heap a ns)(hQ:∀(h':Heap) (d':Drawn) (I:Addr) (fp:List Addr) (f:AF) (St:Nat->Heap->Prop),(∀b o,s.heap.get? b=some o->h'.get? b=some o)->(~~~s)<=I->I∈fp->
  (∀b∈fp,b<h'.objs.size/\(b=a\/(~~~s)<=b))->f.Perm ns->(∀y:Around,y.handled=none->Walks prog w y I fp [I] ns.length (j3 f) St)->St 0 h'->
  (∀(i:Nat) (s':Shared),St i s'.heap->s'.TypeIs (.ref I) "set_iterator")->Q (.ref I) {s with heap:=h',drawn:=d' }):
 wpAny (mZ prog w) A (pyIter (.ref a)) Q E s:=by
 obtain⟨o,d,q,t,N,T,X,V,hns,hnd,hb,J,ht⟩:=hS
 have hT:s.TypeIs (.ref a) "set":=⟨o,N,T.1⟩
 have L:ns.length=d.size:=by grind
 have hlt:a< ~~~s:=ql N
 have hsa:SAt s.heap a d q t:=⟨o,N,T,X,J⟩
 have hps:t.place.size=d.size:=by
  simp only[SetTable.fits,Qe,beq_iff_eq]at J;exact J.1
 refine wpAny_pyIter_slot hT F.slot_set_iter (we F.slot_set_iter hT SJ ?_ (F.args_set_iter_1 _));unfold Builtin.«frozenset.__iter__»;show wpAny _ _ (Builtin.Frozenset.sizeOf a>>=_) _ _ s;unfold Builtin.Frozenset.sizeOf;refine wa (wa (wpAny_setEntries_of N X J (wb ?_)));refine wa ?_;unfold setDrawn;refine wa (wj N X J ?_);dsimp only;refine wa (jZ (wb ?_))
 have plain:∀(f:AF) (st:Nat->Nat) (xv:Nat->Value),f.Perm ns->st 0=0->(∀i,i<d.size->j3 f i (xv i))->
  (∀(s':Shared) (y:Around) (i:Nat) (n:AA),SAt s'.heap a d q t->i<d.size->∀l:Option (Value×Nat)->Shared->Prop,l (some (xv i,st (i+1))) s'->wpAny (mZ prog w) y (setNext a (st i) i q) l n s')->
  (∀(s':Shared) (y:Around) (n:AA),SAt s'.heap a d q t->∀l:Option (Value×Nat)->Shared->Prop,l none s'->wpAny (mZ prog w) y (setNext a (st d.size) d.size q) l n s')->
  wpAny (mZ prog w) A.in1 (do
   let x <-newFields "set_iterator" [rawInt 0,rawInt 0,.ref a,rawInt d.size,rawInt (<-setEpoch a)]
   ret x) (λO s'=>∃v,O=.done (.ret v)/\∃T' r,s'.TypeIs v T'/\typeLookup (.type T') "__next__"=pure (some r)/\Q v s') E s:=by
  intro f st xv hp h0 hx p hn;refine wa (wpAny_setEpoch_of N X J ?_);refine wa (wg ?_);refine wb ⟨_,rfl,"set_iterator",_,⟨_,qp _ rfl,rfl⟩,slot_si_next.lookup,?_⟩
  have key:=hQ (s.heap.push {cls:=.type "set_iterator",data:=.fields #[rawInt 0,rawInt 0,.ref a,rawInt d.size,rawInt q]}) s.drawn (~~~s) [~~~s,a] f
   (λi h=>SIt h (~~~s) (.int (st i) 0) i a d.size q/\SAt h a d q t) (λb o e=>qe _ e) (qv _) nofun (λb hb=>by
    rw[ww]
    grind) hp (λy U=>{
    sub:=λb hb=>by grind
    frame:=λi h h' c Y=>⟨c.1.at λo e=>Y _ nofun o e,c.2.at λo e=>Y a nofun o e⟩
    item:=λi s' l n hlt' c g=>by
     refine AZ c.1 c.2 (x:=xv i) (nx:=st (i+1)) (λA2 Q2 E2 G=>p s' A2 i E2 c.2 (by ext) Q2 G) λh' D m=>?_;exact g _ h' s'.toks (hx i (by ext)) ⟨D,c.2.at λo e=>m.extBut a o (λz=>by grind) e⟩ λb o hb e=>m.extBut b o (λz=>hb (by simp[z])) e
    done:=λs' l n c g=>by
     rw[L]at c;exact A0 U c.1 c.2 (λA2 Q2 E2 G=>hn s' A2 E2 c.2 Q2 G) λh' R=>g h' s'.toks λb o hb e=>R b o (λz=>hb (by simp[z])) e
    self:=λi s' l n c g=>MJ c.1 g}) ⟨⟨_,qp _ rfl,rfl,by rw[h0];rfl⟩,hsa.at λo e=>qe _ e⟩ (λi s' c=>c.1.typeIs)
  exact key
 have hdr:∀b:Bool,(!t.plain&&decide (d.size > 1))=b->wpAny (mZ prog w) A.in1 (if (!eK w&&b)=true then do
  let first <-newTuple ((<-drawOrder d.size (List.range d.size)).map fun(i:Nat)=>rawInt i)
  let x <-newFields "set_iterator" [first,rawInt 0,.ref a,rawInt d.size,rawInt (<-setEpoch a)]
  ret x
  else do
   let x <-newFields "set_iterator" [rawInt 0,rawInt 0,.ref a,rawInt d.size,rawInt (<-setEpoch a)]
   ret x) (λO s'=>∃v,O=.done (.ret v)/\∃T' r,s'.TypeIs v T'/\typeLookup (.type T') "__next__"=pure (some r)/\Q v s') E s:=by
  intro b P
  cases C:eK w with
  | true=>
    rw[if_neg nofun];generalize hor:pickOrder (w.params.setOrder a q) d=k
    have hpm:k.toList.Perm d.toList:=by rw[<-hor];exact MD _ _
    have hos:k.size=d.size:=by
     have:=hpm.length_eq;grind
    refine plain (k.toList.map c5) (λ_=>0) (λi=>(k.getD i (0,.none)).2) (by grind) rfl (λi p=>?_) (λs' y i n M p l G=>?_) (λs' y n M l G=>?_)
    .have Z:i<k.size:=by ext
     obtain⟨u,hu⟩:=A5 V (hpm.mem_iff.mp (show k[i]∈k.toList by simp));refine⟨c5 k[i],u,by simp[Z],?_⟩
     ext
    .have Z:i<k.size:=by ext
     refine MK C M ?_
     ext
    .refine MK C M ?_
     ext
  | false=>
    have K:=ht.1 C
    cases b with
    | false=>
      rw[if_neg nofun]
      have B:cK t.place:=by
       cases hpl:t.plain with
       | true=>exact ht.2 hpl
       | false=>
         rw[hpl]at P
         have h1:t.place.toList.length<=1:=by
          ext
         unfold cK
         match t.place.toList,h1 with
         | [],_=>exact .nil
         | [x],_=>simp
      refine plain ns (h7 t.place) (λi=>(d.getD i (0,.none)).2) .rfl rfl (λi p=>?_) (λs' y i n M p l G=>?_) (λs' y n M l G=>?_)
      .obtain⟨u,hu⟩:=A5 V (show d[i]∈d.toList by simp)
       refine⟨c5 d[i],u,by grind,?_⟩
       ext
      .refine ML C P K M (MM B (by lia)) ?_
       have hi2:i<t.place.size:=by ext
       rw[Array.getElem?_eq_getElem p,Array.getElem?_eq_getElem hi2];simp only[Array.getD,p,hi2,dite_true,h7]at G;exact G
      .refine ML C P K M (MM B (by ext)) ?_
       ext
    | true=>
      rw[if_pos nofun];refine wa (AY d.size (List.range d.size) s _ nofun λys d' hp=>?_);simp only[newTuple]
      have hyl:ys.length=d.size:=by rw[hp.length_eq];simp
      refine wa (wg ?_ (by show(ys.map fun(i:Nat)=>rawInt i).toArray.size<=sizeLine;rw[qk,qf,hyl];exact fits_of_scanBound hb));have S:((s.heap.push {cls:=.type "tuple",data:=.seq (ys.map fun(i:Nat)=>rawInt i).toArray})).get? a=some o:=qe _ N;refine wa (wpAny_setEpoch_of (s:={s with heap:=s.heap.push {cls:=.type "tuple",data:=.seq (ys.map fun(i:Nat)=>rawInt i).toArray},drawn:=d' }) S X J ?_);refine wa (wg ?_);refine wb ⟨_,rfl,"set_iterator",_,⟨_,qp _ rfl,rfl⟩,slot_si_next.lookup,?_⟩
      have hmem:∀j∈ys,j<d.size:=λj hj=>by grind
      have hvp:(ys.map λj=>c5 (d.getD j (0,.none))).Perm ns:=by
       rw[<-hns];refine(hp.map _).trans ?_
       have:(List.range d.size).map (λj=>c5 (d.getD j (0,.none)))=d.toList.map c5:=by
        refine List.ext_getElem nofun λi h1 h2=>?_
        have p:i<d.size:=by(simp at*;lia)
        simp[Array.getD,p]
       rw[this]
      generalize hH:s.heap.push {cls:=.type "tuple",data:=.seq (ys.map fun(i:Nat)=>rawInt i).toArray}=H at S ⊢
      have hHs:H.objs.size= ~~~s+1:=by rw[<-hH,ww]
      have hT0:H.IsTuple (~~~s) (ys.map fun(i:Nat)=>rawInt i).toArray:=⟨_,by rw[<-hH];exact qp _ rfl,rfl,_,rfl⟩
      have W:∀b o,s.heap.get? b=some o->H.get? b=some o:=λb o e=>by rw[<-hH];exact qe _ e
      have haI:a≠H.objs.size:=λz=>by grind
      have hTI:(~~~s)≠H.objs.size:=by grind
      exact hQ (H.push {cls:=.type "set_iterator",data:=.fields #[.ref (~~~s),rawInt 0,.ref a,rawInt d.size,rawInt q]}) d' H.objs.size [H.objs.size,a,~~~s] (ys.map λj=>c5 (d.getD j (0,.none)))
       (λi h=>SIt h H.objs.size (.ref (~~~s)) i a d.size q/\SAt h a d q t/\h.IsTuple (~~~s) (ys.map fun(i:Nat)=>rawInt i).toArray) (λb o e=>qe _ (W b o e)) (by lia) nofun (λb hb=>by
        rw[ww]
        (simp at*;lia)) hvp (λy U=>{
        sub:=λb hb=>by grind
        frame:=λi h h' c Y=>⟨c.1.at λo e=>Y _ nofun o e,c.2.1.at λo e=>Y a nofun o e,c.2.2.at λo e=>Y _ nofun o e⟩
        item:=λi s' l n hlt' c g=>by
         have p:i<ys.length:=by lia
         have hj:=hmem ys[i] (List.getElem_mem p);refine A3 c.1 c.2.1 c.2.2 (j:=ys[i]) (tk:=0) (e:=d[ys[i]]) (by simp[p,rawInt]) (Array.getElem?_eq_getElem hj) λh' D m=>?_;refine g _ h' s'.toks ?_ ⟨D,c.2.1.at λo e=>m.extBut a o haI e,c.2.2.at λo e=>m.extBut _ o hTI e⟩ λb o hb e=>m.extBut b o (λz=>hb (by simp[z])) e;obtain⟨u,hu⟩:=A5 V (show d[ys[i]]∈d.toList by simp);exact⟨c5 d[ys[i]],u,by simp[p,Array.getD,hj],hu⟩
        done:=λs' l n c g=>by
         rw[L]at c;exact A4 U c.1 c.2.1 c.2.2 (by simp[hyl]) λh' R=>g h' s'.toks λb o hb e=>R b o (λz=>hb (by simp[z])) e
        self:=λi s' l n c g=>MJ c.1 g}) ⟨⟨_,qp _ rfl,rfl,rfl⟩,⟨o,qe _ S,T,X,J⟩,hT0.push _⟩ (λi s' c=>c.1.typeIs)
 exact hdr _ rfl
end
inductive D where
 | non|bl (b:Bool)|int (i:Int)|str (x:Str)|tup (l:List D)|lst (l:List D)
 | scr (ns:AF)
 | dct (t:Bool) (ks vs:List D)
 | obj (c:Str) (ks:AJ) (vs:List D)
 | adr (a:Addr)
abbrev AN:=List D
mutual
def aG:D->PyData
 | .non=>.none
 | .bl b=>.bool b
 | .int i=>.int i
 | .str x=>.str x
 | .tup l=>.tuple (dt l)
 | .lst l=>.list (dt l)
 | .scr ns=>.list (ns.map PyData.int)
 | .dct _ _ _=>.none
 | .obj _ _ _=>.none
 | .adr _=>.none
def dt:AN->List PyData
 | []=>[]
 | d::l=>aG d::dt l
end
noncomputable def bp(d e:D):Bool:=PyData.eqv (aG d) (aG e)
noncomputable def d9(l m:AN):Bool:=PyData.eqvAll (dt l) (dt m)
noncomputable def h8:V->Option Int
 | .int i=>some i
 | .bl b=>some (if b then 1 else 0)
 | _=>none
noncomputable def dZ:AM->Option AF
 | []=>some []
 | x::r=>(h8 x).bind λi=>(dZ r).map (i::·)
noncomputable def nZ(ks:AF):Int:=reduceHash (Builtin.Tuple.tupleHashOf (ks.map hashInt))
def A7(a:Addr)(b:List (List Int×Addr))(vxs:AM)(d:Nat)(h:Heap):Prop:=
 (a==sysModules)=false/\∃e o c,Vals vxs e/\h.get? a=some o/\o.ExactDict/\o.data=.dict c d/\c.toList=(b.zip e).map λp=>⟨nZ p.1.1,.ref p.1.2,p.2⟩
noncomputable def d_(a:Addr)(b:List (List Int×Addr))(vxs:AM)(c:Nat):HO:=.ext (A7 a b vxs c)
def Dc(t:Bool)(G H:Hp)(a:Addr)(d vxs:AM):Prop:=
 (t=false/\∃c:List _,H a=some (.dK c)/\(c.map (·.1)).Nodup/\d=c.map (λp=>kV p.1)/\vxs=c.map (·.2))\/
 (t=true/\∃(b:List _) (e:Nat),H a=some (d_ a b vxs e)/\b.length=vxs.length/\(b.map (·.1)).Nodup/\d=b.map (λp=>.ref p.2)/\∀p∈b,∃f,G p.2=some (.tup f)/\dZ f=some p.1)
mutual
def Rp(K:W7)(G:Hp):D->V->Prop
 | .non,v=>v=V.non
 | .bl b,v=>v=V.bl b
 | .int i,v=>v=V.int i
 | .str x,v=>v=V.str x/\PyData.strOk x=true
 | .tup l,v=>∃a xs,v=V.ref a/\G a=some (HO.tup xs)/\RpL K G l xs
 | .lst l,v=>∃a xs,v=V.ref a/\Rd G a (HO.lst xs)/\RpL K G l xs
 | .scr ns,v=>∃a,v=V.ref a/\SqL K G a (ns.map V.int)
 | .dct t ks vs,v=>∃a f vxs,v=V.ref a/\Dc t G G a f vxs/\RpL K G ks f/\RpL K G vs vxs
 | .obj c ks vs,v=>∃a C g xs,v=V.ref a/\W.nsIn K mainGlobals c=some (some (.ref C))/\G a=some (HO.ins C g (ks.zip xs))/\xs.length=ks.length/\RpL K G vs xs
 | .adr a,v=>v=V.ref a
def RpL(K:W7)(G:Hp):AN->AM->Prop
 | [],xs=>xs=[]
 | d::l,xs=>∃x r,xs=x::r/\Rp K G d x/\RpL K G l r
end
def d3(h:Same G b)(r:Rd G a u):Rd b a u:=by
 rcases r with r|⟨o,r⟩
 .exact .inl (h _ _ r)
 .exact .inr ⟨o,h _ _ r⟩
def Dc.mono(g:Same G u)(h:∀o,H a=some o->H' a=some o)(d:Dc t G H a c vxs):Dc t u H' a c vxs:=by
 rcases d with⟨e,j,i,b⟩|⟨e,f,r,i,b,n,l,s⟩
 .exact .inl ⟨e,j,h _ i,b⟩
 .refine .inr ⟨e,f,r,h _ i,b,n,l,λp k=>?_⟩
  obtain⟨v,m,q⟩:=s p k;exact⟨v,g _ _ m,q⟩
theorem Dc.someT(d:Dc t G H a e vxs):∃o,H a=some o/\∀xs,o≠.tup xs:=by
 rcases d with⟨_,c,b,_⟩|⟨_,f,g,b,_⟩
 .simp_all
 .exact⟨_,b,λxs z=>by cases z⟩
theorem Dc.some(d:Dc t G H a e vxs):∃o,H a=some o/\∀xs,o≠.lst xs:=by
 rcases d with⟨_,c,b,_⟩|⟨_,f,g,b,_⟩
 .simp_all
 .exact⟨_,b,λxs z=>by cases z⟩
mutual
theorem Rp.mono{G G':Hp}(h:Same G G'):∀{d:D}{v:V},Rp K G d v->Rp K G' d v
 | .non,_,r=>r
 | .bl _,_,r=>r
 | .int _,_,r=>r
 | .str _,_,r=>r
 | .tup l,_,r=>by
   obtain⟨a,xs,e,g,q⟩:=r;exact⟨a,xs,e,h _ _ g,RpL.mono h q⟩
 | .lst l,_,r=>by
   obtain⟨a,xs,e,g,q⟩:=r;exact⟨a,xs,e,d3 h g,RpL.mono h q⟩
 | .scr ns,_,r=>by
   obtain⟨a,e,g⟩:=r;exact⟨a,e,h.seq g⟩
 | .dct t ks vs,_,r=>by
   obtain⟨a,b,vxs,e,g,j,f⟩:=r;exact⟨a,b,vxs,e,g.mono h λo=>h _ o,RpL.mono h j,RpL.mono h f⟩
 | .obj c ks vs,_,r=>by
   obtain⟨a,C,i,xs,e,n,g,l,q⟩:=r;exact⟨a,C,i,xs,e,n,h _ _ g,l,RpL.mono h q⟩
 | .adr _,_,r=>r
theorem RpL.mono{G G':Hp}(h:Same G G'):∀{l:AN}{xs:AM},RpL K G l xs->RpL K G' l xs
 | [],_,r=>r
 | d::l,_,r=>by
   obtain⟨x,xs,e,g,q⟩:=r;exact⟨x,xs,e,Rp.mono h g,RpL.mono h q⟩
end
section
variable {G:Hp}
theorem RpL.length:∀{l:AN}{xs:AM},RpL K G l xs->xs.length=l.length
 | [],_,r=>by subst r;rfl
 | d::l,_,r=>by
   obtain⟨x,xs,rfl,_,q⟩:=r;simp[RpL.length q]
theorem RpL.get:∀{l:AN}{xs:AM}{i:Nat}{d:D},RpL K G l xs->l[i]?=some d->∃x,xs[i]?=some x/\Rp K G d x
 | [],_,_,_,_,e=>by simp at e
 | d::l,_,0,_,r,e=>by
   rw[RpL]at r;grind
 | d::l,_,i+1,_,r,e=>by
   obtain⟨x,xs,rfl,g,q⟩:=r;obtain⟨y,a,b⟩:=RpL.get q (by simpa using e)
   ext
def RpL.nil:RpL K G [] []:=by rw[RpL]
def RpL.cons(h:Rp K G d x)(q:RpL K G l xs):RpL K G (d::l) (x::xs):=⟨x,xs,rfl,h,q⟩
theorem RpL.append:∀{l m:AN}{xs ys:AM},RpL K G l xs->RpL K G m ys->RpL K G (l++m) (xs++ys)
 | [],_,_,_,r,q=>by rw[RpL]at r;ext
 | d::l,m,_,ys,r,q=>by
   obtain⟨x,xs,rfl,g,r⟩:=r;exact .cons g (.append r q)
def RpL.one(h:Rp K G d x):RpL K G [d] [x]:=.cons h .nil
theorem RpL.set:∀{l:AN}{xs:AM} (i:Nat) {d:D}{x:V},RpL K G l xs->Rp K G d x->RpL K G (l.set i d) (xs.set i x)
 | [],_,_,_,_,r,_=>by rw[RpL]at r;subst r;exact .nil
 | e::l,_,0,_,_,r,h=>by
   rw[RpL]at r;obtain⟨x,xs,rfl,g,r⟩:=r;exact .cons h r
 | e::l,_,i+1,_,_,r,h=>by
   rw[RpL]at r;obtain⟨x,xs,rfl,g,r⟩:=r;exact .cons g (RpL.set i r h)
theorem RpL.take:∀{l:AN}{xs:AM} (n:Nat),RpL K G l xs->RpL K G (l.take n) (xs.take n)
 | _,_,0,_=>.nil
 | [],_,_+1,r=>by subst r;exact .nil
 | d::l,_,n+1,r=>by
   obtain⟨x,xs,rfl,g,r⟩:=r;exact .cons g (.take n r)
theorem RpL.drop:∀{l:AN}{xs:AM} (n:Nat),RpL K G l xs->RpL K G (l.drop n) (xs.drop n)
 | _,_,0,r=>r
 | [],_,_+1,r=>by subst r;exact .nil
 | d::l,_,n+1,r=>by
   obtain⟨x,xs,rfl,g,r⟩:=r;exact .drop n r
theorem RpL.reverse:∀{l:AN}{xs:AM},RpL K G l xs->RpL K G l.reverse xs.reverse
 | [],_,r=>by subst r;exact .nil
 | d::l,_,r=>by
   obtain⟨x,xs,rfl,g,r⟩:=r;rw[List.reverse_cons,List.reverse_cons];exact r.reverse.append (.one g)
theorem RpL.ints:∀(ns:AF),RpL K G (ns.map D.int) (ns.map V.int)
 | []=>.nil
 | n::ns=>.cons (by rw[Rp]) (.ints ns)
end
structure Gr(H G H' G':Hp):Prop where
 h:Same H H'
 g:Same G G'
 s:Same G' H'
 n:∀a,G a=none->G' a≠none->H a=none
def Gr.refl(s:Same G H):Gr H G H G:=⟨.refl _,.refl _,s,λ_ h a=>absurd h a⟩
def Gr.trans(a:Gr H G f c)(b:Gr f c d G2):Gr H G d G2:=
 ⟨a.h.trans b.h,a.g.trans b.g,b.s,λx h i=>by
  by_cases e:c x=none
  .exact a.h.free (b.n x e i)
  .exact a.n x h e⟩
theorem Gr.new(s:Same G H)(a:H p=none)(o:HO):Gr H G (upd H p o) (upd G p o):=by
 refine⟨λb u e=>?_,λb u e=>?_,λb u e=>?_,λb h c=>?_⟩
 .rwa [Yl (Yk e a)]
 .rwa [Yl (Yk e (s.free a))]
 .by_cases q:b=p
  .subst q;rwa [Yh]at e ⊢
  .rw[Yl q]at e ⊢;exact s _ _ e
 .by_cases q:b=p
  .grind
  .rw[Yl q]at c;grind
def Gr.hid(s:Same G H)(a:H p=none)(o:HO):Gr H G (upd H p o) G:=by
 refine⟨λb u e=>?_,.refl _,λb u e=>?_,λb h c=>absurd h c⟩
 .rwa [Yl (Yk e a)]
 .rw[Yl (Yk e (s.free a))];exact s _ _ e
theorem Gr.show(g:Gr H G H' d)(c:H p=none)(a:d p=none)(e:H' p=some o):Gr H G H' (upd d p o):=by
 refine⟨g.h,λb u q=>?_,λb u q=>?_,λb h f=>?_⟩
 .have:=g.g b u q
  rwa [Yl (Yk this a)]
 .by_cases z:b=p
  .subst z;rw[Yh]at q;symm
  .rw[Yl z]at q;exact g.s b u q
 .by_cases z:b=p
  .grind
  .rw[Yl z]at f;exact g.n b h f
def Ct(K:W7)(G H:Hp):D->V->Prop
 | .non,v=>v=.non
 | .bl b,v=>v=.bl b
 | .int i,v=>v=.int i
 | .str x,v=>v=.str x/\PyData.strOk x=true
 | .tup l,v=>∃a f,v=.ref a/\(H a=some (.tup f)/\G a=some (.tup f))/\RpL K G l f
 | .lst l,v=>∃a f,v=.ref a/\Rd H a (.lst f)/\RpL K G l f
 | .scr k,v=>∃a,v=.ref a/\SqL K H a (k.map .int)
 | .dct t h j,v=>∃a d g,v=.ref a/\Dc t G H a d g/\RpL K G h d/\RpL K G j g
 | .obj c h j,v=>∃a C e f,v=.ref a/\W.nsIn K mainGlobals c=some (some (.ref C))/\G a=some (.ins C e (h.zip f))/\f.length=h.length/\RpL K G j f
 | .adr a,v=>v=.ref a
def Ct.of(s:Same G H)(r:Rp K G d v):Ct K G H d v:=by
 cases d<;>rw[Rp]at r<;>rw[Ct]
 .exact r
 .exact r
 .exact r
 .exact r
 .obtain⟨a,i,e,g,q⟩:=r
  exact⟨a,i,e,⟨s _ _ g,g⟩,q⟩
 .obtain⟨a,i,e,g,q⟩:=r
  exact⟨a,i,e,d3 s g,q⟩
 .obtain⟨a,e,g⟩:=r
  exact⟨a,e,s.seq g⟩
 .obtain⟨a,b,h,e,g,f,c⟩:=r
  exact⟨a,b,h,e,g.mono (.refl _) λo=>s _ o,f,c⟩
 .exact r
 .exact r
def Ct.rp(s:Same G H)(r:Ct K G H d v):Rp K H d v:=by
 cases d<;>rw[Ct]at r<;>rw[Rp]
 .exact r
 .exact r
 .exact r
 .exact r
 .obtain⟨a,i,e,g,q⟩:=r
  exact⟨a,i,e,g.1,q.mono s⟩
 .obtain⟨a,i,e,g,q⟩:=r
  exact⟨a,i,e,g,q.mono s⟩
 .exact r
 .obtain⟨a,b,j,e,g,h,c⟩:=r
  exact⟨a,b,j,e,g.mono s λ_ z=>z,h.mono s,c.mono s⟩
 .obtain⟨a,C,f,i,e,n,g,l,q⟩:=r
  exact⟨a,C,f,i,e,n,s _ _ g,l,q.mono s⟩
 .exact r
def Ct.grow(g:Gr H G H' m)(r:Ct K G H d v):Ct K m H' d v:=by
 cases d<;>rw[Ct]at r<;>rw[Ct]
 .exact r
 .exact r
 .exact r
 .exact r
 .obtain⟨a,j,e,h,q⟩:=r
  exact⟨a,j,e,⟨g.h _ _ h.1,g.g _ _ h.2⟩,q.mono g.g⟩
 .obtain⟨a,j,e,h,q⟩:=r
  exact⟨a,j,e,d3 g.h h,q.mono g.g⟩
 .obtain⟨a,e,h⟩:=r
  exact⟨a,e,g.h.seq h⟩
 .obtain⟨a,b,k,e,h,i,c⟩:=r
  exact⟨a,b,k,e,h.mono g.g λo=>g.h _ o,i.mono g.g,c.mono g.g⟩
 .obtain⟨a,C,f,j,e,n,h,l,q⟩:=r
  exact⟨a,C,f,j,e,n,g.g _ _ h,l,q.mono g.g⟩
 .exact r
def lX(K:W7)(G H:Hp):AN->AM->Prop
 | [],xs=>xs=[]
 | d::l,xs=>∃x r,xs=x::r/\Ct K G H d x/\lX K G H l r
inductive B where
 | sh (d:D)|ow (l:AN)|od (t:Bool) (ks vs:AN)
abbrev AQ:=Option B
abbrev Ro:=List AQ
abbrev AV:=Ro->Option AN
abbrev AU:=Ro->Option D
abbrev AT:=Ro->Option Bool
abbrev AS:=D->Ro->Option Ro
structure SR(K:W7)(H0 G0:Hp)(σ:L2.St)(H G:Hp)(ρ:Ro):Prop where
 gr:Gr H0 G0 H G
 len:σ.length=ρ.length
 sh:∀(i:Nat) d,ρ[i]?=some (some (B.sh d))->∃v,σ[i]?=some (some v)/\Rp K G d v
 ow:∀(i:Nat) l,ρ[i]?=some (some (B.ow l))->∃a xs,σ[i]?=some (some (V.ref a))/\G a=none/\H0 a=none/\H a=some (.lst xs)/\RpL K G l xs
 ap:∀(i j:Nat) l l' a b,ρ[i]?=some (some (B.ow l))->ρ[j]?=some (some (B.ow l'))->i≠j->σ[i]?=some (some (V.ref a))->σ[j]?=some (some (V.ref b))->a≠b
 od:∀(i:Nat) t ks vs,ρ[i]?=some (some (B.od t ks vs))->∃a kxs vxs,σ[i]?=some (some (V.ref a))/\G a=none/\H0 a=none/\Dc t G H a kxs vxs/\RpL K G ks kxs/\RpL K G vs vxs
 apd:∀(i j:Nat) t ks vs t' ks' vs' a b,ρ[i]?=some (some (B.od t ks vs))->ρ[j]?=some (some (B.od t' ks' vs'))->i≠j->σ[i]?=some (some (V.ref a))->σ[j]?=some (some (V.ref b))->a≠b
section
variable {H0 G0 H G H' G':Hp}{σ:L2.St}{ρ:Ro}
def SR.mkSh(g:Gr H0 G0 H G)(e:σ.length=ρ.length)(n:∀(i:Nat) d,ρ[i]?=some (some (B.sh d))->∃v,σ[i]?=some (some v)/\Rp K G d v)(f:∀(i:Nat) l,ρ[i]?≠some (some (B.ow l)))(c:∀(i:Nat) t ks vs,ρ[i]?≠some (some (B.od t ks vs))):SR K H0 G0 σ H G ρ:=
 ⟨g,e,n,λi l h=>absurd h (f i l),λi j l o a b h=>absurd h (f i l),λi t ks vs h=>absurd h (c i t ks vs),λi j t ks vs p k m a b h=>absurd h (c i t ks vs)⟩
theorem A8(g:Gr H G H' G')(h:H a=some o)(n:G a=none):G' a=none:=by
 cases q:G' a with
 | none=>rfl
 | some o=>
   have:=g.n a n (by grind);grind
def SR.grow(s:SR K H0 G0 σ H G ρ)(g:Gr H G H' G'):SR K H0 G0 σ H' G' ρ:=by
 refine⟨s.gr.trans g,s.len,λi d e=>?_,λi l e=>?_,s.ap,λi t r q e=>?_,s.apd⟩
 .obtain⟨v,f,b⟩:=s.sh i d e
  exact⟨v,f,b.mono g.g⟩
 .obtain⟨a,u,f,b,k,c,j⟩:=s.ow i l e
  exact⟨a,u,f,A8 g c b,k,g.h _ _ c,j.mono g.g⟩
 .obtain⟨a,h,p,f,b,k,c,j,m⟩:=s.od i t r q e
  obtain⟨o,n,_⟩:=c.some;exact⟨a,h,p,f,A8 g n b,k,c.mono g.g λo=>g.h _ o,j.mono g.g,m.mono g.g⟩
def SR.seen(s:SR K H0 G0 σ H G ρ):Same G H:=s.gr.s
def Yg{a:Type}{l:List a}{x y:a}(h:(l.set i x)[j]?=some y):(j=i/\y=x/\i<l.length)\/(j≠i/\l[j]?=some y):=by
 by_cases e:j=i
 .subst e
  have b:=by
   have:=(qo h).1;simpa using this
  rw[List.getElem?_set_self b]at h;exact .inl ⟨rfl,w4 h.symm,b⟩
 .rw[Qp (.symm e)]at h
  exact .inr ⟨e,h⟩
theorem SR.set_sh(s:SR K H0 G0 σ H G ρ)(i:Nat)(r:Rp K G d v):SR K H0 G0 (σ.set i (some v)) H G (ρ.set i (↑d)):=by
 refine⟨s.gr,by simp[s.len],λj e h=>?_,λj l h=>?_,λj k l F a b g m z n o=>?_,λj t x y h=>?_,λj k t x y J B u a b g m z n o=>?_⟩
 .rcases Yg h with⟨rfl,c,E⟩|⟨f,h⟩
  .cases c
   exact⟨v,by rw[List.getElem?_set_self (by rwa [s.len])],r⟩
  .obtain⟨w,D,p⟩:=s.sh j e h
   exact⟨w,by rwa [Qp (.symm f)],p⟩
 .rcases Yg h with⟨rfl,c,E⟩|⟨f,h⟩
  .cases c
  .obtain⟨a,I,D,p⟩:=s.ow j l h
   exact⟨a,I,by rwa [Qp (.symm f)],p⟩
 .rcases Yg g with⟨rfl,c,_⟩|⟨f,g⟩
  .cases c
  .rcases Yg m with⟨rfl,c,_⟩|⟨q,m⟩
   .cases c
   .rw[Qp (.symm f)]at n
    rw[Qp (.symm q)]at o;exact s.ap j k l F a b g m z n o
 .rcases Yg h with⟨rfl,c,E⟩|⟨f,h⟩
  .cases c
  .obtain⟨a,A,C,D,p⟩:=s.od j t x y h
   exact⟨a,A,C,by rwa [Qp (.symm f)],p⟩
 .rcases Yg g with⟨rfl,c,_⟩|⟨f,g⟩
  .cases c
  .rcases Yg m with⟨rfl,c,_⟩|⟨q,m⟩
   .cases c
   .rw[Qp (.symm f)]at n
    rw[Qp (.symm q)]at o;exact s.apd j k t x y J B u a b g m z n o
theorem SR.set_ow(s:SR K H0 G0 σ H G ρ)(i:Nat)(g:Gr H G H' G')(L:H p=none)(Q:G' p=none)(e:H' p=some (.lst xs))(r:RpL K G' l xs):SR K H0 G0 (σ.set i (some (.ref p))) H' G' (ρ.set i (some (.ow l))):=by
 have B:=s.grow g
 have N:∀(j:Nat) l a,_->σ[j]?=some (some (.ref a))->a≠p:=λj l a o c z=>by
  obtain⟨b,T,q,_,_,M,_⟩:=s.ow j l o;rw[c]at q;cases q;rw[z,L]at M;cases M
 refine⟨B.gr,by simp[s.len],λj e h=>?_,λj l h=>?_,λj k l O a b o c A m n=>?_,λj t J C h=>?_,λj k t J C R E F a b o c A m n=>?_⟩
 .rcases Yg h with⟨rfl,d,y⟩|⟨f,h⟩
  .cases d
  .obtain⟨w,q,v⟩:=B.sh j e h
   exact⟨w,by rwa [Qp (.symm f)],v⟩
 .rcases Yg h with⟨rfl,d,y⟩|⟨f,h⟩
  .cases d
   exact⟨p,xs,by rw[List.getElem?_set_self (by rwa [s.len])],Q,s.gr.h.free L,e,r⟩
  .obtain⟨a,xs,q,v⟩:=B.ow j l h
   exact⟨a,xs,by rwa [Qp (.symm f)],v⟩
 .rcases Yg o with⟨rfl,d,y⟩|⟨f,x⟩
  .rcases Yg c with⟨rfl,S,_⟩|⟨u,c⟩
   .exact absurd rfl A
   .rw[List.getElem?_set_self (by rwa [s.len])]at m
    cases m;rw[Qp (.symm u)]at n;exact .symm (N k O b c n)
  .rcases Yg c with⟨rfl,S,y⟩|⟨u,c⟩
   .rw[List.getElem?_set_self (by rwa [s.len])]at n
    cases n;rw[Qp (.symm f)]at m;exact N j l a x m
   .rw[Qp (.symm f)]at m
    rw[Qp (.symm u)]at n;exact s.ap j k l O a b x c A m n
 .rcases Yg h with⟨rfl,d,y⟩|⟨f,h⟩
  .cases d
  .obtain⟨a,D,I,q,v⟩:=B.od j t J C h
   exact⟨a,D,I,by rwa [Qp (.symm f)],v⟩
 .rcases Yg o with⟨rfl,d,_⟩|⟨f,o⟩
  .cases d
  .rcases Yg c with⟨rfl,d,_⟩|⟨u,c⟩
   .cases d
   .rw[Qp (.symm f)]at m
    rw[Qp (.symm u)]at n;exact s.apd j k t J C R E F a b o c A m n
theorem SR.set_od(s:SR K H0 G0 σ H G ρ)(i:Nat)(g:Gr H G H' G')(hp:H p=none)(gp:G' p=none)(e:Dc t G' H' p kxs vxs)(r1:RpL K G' ks kxs)(r2:RpL K G' vs vxs):SR K H0 G0 (σ.set i (some (.ref p))) H' G' (ρ.set i (some (.od t ks vs))):=by
 have s':=s.grow g
 have np:∀(j:Nat) t ks vs a,ρ[j]?=some (some (B.od t ks vs))->σ[j]?=some (some (V.ref a))->a≠p:=λj t ks vs a h1 h2 z=>by
  obtain⟨b,kxs,vxs,q1,_,_,q4,_⟩:=s.od j t ks vs h1;rw[h2]at q1;cases q1;obtain⟨o,q5,_⟩:=q4.some;rw[z,hp]at q5;cases q5
 refine⟨s'.gr,by simp[s.len],λj e h=>?_,λj l h=>?_,λj k l l' a b h1 h2 h3 h4 h5=>?_,λj t ks vs h=>?_,λj k t ks vs t' ks' vs' a b h1 h2 h3 h4 h5=>?_⟩
 .rcases Yg h with⟨rfl,e1,hl⟩|⟨hj,h⟩
  .cases e1
  .obtain⟨w,q1,q2⟩:=s'.sh j e h
   exact⟨w,by rw[Qp (Ne.symm hj)];exact q1,q2⟩
 .rcases Yg h with⟨rfl,e1,hl⟩|⟨hj,h⟩
  .cases e1
  .obtain⟨a,xs,q1,q2⟩:=s'.ow j l h
   exact⟨a,xs,by rw[Qp (Ne.symm hj)];exact q1,q2⟩
 .rcases Yg h1 with⟨rfl,e1,_⟩|⟨hj,h1⟩
  .cases e1
  .rcases Yg h2 with⟨rfl,e1,_⟩|⟨hk,h2⟩
   .cases e1
   .rw[Qp (Ne.symm hj)]at h4
    rw[Qp (Ne.symm hk)]at h5;exact s.ap j k l l' a b h1 h2 h3 h4 h5
 .rcases Yg h with⟨rfl,e1,hl⟩|⟨hj,h⟩
  .cases e1
   exact⟨p,kxs,vxs,by rw[List.getElem?_set_self (by rw[s.len];exact hl)],gp,s.gr.h.free hp,e,r1,r2⟩
  .obtain⟨a,kxs,vxs,q1,q2⟩:=s'.od j t ks vs h
   exact⟨a,kxs,vxs,by rw[Qp (Ne.symm hj)];exact q1,q2⟩
 .rcases Yg h1 with⟨rfl,e1,hl⟩|⟨hj,h1n⟩
  .rcases Yg h2 with⟨rfl,e2,_⟩|⟨hk,h2⟩
   .exact absurd rfl h3
   .rw[List.getElem?_set_self (by rw[s.len];exact hl)]at h4
    cases h4;rw[Qp (Ne.symm hk)]at h5;exact Ne.symm (np k t' ks' vs' b h2 h5)
  .rcases Yg h2 with⟨rfl,e2,hl⟩|⟨hk,h2⟩
   .rw[List.getElem?_set_self (by rw[s.len];exact hl)]at h5
    cases h5;rw[Qp (Ne.symm hj)]at h4;exact np j t ks vs a h1n h4
   .rw[Qp (Ne.symm hj)]at h4
    rw[Qp (Ne.symm hk)]at h5;exact s.apd j k t ks vs t' ks' vs' a b h1n h2 h3 h4 h5
theorem SR.mut(s:SR K H0 G0 σ H G ρ)(O:ρ[i]?=some (some (B.ow l)))(E:σ[i]?=some (some (V.ref a)))(r:RpL K G P ys):SR K H0 G0 σ (upd H a (.lst ys)) G (ρ.set i (some (.ow P))):=by
 obtain⟨T,xs,N,M,L,Y,Z⟩:=s.ow i l O;rw[E]at N;cases N;refine⟨⟨λb o e=>?_,s.gr.g,λb o e=>?_,s.gr.n⟩,by simp[s.len],λj e h=>?_,λj m h=>?_,λj k m F b c d f v y J=>?_,λj t ks vs h=>?_,λj k t ks vs t' C D b c d f v y J=>?_⟩
 .rw[Yl (Yk e L)];exact s.gr.h b o e
 .rw[Yl (Yk e M)];exact s.gr.s b o e
 .rcases Yg h with⟨rfl,e1,_⟩|⟨n,h⟩
  .cases e1
  .exact s.sh j e h
 .rcases Yg h with⟨rfl,e1,_⟩|⟨n,h⟩
  .cases e1
   exact⟨a,ys,E,M,L,Yh,r⟩
  .obtain⟨b,R,p,I,x,u,w⟩:=s.ow j m h
   exact⟨b,R,p,I,x,by rw[Yl (s.ap j i m l b a h O n p E)];exact u,w⟩
 .have g:∀(j:Nat) m,(ρ.set i (some (.ow P)))[j]?=some (some (.ow m))->∃F,ρ[j]?=some (some (.ow F)):=λj m h=>by
   grind
  obtain⟨S,e1⟩:=g j m d;obtain⟨Q,e2⟩:=g k F f;exact s.ap j k S Q b c e1 e2 v y J
 .rcases Yg h with⟨rfl,e1,_⟩|⟨n,h⟩
  .cases e1
  .obtain⟨b,A,vxs,p,I,x,u,w⟩:=s.od j t ks vs h
   refine⟨b,A,vxs,p,I,x,u.mono (.refl _) λo q=>?_,w⟩;obtain⟨W,q',X⟩:=u.some;rw[Yl (λz=>by grind)];exact q
 .rcases Yg d with⟨rfl,e1,_⟩|⟨n,d⟩
  .cases e1
  .rcases Yg f with⟨rfl,e1,_⟩|⟨U,f⟩
   .cases e1
   .exact s.apd j k t ks vs t' C D b c d f v y J
theorem SR.mutd(s:SR K H0 G0 σ H G ρ)(hi:ρ[i]?=some (some (B.od t ks vs)))(ha:σ[i]?=some (some (V.ref a)))(d:Dc t' G (upd H a o) a kxs vxs)(r1:RpL K G ks' kxs)(r2:RpL K G vs' vxs):SR K H0 G0 σ (upd H a o) G (ρ.set i (some (.od t' ks' vs'))):=by
 obtain⟨a',kxs0,vxs0,q1,q2,q3,q4,q5,q6⟩:=s.od i t ks vs hi;rw[ha]at q1;cases q1;obtain⟨o0,q7,nl⟩:=q4.some;have hl:i<ρ.length:=(qo hi).1;refine⟨⟨λb o e=>?_,s.gr.g,λb o e=>?_,s.gr.n⟩,by simp[s.len],λj e h=>?_,λj m h=>?_,λj k m m' b c h1 h2 h3 h4 h5=>?_,λj ta ka va h=>?_,λj k ta ka va tb kb vb b c h1 h2 h3 h4 h5=>?_⟩
 .rw[Yl (Yk e q3)];exact s.gr.h b o e
 .rw[Yl (Yk e q2)];exact s.gr.s b o e
 .rcases Yg h with⟨rfl,e1,_⟩|⟨hj,h⟩
  .cases e1
  .exact s.sh j e h
 .rcases Yg h with⟨rfl,e1,_⟩|⟨hj,h⟩
  .cases e1
  .obtain⟨b,zs,p1,p2,p3,p4,p5⟩:=s.ow j m h
   exact⟨b,zs,p1,p2,p3,by rw[Yl (λz=>by rw[z,q7]at p4;cases p4;exact nl _ rfl)];exact p4,p5⟩
 .rcases Yg h1 with⟨rfl,e1,_⟩|⟨hj,h1⟩
  .cases e1
  .rcases Yg h2 with⟨rfl,e1,_⟩|⟨hk,h2⟩
   .cases e1
   .exact s.ap j k m m' b c h1 h2 h3 h4 h5
 .rcases Yg h with⟨rfl,e1,_⟩|⟨hj,h⟩
  .cases e1
   exact⟨a,kxs,vxs,ha,q2,q3,d,r1,r2⟩
  .obtain⟨b,kx,vx,p1,p2,p3,p4,p5⟩:=s.od j ta ka va h
   exact⟨b,kx,vx,p1,p2,p3,p4.mono (Same.refl _) λo q=>by rw[Yl (s.apd j i _ _ _ _ _ _ b a h hi hj p1 ha)];exact q,p5⟩
 .have old:∀(j:Nat) t2 k2 v2,(ρ.set i (some (.od t' ks' vs')))[j]?=some (some (B.od t2 k2 v2))->∃t3 k3 v3,ρ[j]?=some (some (B.od t3 k3 v3)):=λj t2 k2 v2 h=>by
   rcases Yg h with⟨rfl,_,_⟩|⟨_,h⟩
   .exact⟨_,_,_,hi⟩
   .exact⟨_,_,_,h⟩
  obtain⟨t1,k1,v1,e1⟩:=old j _ _ _ h1;obtain⟨t2,k2,v2,e2⟩:=old k _ _ _ h2;exact s.apd j k t1 k1 v1 t2 k2 v2 b c e1 e2 h3 h4 h5
theorem SR.freezeT(s:SR K H0 G0 σ H G ρ)(I:ρ[i]?=some (some (B.ow l))):∃G',SR K H0 G0 σ H G' (ρ.set i (↑(.lst l)))/\∀b ys,G' b=some (.tup ys)->G b=some (.tup ys):=by
 obtain⟨a,xs,F,O,R,U,V⟩:=s.ow i l I
 have g:Same G (upd G a (.lst xs)):=λb o e=>by rwa [Yl (Yk e O)]
 refine⟨upd G a _,⟨⟨s.gr.h,s.gr.g.trans g,λb o e=>?_,λb h h'=>?_⟩,by simp[s.len],λj e h=>?_,λj m h=>?_,λj k m L b c d f y D E=>?_,λj t Z vs h=>?_,λj k t Z vs t' A x b c d f y D E=>?_⟩,λb ys e=>by
  by_cases z:b=a
  .subst z;rw[Yh]at e;cases e
  .rwa [Yl z]at e⟩
 .by_cases z:b=a
  .subst z;rw[Yh]at e;symm
  .rw[Yl z]at e;exact s.gr.s b o e
 .by_cases z:b=a
  .grind
  .rw[Yl z]at h';exact s.gr.n b h h'
 .rcases Yg h with⟨rfl,Y,_⟩|⟨p,h⟩
  .cases Y
   exact⟨_,F,⟨a,xs,rfl,.inl Yh,V.mono g⟩⟩
  .obtain⟨v,n,q⟩:=s.sh j e h
   exact⟨v,n,q.mono g⟩
 .rcases Yg h with⟨rfl,Y,_⟩|⟨p,h⟩
  .cases Y
  .obtain⟨b,J,n,q,C,r,w⟩:=s.ow j m h
   exact⟨b,J,n,by rwa [Yl (s.ap j i m l b a h I p n F)],C,r,w.mono g⟩
 .rcases Yg d with⟨rfl,Y,_⟩|⟨p,d⟩
  .cases Y
  .rcases Yg f with⟨rfl,Y,_⟩|⟨N,f⟩
   .cases Y
   .exact s.ap j k m L b c d f y D E
 .rcases Yg h with⟨rfl,Y,_⟩|⟨p,h⟩
  .cases Y
  .obtain⟨b,u,vxs,n,q,C,r,w,M⟩:=s.od j t Z vs h
   obtain⟨S,Q,T⟩:=r.some;exact⟨b,u,vxs,n,by rwa [Yl (λz=>by symm)],C,r.mono g λ_ z=>z,w.mono g,M.mono g⟩
 .rcases Yg d with⟨rfl,Y,_⟩|⟨p,d⟩
  .cases Y
  .rcases Yg f with⟨rfl,Y,_⟩|⟨N,f⟩
   .cases Y
   .exact s.apd j k t Z vs t' A x b c d f y D E
def SR.freeze(s:SR K H0 G0 σ H G ρ)(hi:ρ[i]?=some (some (B.ow l))):∃G',SR K H0 G0 σ H G' (ρ.set i (↑(.lst l))):=by
 obtain⟨G',h,_⟩:=s.freezeT hi;exact⟨G',h⟩
theorem SR.freezedT(s:SR K H0 G0 σ H G ρ)(F:ρ[i]?=some (some (B.od t ks vs))):∃G',SR K H0 G0 σ H G' (ρ.set i (↑(.dct t ks vs)))/\∀b ys,G' b=some (.tup ys)->G b=some (.tup ys):=by
 obtain⟨a,A,vxs,J,M,X,C,O,S⟩:=s.od i t ks vs F;obtain⟨o,T,Y⟩:=C.some
 have d:Same G (upd G a o):=λb o e=>by rwa [Yl (Yk e M)]
 obtain⟨Z,V,W⟩:=C.someT
 refine⟨upd G a o,⟨⟨s.gr.h,s.gr.g.trans d,λb I e=>?_,λb h h'=>?_⟩,by simp[s.len],λj e h=>?_,λj m h=>?_,λj k m P b c f g q u E=>?_,λj t ks vs h=>?_,λj k t ks vs t' D w b c f g q u E=>?_⟩,λb ys e=>by
  by_cases z:b=a
  .subst z;rw[Yh]at e;grind
  .rwa [Yl z]at e⟩
 .by_cases z:b=a
  .subst z;rw[Yh]at e;grind
  .rw[Yl z]at e;exact s.gr.s b I e
 .by_cases z:b=a
  .grind
  .rw[Yl z]at h';exact s.gr.n b h h'
 .rcases Yg h with⟨rfl,e1,_⟩|⟨n,h⟩
  .cases e1
   refine⟨_,J,⟨a,A,vxs,rfl,C.mono d λI z=>?_,O.mono d,S.mono d⟩⟩;rw[T]at z
   rwa [Yh]
  .obtain⟨v,l,p⟩:=s.sh j e h
   exact⟨v,l,p.mono d⟩
 .rcases Yg h with⟨rfl,e1,_⟩|⟨n,h⟩
  .cases e1
  .obtain⟨b,U,l,p,x,y,r⟩:=s.ow j m h
   exact⟨b,U,l,by rwa [Yl (λz=>by grind)],x,y,r.mono d⟩
 .rcases Yg f with⟨rfl,e1,_⟩|⟨n,f⟩
  .cases e1
  .rcases Yg g with⟨rfl,e1,_⟩|⟨N,g⟩
   .cases e1
   .exact s.ap j k m P b c f g q u E
 .rcases Yg h with⟨rfl,e1,_⟩|⟨n,h⟩
  .cases e1
  .obtain⟨b,L,Q,l,p,x,y,r,R⟩:=s.od j t ks vs h
   exact⟨b,L,Q,l,by rwa [Yl (s.apd j i _ _ _ _ _ _ b a h F n l J)],x,y.mono d λ_ z=>z,r.mono d,R.mono d⟩
 .rcases Yg f with⟨rfl,e1,_⟩|⟨n,f⟩
  .cases e1
  .rcases Yg g with⟨rfl,e1,_⟩|⟨N,g⟩
   .cases e1
   .exact s.apd j k t ks vs t' D w b c f g q u E
theorem SR.freezed(s:SR K H0 G0 σ H G ρ)(a:ρ[i]?=some (some (B.od t ks vs))):∃G',SR K H0 G0 σ H G' (ρ.set i (↑(.dct t ks vs))):=by
 obtain⟨G',h,_⟩:=s.freezedT a;grind
def Le(ρ ρ':Ro):Prop:=ρ.length=ρ'.length/\∀(i:Nat) b,ρ[i]?=some (some b)->ρ'[i]?=some (some b)
def SR.le(s:SR K H0 G0 σ H G ρ')(h:Le ρ ρ'):SR K H0 G0 σ H G ρ:=
 ⟨s.gr,s.len.trans h.1.symm,λi d e=>s.sh i d (h.2 i _ e),λi l e=>s.ow i l (h.2 i _ e),λi j l g a b m n=>s.ap i j l g a b (h.2 i _ m) (h.2 j _ n),
  λi t o k e=>s.od i t o k (h.2 i _ e),λi j t o k p f c a b m n=>s.apd i j t o k p f c a b (h.2 i _ m) (h.2 j _ n)⟩
theorem SR.rebase(s:SR K H0 G0 σ H G ρ):∃p,SR K p G σ H G ρ/\∀σ' H' G' ρ',SR K p G σ' H' G' ρ'->SR K H0 G0 σ' H' G' ρ':=by
 classical
 let c:=λa=>∃(i:Nat),((∃l:AN,ρ[i]?=some (some (.ow l)))\/(∃t v u,ρ[i]?=some (some (.od t v u))))/\σ[i]?=some (some (.ref a))
 have B:∀a,c a->H0 a=none:=λa n=>by
  obtain⟨i,x,C⟩:=n;rcases x with⟨l,x⟩|⟨t,v,u,x⟩
  .obtain⟨b,A,d,_,j,_⟩:=s.ow i l x
   grind
  .obtain⟨b,f,w,d,_,j,_⟩:=s.od i t v u x
   grind
 have k:∀a,(if c a then none else H a)=none->_:=λa h=>by
  by_cases o:c a
  .exact B a o
  .rw[if_neg o]at h;exact s.gr.h.free h
 refine⟨λa=>if c a then none else H a,⟨⟨λb o e=>?_,.refl _,s.gr.s,λ_ h y=>absurd h y⟩,s.len,s.sh,λi l e=>?_,s.ap,λi t v u e=>?_,s.apd⟩,λσ' H' G' ρ' t=>⟨⟨λb o e=>?_,s.gr.g.trans t.gr.g,t.gr.s,λb h y=>?_⟩,t.len,t.sh,λi l e=>?_,t.ap,λi r v u e=>?_,t.apd⟩⟩
 .simp_all
 .obtain⟨a,A,d,g,j,m,q⟩:=s.ow i l e
  exact⟨a,A,d,g,if_pos ⟨i,.inl ⟨l,e⟩,d⟩,m,q⟩
 .obtain⟨a,f,w,d,g,j,m⟩:=s.od i t v u e
  exact⟨a,f,w,d,g,if_pos ⟨i,.inr ⟨t,v,u,e⟩,d⟩,m⟩
 .refine t.gr.h b o ?_
  have z:¬c b:=λz=>by ext
  rw[if_neg z];exact s.gr.h b o e
 .by_cases z:G b=none
  .exact k b (t.gr.n b z y)
  .exact s.gr.n b h z
 .obtain⟨a,A,d,g,j,m,q⟩:=t.ow i l e
  ext
 .obtain⟨a,f,w,d,g,j,m⟩:=t.od i r v u e
  grind
end
def tOf(K:W7)(f:AU):TE:=λh H Q=>∃c d b a G,f c=some d/\SR K b a h H G c/\∀v e g,Gr H G e g->Rp K g d v->Q v e
def tCof(K:W7)(f:AU):TE:=λh H Q=>∃e d b a G,f e=some d/\SR K b a h H G e/\∀v c g,Gr H G c g->Ct K g c d v->Q v c
def tCAof(K:W7)(f:AV):TA:=λh H Q=>∃e l b a G,f e=some l/\SR K b a h H G e/\∀g c d,Gr H G c d->lX K d c l g->Q g c
def h9(K:W7)(f:AV):TE:=λh H Q=>∃e l b a G,f e=some l/\SR K b a h H G e/\∀p g d c,Gr H G d c->H p=none->c p=none->d p=some (.lst g)->RpL K c l g->Q (.ref p) d
def tTof(K:W7)(f:AT):TT:=λg H Q=>∃d b c a G,f d=some b/\SR K c a g H G d/\∀e h,Gr H G e h->Q b e
def tAof(K:W7)(f:AV):TA:=λh H Q=>∃e l b a G,f e=some l/\SR K b a h H G e/\∀g d c,Gr H G d c->RpL K c l g->Q g d
def Wk(K:W7)(J:It)(g:Hp)(f:AN):Prop:=f.length<=sizeLine/\∀(i:Nat) a b,Same g b->Same b a->
 (∀d,f[i]?=some d->J.go i a/\∀y e,J.yld i a y e->∃c,Gr a b e c/\Rp K c d y)/\(f.length<=i->J.stop i a)
def n0(K:W7)(f:AV):TI:=λh H R=>∃c e b a G,f c=some e/\SR K b a h H G c/\∀J d g,Gr H G d g->Wk K J g e->R J d
inductive i6 where
 | nx (ρ:Ro)|rt (d:D)|bk (ρ:Ro)|ct (ρ:Ro)
abbrev AR:=Ro->Option i6
def A9(K:W7)(b a:Hp)(F:fA):i6->Prop
 | .nx f=>∀c e g,SR K b a c e g f->F.nx c e
 | .rt d=>∀v e g,Gr b a e g->Rp K g d v->F.rt v e
 | .bk f=>∀c e g,SR K b a c e g f->F.bk c e
 | .ct f=>∀c e g,SR K b a c e g f->F.ct c e
def tX(K:W7)(f:AR):TS:=λF e H=>∃d c b a G,f d=some c/\SR K b a e H G d/\A9 K b a F c
def MN(K:W7)(gt:AS):TG:=λv g H Q=>∃d f e b a G,gt d f=some e/\SR K b a g H G f/\Rp K G d v/\∀c,SR K b a c H G e->Q c H
abbrev ME(X:Cx)(e:Expr)(f:AU):Prop:=PE X e (tOf X.K f)
abbrev MC(X:Cx)(e:Expr)(f:AU):Prop:=PE X e (tCof X.K f)
abbrev tZ(X:Cx)(a:AK)(f:AV):Prop:=PA X a (tCAof X.K f)
abbrev MF(X:Cx)(e:Expr)(f:AV):Prop:=PE X e (h9 X.K f)
abbrev MT(X:Cx)(e:Expr)(f:AT):Prop:=PT X e (tTof X.K f)
abbrev MA(X:Cx)(a:AK)(f:AV):Prop:=PA X a (tAof X.K f)
abbrev MI(X:Cx)(b a:Expr)(f:AV):Prop:=PI X b a (n0 X.K f)
abbrev MS(X:Cx)(st:Stmt)(f:AR):Prop:=PS X st (tX X.K f)
abbrev MB(X:Cx)(a:List Stmt)(f:AR):Prop:=PSs X a (tX X.K f)
abbrev MG(X:Cx)(a:Expr)(gt:AS):Prop:=PG X a (MN X.K gt)
section
def PE.imp(h:PE X e t)(i:∀σ H Q,t' σ H Q->t σ H Q):PE X e t':=λb s σ H Q I a=>h _ s σ H Q I (i σ H Q a)
def PT.imp(h:PT X e t)(i:∀σ H Q,t' σ H Q->t σ H Q):PT X e t':=λb s σ H Q I a=>h _ s σ H Q I (i σ H Q a)
def PA.imp(h:PA X c t)(i:∀σ H Q,t' σ H Q->t σ H Q):PA X c t':=λa d s σ H Q I b=>h a _ s σ H Q I (i σ H Q b)
def PS.imp{st:Stmt}(h:PS X st t)(i:∀F σ H,t' F σ H->t F σ H):PS X st t':=λb s σ H F I a=>h _ s σ H F I (i F σ H a)
def PSs.imp{st:List Stmt}(h:PSs X st t)(i:∀F σ H,t' F σ H->t F σ H):PSs X st t':=λb s σ H F I a=>h _ s σ H F I (i F σ H a)
def PI.imp(h:PI X a e t)(i:∀σ H R,t' σ H R->t σ H R):PI X a e t':=λc s σ H R I b=>h _ s σ H R I (i σ H R b)
def PG.imp(h:PG X e t)(i:∀v σ H Q,t' v σ H Q->t v σ H Q):PG X e t':=λb s σ H v u Q I r a=>h _ s σ H v u Q I r (i v σ H Q a)
variable {H0 G0 H G:Hp}{σ:L2.St}{ρ:Ro}
def tOf.at(e:f ρ=some d)(s:SR K H0 G0 σ H G ρ)(h:∀v H' a,Gr H G H' a->Rp K a d v->SR K H0 G0 σ H' a ρ->Q v H'):tOf K f σ H Q:=
 ⟨ρ,d,H0,G0,G,e,s,λv H' a g r=>h v H' a g r (s.grow g)⟩
def tCof.at(e:f ρ=some d)(s:SR K H0 G0 σ H G ρ)(h:∀v H' a,Gr H G H' a->Ct K a H' d v->SR K H0 G0 σ H' a ρ->Q v H'):tCof K f σ H Q:=
 ⟨ρ,d,H0,G0,G,e,s,λv H' a g r=>h v H' a g r (s.grow g)⟩
def tCAof.at(e:f ρ=some l)(s:SR K H0 G0 σ H G ρ)(h:∀vs H' a,Gr H G H' a->lX K a H' l vs->SR K H0 G0 σ H' a ρ->Q vs H'):tCAof K f σ H Q:=
 ⟨ρ,l,H0,G0,G,e,s,λv H' a g r=>h v H' a g r (s.grow g)⟩
def ME.mc(h:ME X e f):MC X e f:=PE.imp h λk H Q ⟨c,d,b,a,G,e,s,h⟩=>⟨c,d,b,a,G,e,s,λv i j g r=>h v i j g (.of g.s r)⟩
def tTof.at(e:f ρ=some b)(s:SR K H0 G0 σ H G ρ)(h:∀H' a,Gr H G H' a->SR K H0 G0 σ H' a ρ->Q b H'):tTof K f σ H Q:=
 ⟨ρ,b,H0,G0,G,e,s,λH' a g=>h H' a g (s.grow g)⟩
def tAof.at(e:f ρ=some l)(s:SR K H0 G0 σ H G ρ)(h:∀vs H' a,Gr H G H' a->RpL K a l vs->SR K H0 G0 σ H' a ρ->Q vs H'):tAof K f σ H Q:=
 ⟨ρ,l,H0,G0,G,e,s,λv H' a g r=>h v H' a g r (s.grow g)⟩
end
noncomputable def b2{a:Type}(b fb:AU)(g:D->D->Option a):Ro->Option a:=λc=>(b c).bind λx=>(fb c).bind λy=>g x y
noncomputable def b1{a:Type}(b:AU)(g:D->Option a):Ro->Option a:=λc=>(b c).bind g
theorem n3(h:b2 a fb g ρ=some r):∃x y,a ρ=some x/\fb ρ=some y/\g x y=some r:=by
 obtain⟨x,c,h⟩:=qa h;obtain⟨y,b,h⟩:=qa h
 ext
def eL(h:b1 a g ρ=some r):∃x,a ρ=some x/\g x=some r:=by
 obtain⟨x,b,h⟩:=qa h;exact⟨x,b,h⟩
def ec(K:W7)(r:R2)(g:D->D->Option D):Prop:=∀(x y:V) (b a d:D) (H G:Hp) (Q:VK),g b a=some d->Same G H->Ct K G H b x->Ct K G H a y->(∀v e c,Gr H G e c->Rp K c d v->Q v e)->r x y H Q
def eM(K:W7)(r:R2)(g:D->D->Option Bool):Prop:=∀(x y:V) (c a:D) (b:Bool) (H G:Hp) (Q:VK),g c a=some b->Same G H->Ct K G H c x->Ct K G H a y->Q (.bl b) H->r x y H Q
def ee(K:W7)(r:AM->Hp->VK->Prop)(g:AN->Option D):Prop:=∀(a:AM) (c:AN) (d:D) (H G:Hp) (Q:VK),g c=some d->Same G H->lX K G H c a->(∀v b e,Gr H G b e->Rp K e d v->Q v b)->r a H Q
def eN(K:W7)(r:AM->Hp->VK->Prop)(g:AN->Option AN):Prop:=∀(c:AM) (d l:AN) (H G:Hp) (Q:VK),g d=some l->Same G H->lX K G H d c->
 (∀p e b a,Gr H G b a->H p=none->a p=none->b p=some (.lst e)->RpL K a l e->Q (.ref p) b)->r c H Q
section
variable {a b c e:Expr}{fb fc f:AU}
noncomputable def ab(i:Nat):AU:=λa=>match a[i]? with
 | some (some (.sh d))=>some d
 | _=>none
noncomputable def c7(i:Nat):AV:=λa=>match a[i]? with
 | some (some (.ow l))=>some l
 | _=>none
theorem MO(h:ab i ρ=some d):ρ[i]?=some (some (B.sh d)):=by
 unfold ab at h;symm
theorem n4(h:c7 i ρ=some l):ρ[i]?=some (some (B.ow l)):=by
 unfold c7 at h;grind
noncomputable def aa(i:Nat):AU:=λc=>match c[i]? with
 | some (some (.sh d))=>some d
 | some (some (.ow l))=>some (.lst l)
 | some (some (.od t b a))=>some (.dct t b a)
 | _=>none
noncomputable def kD(d:D):AU:=λ_=>some d
abbrev aaa(i:Int):=kD (.int i)
def t4(h:PE X e t)(j:∀σ H Q,Q v H->t σ H Q)(i:∀G,Rp X.K G d v):ME X e (kD d):=
 PE.imp h λσ H Q g=>by
  obtain⟨a,b,l,k,G,e,s,h⟩:=g;cases e;exact j σ H Q (h v H G (.refl s.seen) (i G))
def A_{j}:ME X (.Constant (.int i) j pos) (aaa i):=t4 ye (λ_ _ _ q=>q) λ_=>by rw[Rp]
def Ba{j}:ME X (.Constant (.bool k) j pos) (kD (.bl k)):=t4 yf (λ_ _ _ q=>q) λ_=>by rw[Rp]
def Bb{j}:ME X (.Constant .none j pos) (kD .non):=t4 yg (λ_ _ _ q=>q) λ_=>by rw[Rp]
def n5(m:ec K r g)(h:tOf K (b2 fa fb g) σ H Q):jM r (tCof K fa) (tCof K fb) σ H Q:=by
 obtain⟨c,d,I,J,G,e,s,h⟩:=h;obtain⟨n,C,y,k,z⟩:=n3 e;exact tCof.at y s λv E F p t l=>tCof.at k l λu j B i q x=>m v u n C d j B Q z x.seen (t.grow i) q λw a b o A=>h w a b ((p.trans i).trans o) A
def Bc(m:eM K r g)(h:tTof K (b2 fa fb g) σ H Q):nC (jM r (tCof K fa) (tCof K fb)) σ H Q:=by
 obtain⟨a,d,B,E,G,e,s,h⟩:=h;obtain⟨n,y,t,w,l⟩:=n3 e;exact tCof.at t s λv C A o q z=>tCof.at w z λu j k i p x=>m v u n y d j k _ l x.seen (q.grow i) p ⟨d,rfl,h j k (o.trans i)⟩
noncomputable def mB(f:AT):AU:=λa=>(f a).map .bl
def Bd{f:AT}(h:mB f ρ=some d):∃b,f ρ=some b/\d=.bl b:=by
 obtain⟨b,a,c⟩:=qc h;exact⟨b,a,c.symm⟩
def Be(m:eM K r g)(h:tOf K (mB (b2 fa fb g)) σ H Q):jM r (tCof K fa) (tCof K fb) σ H Q:=by
 obtain⟨a,d,C,F,G,e,s,h⟩:=h;obtain⟨b,o,rfl⟩:=Bd e;obtain⟨n,z,w,x,l⟩:=n3 o;exact tCof.at w s λv E B p t A=>tCof.at x A λu j k i q y=>m v u n z b j k _ l y.seen (t.grow i) q (h _ j k (p.trans i) (by rw[Rp]))
def lY(j:bX X (binaryOp op) r)(i:ec X.K r g)(d:MC X a fa)(c:MC X b fb):ME X (.BinOp a op b pos) (b2 fa fb g):=PE.imp (hV j d c) λ_ _ _ h=>n5 i h
def gO(k:bX X (compareOp op) r)(i:eM X.K r g)(d:MC X a fa)(e:MC X b fb)(j:behindInMarks op b=false):ME X (.Compare a [op] [b] pos) (mB (b2 fa fb g)):=PE.imp (zo k d e j) λ_ _ _ h=>Be i h
def fD(k:bX X (compareOp op) r)(i:eM X.K r g)(d:MC X a fa)(e:MC X b fb)(j:behindInMarks op b=false):MT X (.Compare a [op] [b] pos) (b2 fa fb g):=PT.imp (zp k d e j) λ_ _ _ h=>Bc i h
def j4(j:IxR X r)(i:ec X.K r g)(d:MC X a fa)(c:MC X b fb)(hs:nM b):ME X (.Subscript a b pos) (b2 fa fb g):=PE.imp (Ad j d c hs) λ_ _ _ h=>n5 i h
noncomputable def i2(C:Int->Int->Bool)(g:Int->Int->Int):D->D->Option D
 | .int i,.int j=>if C i j=true then some (.int (g i j))else none
 | _,_=>none
noncomputable def n6(g:Int->Int->Bool):D->D->Option Bool
 | .int i,.int j=>some (g i j)
 | _,_=>none
def t5(k:∀i j,n i j=true->C i j):ec K (rI C λi j=>.int (g i j)) (i2 n g):=by
 intro x y p r d H G Q h s m o q;unfold i2 at h
 split at h
 .split at h
  .rename_i i j l
   cases h;subst m o;exact⟨i,j,rfl,rfl,k i j l,q _ H G (.refl s) (by rw[Rp])⟩
  .cases h
 .cases h
def MQ:ec K (gL λi j=>.int (g i j)) (i2 (λ_ _=>true) g):=by
 intro x y m n d H G Q h s l k q;unfold i2 at h
 split at h
 .split at h
  .rename_i i j o
   cases h;subst l k;exact⟨i,j,rfl,rfl,q _ H G (.refl s) (by rw[Rp])⟩
  .cases h
 .cases h
def lZ:eM K (gL λi j=>.bl (g i j)) (n6 g):=by
 intro x y m n d H G Q h s l k q;unfold n6 at h
 split at h
 .rename_i i j
  cases h;subst l k;exact⟨i,j,rfl,rfl,q⟩
 .cases h
def ef:D->D->Option D:=i2 (λ_ _=>true) λi j=>i+j
def h_:D->D->Option D:=i2 (λ_ _=>true) λi j=>i-j
def gi:D->D->Option D:=i2 (λi j=>decide (-(2^64)<i)&&decide (i<2^64)||(decide (-(2^64)<j)&&decide (j<2^64))) λi j=>i*j
def eO:D->D->Option D:=i2 (λ_ j=>decide (0<j)&&decide (j<1073741824)) λi j=>i/j
def bF:D->D->Option D:=i2 (λ_ j=>decide (0<j)) λi j=>i%j
def eP:=n6 λi j=>decide (i<j)
def MR:=n6 λi j=>decide (i<=j)
def gP:=n6 λi j=>decide (j<i)
mutual
def bB:D->Nat
 | .tup l=>bG l+1
 | .lst l=>bG l+1
 | .scr _=>1
 | .dct _ _ _=>1000
 | .obj _ _ _=>1000
 | .adr _=>1000
 | _=>0
def bG:AN->Nat
 | []=>0
 | d::l=>max (bB d) (bG l)
end
mutual
theorem n7:∀d:D,(aG d).depth<=bB d
 | .non=>by simp[aG,PyData.depth]
 | .bl b=>by simp[aG,PyData.depth]
 | .int b=>by simp[aG,PyData.depth]
 | .str b=>by simp[aG,PyData.depth]
 | .tup l=>by have:=Bf l;simp[aG,PyData.depth,bB];lia
 | .lst l=>by have:=Bf l;simp[aG,PyData.depth,bB];lia
 | .scr ns=>by rw[aG,PyData.depth,bB,W.ke_depthAll];grind
 | .dct _ _ _=>by simp[aG,PyData.depth]
 | .obj _ _ _=>by simp[aG,PyData.depth]
 | .adr _=>by simp[aG,PyData.depth]
theorem Bf:∀l,PyData.depthAll (dt l)<=bG l
 | []=>by simp[dt,PyData.depthAll]
 | d::l=>by have g:=n7 d;have h:=Bf l;simp[dt,PyData.depthAll,bG];lia
end
section
variable {σ:L2.St}{H:Hp}{s:Shared}
mutual
theorem ia(I:Inv X pins σ H s):∀{d:D}{v:V}{u:Value},bB d<=100->Rp X.K H d v->RelV v u->∃j,Reads s.heap u (aG d) j/\(aG d).canLay0=true
 | .non,v,u,_,r,q=>by
   subst r;cases q;exact⟨_,by exact .none,by simp[aG,PyData.canLay0]⟩
 | .bl b,v,u,_,r,q=>by
   subst r;cases q;exact⟨_,by exact .bool b,by simp[aG,PyData.canLay0]⟩
 | .int i,v,u,_,r,q=>by
   subst r;obtain⟨t,rfl⟩:=q;exact⟨_,by exact .int i t,by simp[aG,PyData.canLay0]⟩
 | .str x,v,u,_,r,q=>by
   obtain⟨rfl,G⟩:=r;obtain⟨t,rfl⟩:=q;exact⟨_,by exact .str x t,by simp[aG,PyData.canLay0,G]⟩
 | .tup l,v,u,h,r,q=>by
   obtain⟨a,xs,rfl,g,y⟩:=r;cases q
   obtain⟨_,its,p,C⟩:=(I.hok a _ g)
   obtain⟨o,w,k,n,m⟩:=C;obtain⟨j,q,z⟩:=Bg I (by simp [bB]at h;ac_nf) y p;exact⟨_,.tuple w k m (by simpa using q),by simpa [aG,PyData.canLay0]using z⟩
 | .lst l,v,u,h,r,q=>by
   obtain⟨a,xs,rfl,g,y⟩:=r;cases q;obtain⟨its,p,pl,_⟩:=I.list (.inl g);obtain⟨o,w,k,n,m⟩:=pl.isList;obtain⟨j,q,z⟩:=Bg I (by simp [bB]at h;ac_nf) y p;exact⟨_,.list w k m (by simpa using q),by simpa [aG,PyData.canLay0]using z⟩
 | .dct _ _ _,v,u,h,r,q=>by simp[bB]at h
 | .obj _ _ _,v,u,h,r,q=>by simp[bB]at h
 | .adr _,v,u,h,r,q=>by simp[bB]at h
 | .scr ns,v,u,_,r,q=>by
   obtain⟨a,rfl,g⟩:=r;cases q;obtain⟨its,p,pl,_⟩:=I.list g;exact⟨_,W.reads_of_ints pl.isList (tR p),by rw[aG];simp[PyData.canLay0,W.ke_canLayAll0]⟩
theorem Bg(I:Inv X pins σ H s):∀{l:AN}{xs:AM}{us:AC},bG l<=100->RpL X.K H l xs->Vals xs us->∃j,ReadsAll s.heap us (dt l) j/\PyData.canLayAll0 (dt l)=true
 | [],xs,us,_,r,q=>by
   subst r;cases q;exact⟨_,by exact .nil,by simp[dt,PyData.canLayAll0]⟩
 | d::l,xs,us,h,r,q=>by
   obtain⟨x,xs,rfl,J,E⟩:=r;rw[bG]at h
   cases q with
   | cons B A=>
     obtain⟨j,w,k⟩:=ia I ∅ J B;obtain⟨L,m,F⟩:=Bg I ∅ E A;exact⟨_,by exact .cons w m,by simp[dt,PyData.canLayAll0,k,F]⟩
end
end
theorem l3(l:AN)(d:D):((dt l).any λy=>PyData.eqv y (aG d))=l.any λy=>bp y d:=by
 induction l with
 | nil=>simp[dt]
 | cons e l g=>
   rw[dt,List.any_cons,g];rfl
def az(g:Bool):D->D->Option Bool:=λd e=>if bB d<=60/\bB e<=60 then some (if g then !bp d e else bp d e)else none
def j5(K:W7)(g:Bool):R2:=λx y H Q=>∃d e,Rp K H d x/\Rp K H e y/\(bB d<=60/\bB e<=60)/\Q (.bl (if g then !bp d e else bp d e)) H
theorem n8(r:X.A.units+64<cLine):bX X (compareOp .Eq) (j5 X.K false):=by
 intro b s p H x y v u Q I m c h;obtain⟨d,e,n,j,t,q⟩:=h;obtain⟨g,i,o⟩:=ia I ∅ n m;obtain⟨l,k,f⟩:=ia I ∅ j c;exact SeqAt.eqOverData _ X.w X.A _ s v u _ _ g l _ i k o f (by have:=n7 e;ac_nf) ⟨.bl _,H,I,rfl,q⟩
theorem n9(z:X.A.units+64<cLine):bX X (compareOp .NotEq) (j5 X.K true):=by
 intro b s c H x y v u Q I o i h;obtain⟨d,e,m,j,w,q⟩:=h;obtain⟨r,p,k⟩:=ia I ∅ m o;obtain⟨n,t,l⟩:=ia I ∅ j i;exact SeqAt.neOverData _ X.w X.A _ s v u _ _ r n _ p t k l (by have:=n7 d;symm) ⟨.bl _,H,I,rfl,q⟩
theorem t6:eM K (j5 K d) (az d):=by
 intro x y i j b H G Q h s k g q;unfold az at h
 split at h
 .cases h
  exact⟨i,j,k.rp s,g.rp s,by assumption,q⟩
 .cases h
noncomputable def Yc:D->Option AN
 | .tup l=>some l
 | .lst l=>some l
 | .scr a=>some (a.map .int)
 | _=>none
def gQ(d:D)(l:AN):Bool:=l.any λy=>bp y d
def cb(g:Bool):D->D->Option Bool:=λd c=>(Yc c).bind λl=>if bG l<=60/\bB d<=60 then some (if g then !gQ d l else gQ d l)else none
def j6(K:W7)(g:Bool):R2:=λx y H Q=>∃d c l,Rp K H d x/\Rp K H c y/\Yc c=some l/\(bG l<=60/\bB d<=60)/\Q (.bl (if g then !gQ d l else gQ d l)) H
def ic{c:D}(h:Yc c=some l):c=.tup l\/c=.lst l\/∃ns,c=.scr ns/\l=ns.map D.int:=by
 cases c with
 | tup m=>cases h;exact .inl rfl
 | lst m=>cases h;exact .inr (.inl rfl)
 | scr ns=>cases h;exact .inr (.inr ⟨ns,rfl,rfl⟩)
 | non=>cases h
 | bl _=>cases h
 | int _=>cases h
 | str _=>cases h
 | dct _ _ _=>cases h
 | obj _ _ _=>cases h
 | adr _=>cases h
theorem Bh:∀ns:AF,dt (ns.map D.int)=ns.map PyData.int
 | []=>by simp[dt]
 | n::ns=>by simp[dt,aG,Bh ns]
theorem n_(B:X.A.units+64<cLine):bX X (compareOp .In) (j6 X.K false):=by
 intro b s f H x y v u Q I t o h;obtain⟨d,c,l,p,w,n,C,q⟩:=h;obtain⟨E,m,k⟩:=ia I ∅ p t
 have r:bB c<=61:=by
  rcases ic n with rfl|rfl|⟨e,rfl,rfl⟩
  .rw[bB];ext
  .rw[bB];ext
  .rw[bB];ac_nf
 obtain⟨A,j,i⟩:=ia I ∅ w o;have z:=n7 d;rcases ic n with rfl|rfl|⟨e,rfl,rfl⟩
 .rw[aG]at j i
  exact SeqAt.in_tuple_reads j m (by simpa [PyData.canLay0]using i) k ∅ ⟨.bl _,H,I,rfl,by rwa [l3]⟩
 .rw[aG]at j i
  exact SeqAt.in_list_reads j m (by simpa [PyData.canLay0]using i) k ∅ ⟨.bl _,H,I,rfl,by rwa [l3]⟩
 .rw[aG,<-Bh]at j i
  exact SeqAt.in_list_reads j m (by simpa [PyData.canLay0]using i) k ∅ ⟨.bl _,H,I,rfl,by rwa [l3]⟩
theorem SK(B:X.A.units+64<cLine):bX X (compareOp .NotIn) (j6 X.K true):=by
 intro b s f H x y v u Q I t o h;obtain⟨d,c,l,p,w,n,C,q⟩:=h;obtain⟨E,m,k⟩:=ia I ∅ p t
 have r:bB c<=61:=by
  rcases ic n with rfl|rfl|⟨e,rfl,rfl⟩
  .rw[bB];ac_nf
  .rw[bB];ac_nf
  .rw[bB];ac_nf
 obtain⟨A,j,i⟩:=ia I ∅ w o;have z:=n7 d;rcases ic n with rfl|rfl|⟨e,rfl,rfl⟩
 .rw[aG]at j i
  exact SeqAt.notIn_tuple_reads j m (by simpa [PyData.canLay0]using i) k ∅ ⟨.bl _,H,I,rfl,by rwa [l3]⟩
 .rw[aG]at j i
  exact SeqAt.notIn_list_reads j m (by simpa [PyData.canLay0]using i) k ∅ ⟨.bl _,H,I,rfl,by rwa [l3]⟩
 .rw[aG,<-Bh]at j i
  exact SeqAt.notIn_list_reads j m (by simpa [PyData.canLay0]using i) k ∅ ⟨.bl _,H,I,rfl,by rwa [l3]⟩
theorem Bi:eM K (j6 K d) (cb d):=by
 intro x y i k b H G Q h s m g q;obtain⟨l,j,h⟩:=qa h
 split at h
 .cases h
  exact⟨i,k,l,m.rp s,g.rp s,j,by assumption,q⟩
 .cases h
end
section
variable {a b c e:Expr}{fb f:AU}{fc:AT}
noncomputable def aD:D->Option Bool
 | .non=>some false
 | .bl b=>some b
 | .int i=>some (i != 0)
 | .tup l=>some (!l.isEmpty)
 | .lst l=>some (!l.isEmpty)
 | .scr a=>some (!a.isEmpty)
 | .str _=>none
 | .dct _ _ _=>none
 | .obj _ _ _=>none
 | .adr _=>none
theorem Bj(h:aD d=some k)(r:Ct X.K G H d v):jR X.K v H k:=by
 cases d with
 | non=>subst r;cases h;rfl
 | bl b=>subst r;cases h;rfl
 | int i=>subst r;cases h;rfl
 | str x=>cases h
 | dct _ _ _=>cases h
 | obj _ _ _=>cases h
 | adr _=>cases h
 | tup l=>
   obtain⟨a,c,rfl,g,j⟩:=r;cases h;refine .inr (.inl ⟨c,.inl (.inl g.1),?_⟩);have:=j.length;grind
 | lst l=>
   obtain⟨a,c,rfl,g,j⟩:=r;cases h;refine .inl ⟨c,.inl g,?_⟩;have:=j.length;grind
 | scr e=>
   obtain⟨a,rfl,g⟩:=r;cases h;refine .inl ⟨_,g,?_⟩;cases e<;>simp
def bC(fc fd:AT):AT:=λa=>(fc a).bind λk=>if k=true then fd a else some false
noncomputable def du(fc fd:AT):AT:=λa=>(fc a).bind λk=>if k=true then some true else fd a
noncomputable def bu(fc:AT):AT:=λa=>(fc a).map (!·)
abbrev MW(X:Cx)(e:Expr)(f:AT):Prop:=PW X e (tTof X.K f)
def PW.imp(h:PW X e t)(i:∀σ H Q,t' σ H Q->t σ H Q):PW X e t':=λd a s σ H Q I g=>h d _ s σ H Q I (i σ H Q g)
theorem Bm(h:tTof K (bC fc fd) σ H Q):nq (tTof K fc) (tTof K fd) σ H Q:=by
 obtain⟨a,k,p,r,G,e,s,h⟩:=h;unfold bC at e;obtain⟨g,j,e⟩:=qa e;refine tTof.at j s λq o d l=>?_
 cases g with
 | true=>
   rw[if_pos rfl]at e ⊢;exact tTof.at e l λi m n _=>h i m (d.trans n)
 | false=>
   grind
theorem Bn(h:tTof K (du fc fd) σ H Q):LS (tTof K fc) (tTof K fd) σ H Q:=by
 obtain⟨a,k,p,r,G,e,s,h⟩:=h;unfold du at e;obtain⟨g,j,e⟩:=qa e;refine tTof.at j s λq o d l=>?_
 cases g with
 | false=>
   rw[if_neg qi]at e ⊢;exact tTof.at e l λi m n _=>h i m (d.trans n)
 | true=>
   symm
noncomputable def gR:D->Option Bool
 | .bl b=>some b
 | _=>none
def Bp(h:gR d=some k):d=.bl k:=by cases d<;>simp[gR]at h;subst h;rfl
def bO(fa fb:AU):AU:=λa=>(b1 fa gR a).bind λk=>if k=true then fb a else some (.bl false)
def ig(fa fb:AU):AU:=λρ=>(b1 fa gR ρ).bind λk=>if k=true then some (.bl true)else fb ρ
def ij(fa:AU):AU:=λa=>(b1 fa gR a).map λk=>.bl (!k)
noncomputable def l4(fc:AT)(fa fb:AU):AU:=λa=>(fc a).bind λk=>if k=true then fa a else fb a
noncomputable def i7:D->Bool
 | .non=>true
 | _=>false
def MU(r:Ct K G H d v):decide (v=V.non)=i7 d:=by
 cases d with
 | non=>subst r;rfl
 | bl _=>subst r;rfl
 | int _=>subst r;rfl
 | str _=>obtain⟨rfl,_⟩:=r;rfl
 | tup _=>obtain⟨_,_,rfl,_⟩:=r;rfl
 | lst _=>obtain⟨_,_,rfl,_⟩:=r;rfl
 | scr _=>obtain⟨_,rfl,_⟩:=r;rfl
 | dct _ _ _=>obtain⟨_,_,_,rfl,_⟩:=r;rfl
 | obj _ _ _=>obtain⟨_,_,_,_,rfl,_⟩:=r;rfl
 | adr _=>subst r;rfl
def cj(g:Bool):D->D->Option Bool:=λd e=>if i7 e then some (if g then !i7 d else i7 d)else none
def MV:eM K (λx y H Q=>y=.non/\Q (.bl (decide (x=.non))) H) (cj false):=by
 intro x y k i b H G Q h s g j q;unfold cj at h
 split at h
 .rename_i d
  cases h;cases i<;>simp[i7]at d;exact⟨j,by rwa [MU g]⟩
 .cases h
def MX:eM K (λx y H Q=>y=.non/\Q (.bl (!decide (x=.non))) H) (cj true):=by
 intro x y k i b H G Q h s g j q;unfold cj at h
 split at h
 .rename_i d
  cases h;cases i<;>simp[i7]at d;exact⟨j,by rwa [MU g]⟩
 .cases h
def ai:D->D->Option D
 | c,.int i=>(Yc c).bind λl=>aY l i
 | _,_=>none
theorem Bq(r:RpL K G l xs)(h:aY l i=some d):∃x,aY xs i=some x/\Rp K G d x:=by
 unfold aY at h ⊢;rw[r.length];obtain⟨j,k,g⟩:=qa h;obtain⟨x,m,n⟩:=r.get g
 ext
def Br:ec X.K (Mi X.K) ai:=by
 intro x y u w d H G Q h s n r q;unfold ai at h
 split at h
 .rename_i c i
  obtain⟨l,t,m⟩:=qa h;subst r;rcases ic t with rfl|rfl|⟨b,rfl,rfl⟩
  .obtain⟨p,a,rfl,g,o⟩:=n
   obtain⟨v,k,j⟩:=Bq o m;exact .inr (.inl ⟨p,a,i,v,rfl,rfl,.inl (.inl g.1),k,q v H G (.refl s) j⟩)
  .obtain⟨p,a,rfl,g,o⟩:=n
   obtain⟨v,k,j⟩:=Bq o m;exact .inl ⟨p,a,i,v,rfl,rfl,.inl g,k,q v H G (.refl s) j⟩
  .obtain⟨p,rfl,g⟩:=n
   obtain⟨v,k,j⟩:=Bq (.ints b) m;exact .inl ⟨p,_,i,v,rfl,rfl,g,k,q v H G (.refl s) j⟩
 .cases h
def eh:D->Option Int
 | .int i=>some i
 | _=>none
def eQ(f:Option AU):Ro->Option (Option Int):=λa=>match f with
 | none=>some none
 | some f=>(b1 f eh a).map some
def cL(l:AN)(lo g:Option Int):AN:=(l.drop (HT.sIx l.length 0 lo)).take (HT.sIx l.length l.length g-HT.sIx l.length 0 lo)
noncomputable def oa:D->Option AN
 | .lst l=>some l
 | .scr a=>some (a.map .int)
 | _=>none
def SM(h:oa d=some l)(r:Ct K G H d v):∃p xs,v=.ref p/\SqL K H p xs/\RpL K G l xs:=by
 cases d with
 | lst m=>
   cases h;obtain⟨p,xs,e,g,q⟩:=r;exact⟨p,xs,e,.inl g,q⟩
 | scr a=>
   cases h;obtain⟨p,e,g⟩:=r;exact⟨p,_,e,g,.ints a⟩
 | non=>cases h
 | bl _=>cases h
 | int _=>cases h
 | str _=>cases h
 | tup _=>cases h
 | dct _ _ _=>cases h
 | obj _ _ _=>cases h
 | adr _=>cases h
abbrev tO(K:W7)(f:Option AU):TO:=match f with
 | none=>Mf
 | some f=>nL (tCof K f)
def oe{f:Option AU}(e:eQ f ρ=some i)(s:SR K q r σ H G ρ)(h:∀H' a,Gr H G H' a->SR K q r σ H' a ρ->Q i H'):tO K f σ H Q:=by
 cases f with
 | none=>
   cases e;exact h H G (.refl s.seen) s
 | some f=>
   obtain⟨k,p,rfl⟩:=qc e;obtain⟨d,n,g⟩:=eL p
   refine tCof.at n s λv l t o j m=>⟨k,?_,h l t o m⟩
   cases d<;>simp[eh]at g;subst g;exact j
def Bs:PO X none (tO X.K none):=z0
noncomputable def lF(f:AV):AU:=λa=>(f a).map .lst
def MF.me(h:MF X e g):ME X e (lF g):=PE.imp h λw H Q i=>by
 obtain⟨a,d,m,u,G,e,s,h⟩:=i;obtain⟨l,t,rfl⟩:=qc e
 exact⟨a,l,m,u,G,t,s,λp f c v g k j n r=>h _ c _ (g.show k j n) (by
  refine⟨p,f,rfl,.inl Yh,r.mono λb o q=>?_⟩
  rwa [Yl (Yk q j)])⟩
def ae:AV:=λ_=>some []
noncomputable def Yb(f:AU)(g:AV):AV:=λa=>(f a).bind λd=>(g a).map (d::·)
def og:MA X [] ae:=PA.imp gM λb H Q d=>by
 obtain⟨a,l,i,g,G,e,s,h⟩:=d;cases e;exact h [] H G (.refl s.seen) .nil
def MY(p:ME X e f)(k:MA X es ga)(hs:aab X e es:=by rfl):MA X (e::es) (Yb f ga):=PA.imp (fT p k hs) λc H Q g=>by
 obtain⟨a,l,w,A,G,e,s,h⟩:=g;obtain⟨d,t,e⟩:=qa e;obtain⟨y,m,rfl⟩:=qc e;exact tOf.at t s λv z x r q o=>tAof.at m o λb j u i n _=>h _ j u (r.trans i) (.cons (q.mono i.g) n)
def i8:tZ X [] ae:=PA.imp gM λb H Q d=>by
 obtain⟨a,l,i,g,G,e,s,h⟩:=d;cases e;exact h [] H G (.refl s.seen) rfl
def i9(p:MC X e f)(k:tZ X es ga)(hs:aab X e es:=by rfl):tZ X (e::es) (Yb f ga):=PA.imp (fT p k hs) λc H Q g=>by
 obtain⟨b,l,w,A,G,e,s,h⟩:=g;obtain⟨d,t,e⟩:=qa e;obtain⟨y,m,rfl⟩:=qc e;exact tCof.at t s λv z x r q o=>tCAof.at m o λa j u i n _=>h _ j u (r.trans i) ⟨v,a,rfl,q.grow i,n⟩
noncomputable def aA:Nat:=1000000
def gj(h:n<=aA):n<=sizeLine:=Qg h (by decide)
def av(ga:AV):AU:=λa=>(ga a).bind λl=>if l.length<=aA then some (.tup l)else none
def bJ(ga:AV):AV:=λa=>(ga a).bind λl=>if l.length<=aA then some l else none
noncomputable def cC(ga:AV)(g:AN->Option D):AU:=λa=>(ga a).bind g
noncomputable def cF(ga:AV)(g:AN->Option AN):AV:=λa=>(ga a).bind g
def oh(m:ee K r g)(h:tOf K (cC ga g) σ H Q):tM r (tCAof K ga) σ H Q:=by
 obtain⟨f,d,w,x,G,e,s,h⟩:=h;obtain⟨l,t,n⟩:=qa e;exact tCAof.at t s λa k i u p j=>m a l d k i Q n j.seen p λv b c q o=>h v b c (u.trans q) o
def MZ(m:eN K r g)(h:h9 K (cF ga g) σ H Q):tM r (tCAof K ga) σ H Q:=by
 obtain⟨B,d,z,A,G,e,s,h⟩:=h;obtain⟨l,v,n⟩:=qa e;exact tCAof.at v s λa k j i t w=>m a l d k j Q n w.seen t λp b f c u x q y o=>h p b f c (i.trans u) (i.h.free x) q y o
section
variable {x:Str}{p:Pos}{id T:String}{r:AM->Hp->VK->Prop}{g:AN->Option D}{gf:AN->Option AN}
end
def dh(K:W7)(n:Nat)(g:AN->Option D):Sp:=λa H Q _=>a.length=n/\∃c d G,Same G H/\RpL K G c a/\g c=some d/\∀v b e,Gr H G b e->Rp K e d v->Q v b
theorem Bt{p:Pos}(F:cB X.prog X.w X.K X.mg X.base dY k g m ps (dh X.K n A))(E:Room k X.A)(z:Gl X x)(a:X.mg x=some (.ref g))(u:W.keepIn X.K (.ref g)=true)(D:Binds X.K m ps [])(L:MA X (e::es) ga)(o:da x:=by decide)(w:starEach (e::es) X.env=(false,eval e X.env)::starEach es X.env:=by rfl)(j:(backTo pos (starEach es X.env)).any (·.1)=false:=by rfl)(R:∀ρ l,ga ρ=some l->l.length=n):ME X (.Call (.Name x p) (e::es) [] pos) (cC ga A):=
 PE.imp (L5 F E z a u D .nil nT L o w j) λM H Q i=>by
  obtain⟨ρ,d,N,O,G,e,s,h⟩:=i;obtain⟨l,t,C⟩:=qa e;refine tAof.at t s λK P B J q r=>?_;rw[w6];exact⟨by rw[q.length];grind,l,d,B,r.seen,q,C,λv b c I y=>h v b c (J.trans I) y⟩
def Bu(h:ae ρ=some l):l.length=0:=by cases h;rfl
theorem l5(i:∀ρ l,g ρ=some l->l.length=n):∀ρ l,Yb f g ρ=some l->l.length=n+1:=λρ l h=>by
 obtain⟨d,k,e⟩:=qa h;obtain⟨m,j,rfl⟩:=qc e;grind
def bw:AN->Option D
 | [c]=>(Yc c).map λl=>.int l.length
 | _=>none
def oi{c:D}(h:Yc c=some l)(r:Ct K G H c v):∃p xs,v=.ref p/\(SqL K H p xs\/SqT K H p xs)/\RpL K G l xs:=by
 rcases ic h with rfl|rfl|⟨a,rfl,rfl⟩
 .obtain⟨p,xs,rfl,g,d⟩:=r
  exact⟨p,xs,rfl,.inr (.inl (.inl g.1)),d⟩
 .obtain⟨p,xs,rfl,g,d⟩:=r
  exact⟨p,xs,rfl,.inl (.inl g),d⟩
 .obtain⟨p,rfl,g⟩:=r
  exact⟨p,_,rfl,.inl g,.ints a⟩
def l6(h:RpL K G [d] vs):∃v,vs=[v]/\Rp K G d v:=by
 rw[RpL]at h;obtain⟨x,r,rfl,h1,h2⟩:=h;rw[RpL]at h2;subst h2;exact⟨x,rfl,h1⟩
theorem fq(h:lX K G H [d] vs):∃v,vs=[v]/\Ct K G H d v:=by
 obtain⟨x,r,rfl,i,g⟩:=h;cases (g);grind
def Bv:ee X.K (λxs H Q=>∃p ys,xs=[.ref p]/\(SqL X.K H p ys\/SqT X.K H p ys)/\Q (.int ys.length) H) bw:=by
 intro b a d H G Q h s r q
 match a,h,r with
 | [c],h,r=>
   obtain⟨l,k,rfl⟩:=qc h;obtain⟨v,rfl,g⟩:=fq r;obtain⟨p,xs,rfl,j,i⟩:=oi k g;exact⟨p,xs,rfl,j,q _ H G (.refl s) (by rw[Rp,i.length])⟩
def eR:AN->Option AN
 | [c]=>Yc c
 | _=>none
def Bw:eN X.K (λxs H Q=>∃p ys,xs=[.ref p]/\(SqL X.K H p ys\/SqT X.K H p ys)/\∀l,H l=none->Q (.ref l) (upd H l (.lst ys))) eR:=by
 intro b a l H G Q h s r q
 match a,h,r with
 | [c],h,r=>
   obtain⟨v,rfl,j⟩:=fq r;obtain⟨p,xs,rfl,i,g⟩:=oi h j;exact⟨p,xs,rfl,i,λm d=>q m xs _ G (.hid s d _) d (s.free d) Yh g⟩
def cc:AN->Option D
 | [c]=>(Yc c).map .tup
 | _=>none
theorem Bx:ee X.K (λxs H Q=>∃p ys,xs=[.ref p]/\((SqL X.K H p ys/\∀l,H l=none->Q (.ref l) (upd H l (.tup ys)))\/(SqT X.K H p ys/\Q (.ref p) H))) cc:=by
 intro e b d H G Q h s r q
 match b,h,r with
 | [c],h,r=>
   obtain⟨l,n,rfl⟩:=qc h;obtain⟨v,rfl,j⟩:=fq r;rcases ic n with rfl|rfl|⟨a,rfl,rfl⟩
   .obtain⟨p,xs,rfl,g,k⟩:=j
    exact⟨p,xs,rfl,.inr ⟨.inl (.inl g.1),q _ H G (.refl s) (by rw[Rp];ext)⟩⟩
   .obtain⟨p,xs,rfl,g,k⟩:=j
    exact⟨p,xs,rfl,.inl ⟨.inl g,λm i=>q _ _ _ (.new s i _) (⟨m,xs,rfl,Yh,k.mono (Gr.new s i _).g⟩)⟩⟩
   .obtain⟨p,rfl,g⟩:=j
    exact⟨p,_,rfl,.inl ⟨g,λm i=>q _ _ _ (.new s i _) (⟨m,_,rfl,Yh,.ints a⟩)⟩⟩
end
section
variable {e:Expr}{f:AU}
def au:AR:=λa=>some (.nx a)
noncomputable def ag(f g:AR):AR:=λb=>(f b).bind fun
 | .nx a=>g a
 | o=>some o
def By:MB X [] au:=PSs.imp yB λF d H a=>by
 obtain⟨g,f,c,b,G,e,s,h⟩:=a;cases e;exact h d H G s
noncomputable def frz1(i:Nat)(ρ:Ro):Ro:=match ρ[i]? with
 | some (some (.ow l))=>ρ.set i (↑(.lst l))
 | some (some (.od t b a))=>ρ.set i (↑(.dct t b a))
 | _=>ρ
def SR.frz1(s:SR K H0 G0 σ H G ρ)(i:Nat):∃G',SR K H0 G0 σ H G' (M.frz1 i ρ):=by
 unfold M.frz1
 split
 .rename_i l hl
  exact s.freeze hl
 .rename_i t ks vs hl
  exact s.freezed hl
 .exact⟨G,s⟩
def frz(a:AE)(ρ:Ro):Ro:=a.foldl (λr i=>frz1 i r) ρ
theorem SR.frz:∀(a:AE) {G:Hp}{ρ:Ro},SR K c b σ H G ρ->∃d,SR K c b σ H d (M.frz a ρ)
 | [],G,_,s=>⟨G,s⟩
 | i::a,_,ρ,s=>by
   obtain⟨d,e⟩:=s.frz1 i;exact SR.frz a e
def SR.frz1T(s:SR K H0 G0 σ H G ρ)(i:Nat):∃G',SR K H0 G0 σ H G' (M.frz1 i ρ)/\∀b ys,G' b=some (.tup ys)->G b=some (.tup ys):=by
 unfold M.frz1
 split
 .rename_i l hl
  exact s.freezeT hl
 .rename_i t ks vs hl
  exact s.freezedT hl
 .exact⟨G,s,λ_ _ h=>h⟩
theorem SR.frzT:∀(a:AE) {G:Hp}{ρ:Ro},SR K j c σ H G ρ->∃f,SR K j c σ H f (M.frz a ρ)/\∀b ys,f b=some (.tup ys)->G b=some (.tup ys)
 | [],G,_,s=>⟨G,s,λ_ _ h=>h⟩
 | i::a,_,ρ,s=>by
   obtain⟨f,m,g⟩:=s.frz1T i;obtain⟨k,l,d⟩:=SR.frzT a m;exact⟨k,l,λb ys e=>g b ys (d b ys e)⟩
def wF(a:AE)(f:AR):AR:=λb=>f (frz a b)
noncomputable def ar(i:Nat)(f:AU):AR:=λa=>(f a).map λd=>.nx (a.set i (↑d))
noncomputable def bc(i:Nat)(f:AV):AR:=λa=>(f a).map λl=>.nx (a.set i (some (.ow l)))
def Bz(h:tX K (ar i f) F σ H):gc (tOf K f) (lR i) F σ H:=by
 obtain⟨o,n,m,l,G,e,s,h⟩:=h;obtain⟨d,c,rfl⟩:=qc e;exact tOf.at c s λv b j k a g=>h _ b j (g.set_sh i a)
def BA(h:tX K (bc i gl) F σ H):gc (h9 K gl) (lR i) F σ H:=by
 obtain⟨o,m,d,k,G,e,s,h⟩:=h;obtain⟨l,c,rfl⟩:=qc e;exact⟨o,l,d,k,G,c,s,λp q n f g a j b r=>h _ n f (s.set_ow i g a j b r)⟩
noncomputable def ah(f:AU):AR:=λa=>(f a).map .rt
noncomputable def aP(c:AT)(f g:AR):AR:=λa=>(c a).bind λk=>if k=true then f a else g a
def j7(i:Nat)(f:AU):AR:=λc=>(ab i c).bind λx=>(f c).bind λy=>(i2 (λ_ _=>true) (λa b=>a+b) x y).map λz=>.nx (c.set i (↑z))
def cM(i:Nat)(f:AU)(g:AN->D->Option AN):AR:=λb=>(c7 i b).bind λl=>(f b).bind λd=>(g l d).map λa=>.nx (b.set i (some (.ow a)))
theorem t7(s:SR K k b σ H G ρ)(h:c7 i ρ=some l):∃a xs,σ[i]?=some (some (V.ref a))/\H a=some (.lst xs)/\RpL K G l xs/\G a=none:=by
 obtain⟨a,xs,j,g,c,d,m⟩:=s.ow i l (n4 h)
 ext
def bY(l:AN)(d:D):Option AN:=if l.length<aA then some (l++[d])else none
def oj(l:ds.length<=sizeLine)(h:∀(i:Nat) a b,Same G' b->Same b a->(∀d,ds[i]?=some d->J.go i a/\∀y g,J.yld i a y g->g=a/\Rp K b d y)/\(ds.length<=i->J.stop i a)):Wk K J G' ds:=
 ⟨l,λi a b j c=>⟨λd k=>⟨((h i a b j c).1 d k).1,λy g q=>by
  obtain⟨rfl,r⟩:=((h i a b j c).1 d k).2 y g q
  exact⟨b,.refl c,r⟩⟩,(h i a b j c).2⟩⟩
def BC(K:W7)(c:TE):TI:=λe H R=>c e H λx b=>∃a d,x=.ref a/\((SqL K b a d/\(d.length<=sizeLine->R (LY K a) b))\/(SqT K b a d/\(d.length<=sizeLine->R (LZ K a) b)))
theorem BD(t:PE X l u):PI X tg l (BC X.K u):=by
 intro w s z H R I h;refine aM (t _ s z H _ I h) λv d k=>?_;obtain⟨x,m,c,n,j⟩:=k;obtain⟨a,A,e,j⟩:=j;subst e;cases n;rcases j with⟨i,q⟩|⟨i,q⟩
 .obtain⟨f,r,p,g⟩:=c.list i
  refine wpAny_pyIter_list p.isList (⟨d.heap.objs.size,[d.heap.objs.size],_,_,m,rfl,c.kept λb o e=>qe _ e,RQ a _,⟨_,qp _ rfl,rfl,rfl⟩,λb y=>?_,q g⟩)
  have e:b=d.heap.objs.size:=by symm
  subst e;exact c.fpOk (qv _) (c.hok.fresh (qv _))
 .obtain⟨f,r,p,g⟩:=c.tuple i
  refine wpAny_pyIter_tuple (p) (⟨d.heap.objs.size,[d.heap.objs.size],_,_,m,rfl,c.kept λb o e=>qe _ e,RT a _,⟨_,qp _ rfl,rfl,rfl⟩,λb y=>?_,q g⟩)
  have e:b=d.heap.objs.size:=by symm
  subst e;exact c.fpOk (qv _) (c.hok.fresh (qv _))
noncomputable def di(a n:Int):AN:=(List.range (n-a).toNat).map λi=>.int (a+(i:Nat))
def M0(a n:Int):(di a n).length=(n-a).toNat:=by simp[di]
theorem om(k:(n-a).toNat<=sizeLine):Wk K (ny a (n-a).toNat) G' (di a n):=
 oj (by rwa [M0]) λi h g _ _=>⟨λd c=>by
  unfold di at c;rw[Qm]at c;obtain⟨j,b,rfl⟩:=qc c
  have e:i<(n-a).toNat:=by
   have:=(qo b).1;simpa using this
  rw[List.getElem?_range e]at b;cases b
  exact⟨e,λy l q=>⟨q.1,q.2⟩⟩,λf=>by rwa [M0]at f⟩
def cU:AN->Option AN
 | [.int n]=>if decide (-aA<=n)&&decide (n<=aA)then some (di 0 n)else none
 | _=>none
def eS:AN->Option AN
 | [.int a,.int n]=>if decide (-aA<=a)&&decide (a<=aA)&&decide (-aA<=n)&&decide (n<=aA)then some (di a n)else none
 | _=>none
theorem SN(h:cU l=some b):∃n:Int,l=[.int n]/\-1000000<=n/\n<=1000000/\b=di 0 n:=by
 unfold cU at h
 split at h
 .split at h
  .have a:aA=1000000:=by decide
   ext
  .cases h
 .cases h
theorem SQ(h:eS l=some ds):∃a n:Int,l=[.int a,.int n]/\-1000000<=a/\a<=1000000/\-1000000<=n/\n<=1000000/\ds=di a n:=by
 unfold eS at h
 split at h
 .rename_i a n
  split at h
  .rename_i c
   cases h;simp [wm]at c
   have b:(aA:Int)=1000000:=by decide
   exact⟨a,n,rfl,by ext,by ext,by ext,by ext,rfl⟩
  .cases h
 .cases h
noncomputable def aj(i:Nat):AS:=λd a=>some (a.set i (↑d))
noncomputable def fU(i j:Nat):AS:=λd c=>match d with
 | .tup [a,b]=>some ((c.set i (↑a)).set j (↑b))
 | _=>none
noncomputable def forM(gt:AS)(fb:AR):AN->AR
 | [],ρ=>some (.nx ρ)
 | d::ds,ρ=>(gt d ρ).bind λb=>(fb b).bind fun
   | .nx a=>forM gt fb ds a
   | .ct a=>forM gt fb ds a
   | .bk a=>some (.nx a)
   | .rt d=>some (.rt d)
def bf(gl:AV)(gt:AS)(fb:AR):AR:=λa=>(gl a).bind λb=>forM gt fb b a
theorem M3:∀(f:AN) (ρ:Ro) (e:i6),forM gt fb f ρ=some e->(∃ρ',e=.nx ρ')\/∃d,e=.rt d
 | [],ρ,e,h=>by cases h;grind
 | d::f,ρ,e,h=>by
   obtain⟨b,g,h⟩:=qa h;obtain⟨o,c,h⟩:=qa h
   cases o with
   | nx a=>exact M3 f a e h
   | ct a=>exact M3 f a e h
   | bk a=>grind
   | rt d=>grind
noncomputable def dv(fc:AT)(fb:AR):Nat->AR
 | 0,_=>none
 | n+1,ρ=>(fc ρ).bind λk=>if k=true then (fb ρ).bind fun
  | .nx ρ2=>dv fc fb n ρ2
  | .ct ρ2=>dv fc fb n ρ2
  | .bk ρ2=>some (.nx ρ2)
  | .rt d=>some (.rt d)
  else some (.nx ρ)
noncomputable def ao(a:List AL)(ρ:Ro):Ro:=a.map λo=>o.bind λj=>match ρ[j]? with
 | some (some (.sh d))=>some (.sh d)
 | _=>none
theorem SR.cap(s:SR K p n σ H G ρ)(e:List AL):SR K H G (dA e σ) H G (ao e ρ):=by
 refine .mkSh (.refl s.seen) (by simp[dA,ao]) (λi d h=>?_) (λi l h=>by
  unfold ao at h;rw[Qm]at h;obtain⟨o,c,b⟩:=qc h;obtain⟨j,rfl,a⟩:=qa b
  split at a<;>cases a) (λi t r f h=>by
  unfold ao at h;rw[Qm]at h;obtain⟨o,c,b⟩:=qc h;obtain⟨j,rfl,a⟩:=qa b
  split at a<;>cases a)
 unfold ao at h;rw[Qm]at h;obtain⟨o,c,b⟩:=qc h;obtain⟨j,rfl,a⟩:=qa b
 split at a
 .rename_i q k
  cases a;obtain⟨v,m,g⟩:=s.sh j _ k;refine⟨v,?_,g⟩;unfold dA;rw[Qm,c];show some ((σ[j]?).join)=_;rw[m];rfl
 .cases a
noncomputable def dB(gt:AS)(fc:AT)(fe:AU)(ρ:Ro):AN->Option AN
 | []=>some []
 | d::ds=>(gt d ρ).bind λa=>(fc a).bind λk=>if k=true then (fe a).bind λv=>(dB gt fc fe ρ ds).map (v::·)else dB gt fc fe ρ ds
def Yv(gl:AV)(a:List AL)(gt:AS)(fc:AT)(fe:AU):AV:=λb=>(gl b).bind λc=>dB gt fc fe (ao a b) c
def tY:AT:=λ_=>some true
def BE(h:tTof K tY σ H Q):nW σ H Q:=by
 obtain⟨c,k,b,a,G,e,s,h⟩:=h;cases e;exact h H G (.refl s.seen)
def BF:d8 X [] (tTof X.K tY):=λa s b H Q I h=>Aq _ s b H Q I (BE h)
def BG(h:src[i]?=some none):∀ρ d a,aj i d (ao src ρ)=some a->Le (ao src ρ) a:=λρ d a e=>by
 cases e;refine⟨by simp,λj b c=>?_⟩;by_cases f:j=i
 .subst f
  unfold ao at c;rw[Qm,h]at c;cases c
 .rwa [Qp (.symm f)]
def BH{f:List AL}{i k:Nat}(h:f[i]?=some none)(m:f[k]?=some none):∀ρ d a,fU i k d (ao f ρ)=some a->Le (ao f ρ) a:=λρ d a e=>by
 unfold fU at e
 split at e
 .cases e
  refine⟨by simp,λj b l=>?_⟩
  have c:∀n,f[n]?=some none->j≠n:=λn g z=>by
   subst z;unfold ao at l;rw[Qm,g]at l;cases l
  rwa [Qp (.symm (c k m)),Qp (.symm (c i h))]
 .cases e
theorem M4(hle:∀ρ d u,gt d (ao src ρ)=some u->Le (ao src ρ) u)(h:h9 K (Yv gl src gt fc fe) σ H Q):Ar (n0 K gl) src (MN K gt) (tTof K fc) (tOf K fe) σ H Q:=by
 obtain⟨ρ,l,H0,G0,G,e,s,h⟩:=h;obtain⟨ds,h1,N⟩:=qa e;refine⟨ρ,ds,H0,G0,G,h1,s,λJ H1 R g1 wk p V=>?_⟩;have s1:=s.grow g1;have sc:=s1.cap src;have gp:R p=none:=s1.seen.free V
 refine⟨λi m σ' H'=>m=ds.length-i/\i<=ds.length/\∃G' a D c,SR K H1 R σ' H' G' (ao src ρ)/\H' p=some (.lst D)/\G' p=none/\RpL K G' a D/\D.length<=i/\dB gt fc fe (ao src ρ) (ds.drop i)=some c/\a++c=l,
  ⟨_,rfl,Qh _,R,[],[],l,sc.grow (Gr.hid s1.seen V _),Yh,gp,.nil,Qh _,N,rfl⟩,?_⟩
 rintro i m σ' H' ⟨rfl,hi,G',a,D,c,s',hx,gx,rx,hl,n,T⟩;have W:=wk.2 i H' G' s'.gr.g s'.seen;by_cases A:i<ds.length
 .have hdi:=qr A
  obtain⟨go,yl⟩:=W.1 _ hdi;rw[List.drop_eq_getElem_cons A,dB]at n;obtain⟨u,e1,n⟩:=qa n;obtain⟨k,e2,n⟩:=qa n;refine .inr ⟨go,λx H2 y=>?_⟩;obtain⟨G2,U,r2⟩:=yl x H2 y
  have r:∀{Ha Z Hb S:Hp},Gr Ha Z Hb S->Ha p=some (.lst D)->Z p=none->Hb p=some (.lst D)/\S p=none:=λ{Ha Z Hb S} g e1 e2=>by
   refine⟨g.h _ _ e1,?_⟩
   cases q:S p with
   | none=>rfl
   | some o=>
     have:=g.n p e2 (by rw[q];exact λz=>nomatch z);rw[e1]at this;cases this
  obtain⟨hx2,gx2⟩:=r U hx gx;refine⟨_,ao src ρ,u,H1,R,G2,e1,s'.grow U,r2,λσ3 s3=>?_⟩;refine tTof.at e2 s3 λH4 G4 g4 s4=>?_;obtain⟨I,O⟩:=r g4 hx2 gx2;have le:=hle ρ _ u e1
  cases k with
  | false=>
    exact⟨ds.length-(i+1),by symm,rfl,A,G4,a,D,c,s4.le le,I,O,(rx.mono U.g).mono g4.g,by ac_nf,n,T⟩
  | true=>
    rw[if_pos rfl]at n ⊢;obtain⟨v,e3,n⟩:=qa n;obtain⟨C,e4,rfl⟩:=qc n;refine tOf.at e3 s4 λw H5 G5 g5 r5 s5=>?_;obtain⟨Y,L⟩:=r g5 I O;have hz:=wk.1;refine⟨D,Y,by ac_nf,ds.length-(i+1),by symm,rfl,A,G5,a++[v],D++[w],C,?_,Yh,L,(((rx.mono U.g).mono g4.g).mono g5.g).append (.one r5),by simp;ac_nf,e4,by simpa using T⟩;have E:=s5.le le
    have P:∀(i:Nat) l,(ao src ρ)[i]?≠some (some (B.ow l)):=λi l h=>by
     unfold ao at h;rw[Qm]at h;obtain⟨o,h1,N⟩:=qc h;obtain⟨j,rfl,F⟩:=qa N
     split at F<;>cases F
    have M:∀(i:Nat) t ks vs,(ao src ρ)[i]?≠some (some (B.od t ks vs)):=λi t ks vs h=>by
     unfold ao at h;rw[Qm]at h;obtain⟨o,h1,N⟩:=qc h;obtain⟨j,rfl,F⟩:=qa N
     split at F<;>cases F
    refine SR.mkSh ⟨λb o q=>?_,E.gr.g,λb o q=>?_,E.gr.n⟩ E.len E.sh P M
    .rw[Yl (Yk q V)];exact E.gr.h b o q
    .rw[Yl (Yk q L)];exact E.gr.s b o q
 .have ei:i=ds.length:=by ac_nf
  subst ei;rw[List.drop_length,dB]at n;cases n;rw[w6]at T;subst T;exact .inl ⟨W.2 (qv _),h p D H' G' (g1.trans s'.gr) (g1.h.free V) gx hx rx⟩
section
variable {N:AJ}{src:List AL}{gt:AS}{fc:AT}{fe:AU}
def BI(S:gg X.N X.env.scope N src scope)(l:X.calm=true)(i:MI X tg iter gl)(j:∀a C b s H,MG (cQ X scope N a C b s H) tg gt)(m:∀a C b s H,d8 (cQ X scope N a C b s H) ifs (tTof X.K fc))(k:∀a C b s H,ME (cQ X scope N a C b s H) elt fe)(g:∀ρ d c,gt d (ao src ρ)=some c->Le (ao src ρ) c)(hs:∀x,foldedSetIterable iter X.env x=pure x:=by intro _;rfl):MF X (.ListComp elt [⟨tg,iter,ifs,0⟩] scope pos) (Yv gl src gt fc fe):=
 PE.imp (Av S l i j m k hs) λ_ _ _ h=>M4 g h
theorem BJ(i:Nat){o a:Pos}(f:X.N.Nodup)(S:gg X.N X.env.scope N src scope)(E:X.calm=true)(m:MI X tg iter gl)(J:∀j C b s H,MG (cQ X scope N j C b s H) tg gt)(w:∀j C b s H,d8 (cQ X scope N j C b s H) ifs (tTof X.K fc))(B:∀j C b s H,ME (cQ X scope N j C b s H) elt fe)(k:∀ρ d c,gt d (ao src ρ)=some c->Le (ao src ρ) c)(n:swapsWith (.ListComp elt [⟨tg,iter,ifs,0⟩] scope pos) (some (.Name y o)) a.line X.env=pure true:=by rfl)(u:X.N[i]?=some y:=by rfl)(v:dX X.env.scope y:=by trivial)(A:aae X y:=by trivial)(hs:∀x,foldedSetIterable iter X.env x=pure x:=by intro _;rfl):MS X (.Assign [.Name y o] (.ListComp elt [⟨tg,iter,ifs,0⟩] scope pos) a) (bc i (Yv gl src gt fc fe)):=
 PS.imp (Aw S E m J w B f u v n A hs) λF R H h=>by
  obtain⟨ρ,D,z,q,G,e,s,h⟩:=h;obtain⟨l,t,rfl⟩:=qc e;exact M4 k ⟨ρ,l,z,q,G,t,s,λp Q M K g O I L r=>h _ M K (s.set_ow i g O I L r)⟩
end
noncomputable def Yd(n:Nat)(a:AN):Ro:=a.map (λd=>some (.sh d))++.replicate (n-a.length) none
noncomputable def ak(k n:Nat)(fb:AR)(a:AN):Option D:=if a.length=k then (fb (Yd n a)).bind fun
 | .rt d=>some d
 | .nx _=>some .non
 | _=>none
 else none
theorem SR.start(s:Same G H)(r:RpL K G ds vs):SR K H G (start N vs) H G (Yd N.length ds):=by
 refine .mkSh (.refl s) (by simp[L2.start,Yd,r.length]) (λi d h=>?_) (λi l h=>by
  unfold Yd at h
  symm) (λi t f vs h=>by
  unfold Yd at h
  symm)
 unfold Yd at h;rw[List.getElem?_append]at h
 split at h
 .rw[Qm]at h
  obtain⟨k,a,g⟩:=qc h;obtain⟨v,c,j⟩:=r.get a;unfold L2.start;symm
 symm
section
variable {P:P7}{w:World}
theorem SU{f:Addr}(F:Fun K x c st f u)(S:gN N I (aAa st))(p:N.length=n)(j:I.length=m)(T:∀(b:Value) (A:Around) (a:List Env) (s:Shared) (H:Hp) (E:XK),Room k (A.deeper (envOfC c (aAa st) (~~~s) f b))->MB (dz dY P w K mg base N c (aAa st) f b A a s H E).nox (aCa st) fb):
 cB P w K mg base dY (k+1) f u I (dh K m (ak m n fb)):=by
 refine F.ok S (λM H Q E h=>by rw[h.1,j]) λb A a s H M Q E t h=>?_;obtain⟨B,L,d,G,l,r,e,q⟩:=h;refine⟨_,T b A a s H E t,?_⟩;unfold ak at e
 split at e
 .obtain⟨o,z,i⟩:=qa e
  refine⟨Yd n L,o,H,G,G,z,by rw[<-p];exact .start l r,?_⟩
  cases o with
  | rt U=>cases i;exact λv C D g y=>q v C D g y
  | nx J=>cases i;exact λO C D R=>q _ C D R.gr (by rw[Rp])
  | bk J=>cases i
  | ct J=>cases i
 .cases e
end
end
def aC(P:P7)(w:World)(K:W7)(d:AD)(b:Heap)(k n:Nat)(x:Str)(f:AJ)(e:AN->Option D):Prop:=
 ∃a c,cB P w K d b dY k a c f (dh K n e)/\Binds K c f []/\W.keepIn K (.ref a)=true/\d x=some (.ref a)
def BK{st:Stmt}(F:Fun K x q st a d)(b:Binds K d i [])(g:e x=some (.ref a))(h:cB P w K e c dY k a d i (dh K n f)):aC P w K e c k n x i f:=⟨a,d,h,b,F.kp,g⟩
section
variable {a b e:Expr}{fb:AU}
noncomputable def bD:D->Option D
 | .int i=>some (.int (-i))
 | _=>none
def cu:D->D->Option AN
 | .lst a,.lst b=>if a.length+b.length<=aA then some (a++b)else none
 | _,_=>none
def BM:R2:=λx y H Q=>∃l b a c,x=.ref l/\y=.ref b/\Rd H l (.lst a)/\Rd H b (.lst c)/\a.length+c.length<=sizeLine/\∀p,H p=none->Q (.ref p) (upd H p (.lst (a++c)))
theorem BN:bX X (binaryOp .Add) BM:=by
 intro C s F H x y v u Q I k f h;obtain⟨l,b,E,t,rfl,rfl,j,i,o,q⟩:=h;cases k;cases f;obtain⟨z,a,n,r,e⟩:=j.ok I.hok;obtain⟨w,c,A,d,D⟩:=i.ok I.hok;have p:=r.length;have m:=d.length;refine PySem.P.add_list e D ?_ (by ext)
 have g:a.toArray++c.toArray=(a++c).toArray:=by simp
 rw[g];exact⟨.ref _,_,I.lnew (r.append d) (by grind),rfl,q _ I.fresh⟩
noncomputable def d4:D->String
 | .non=>"NoneType"
 | .bl _=>"bool"
 | .int _=>"int"
 | .str _=>"str"
 | .tup _=>"tuple"
 | .lst _=>"list"
 | .scr _=>"list"
 | .dct _ _ _=>"dict"
 | .obj _ _ _=>"dict"
 | .adr _=>"dict"
noncomputable def fE:D->Bool
 | .scr _=>false
 | .dct t _ _=>!t
 | .obj _ _ _=>false
 | .adr _=>false
 | _=>true
def bZ(T:String)(d:D):Option Bool:=if fE d=true then some (d4 d==T||(T=="int"&&d4 d=="bool"))else none
def BO(c:fE d=true)(r:Ct K G H d v):cT K H v (.type (d4 d)):=by
 cases d<;>rw[Ct]at r
 .subst r;exact .non
 .subst r;exact .bl _
 .subst r;exact .int _
 .obtain⟨rfl,_⟩:=r;exact .str _
 .obtain⟨a,b,rfl,g,_⟩:=r;exact .tup g.1
 .obtain⟨a,b,rfl,g,_⟩:=r
  rcases g with g|⟨o,g⟩
  .exact .lst g
  .exact .frz g
 .cases c
 .rename_i t _ _
  cases t with
  | true=>cases c
  | false=>
    obtain⟨a,_,_,rfl,g,_⟩:=r;rcases g with⟨_,_,g,_⟩|⟨g,_⟩
    .exact .dK g
    .cases g
 .cases c
 .cases c
def l7(T:String):Prop:=∀(K:W7) (d:D),W.kitOne K (.type (d4 d)) (.type T)=some (d4 d==T||(T=="int"&&d4 d=="bool"))
def BP:l7 "int":=λK d=>by cases d<;>rfl
def BQ:l7 "bool":=λK d=>by cases d<;>rfl
def BR:l7 "str":=λK d=>by cases d<;>rfl
def SV:l7 "tuple":=λK d=>by cases d<;>rfl
def BS(i:l7 T):dO X (.builtin "isinstance") (λxs H Q=>∃x d G,xs=[x,.ty T]/\fE d=true/\Ct X.K G H d x/\Q (.bl (d4 d==T||(T=="int"&&d4 d=="bool"))) H):=by
 intro a s l H xs e Q I r h;obtain⟨x,d,G,rfl,j,f,q⟩:=h;obtain⟨u,k,rfl,c,g⟩:=nE r;cases (g)
 exact R7 I c (BO j f) (i X.K d) λb=>⟨.bl _,H,I.tok b,rfl,q⟩
end
noncomputable def eT(a:Int):AF->AF
 | []=>[a]
 | b::l=>if a<=b then a::b::l else b::eT a l
noncomputable def de:AF->AF
 | []=>[]
 | a::l=>eT a (de l)
theorem BU(a:Int):∀l:AF,(eT a l).Perm (a::l)
 | []=>.refl _
 | b::l=>by
   rw[eT]
   split
   .exact .refl _
   .exact((BU a l).cons b).trans (.swap a b l)
theorem eU:∀l:AF,(de l).Perm l
 | []=>.refl _
 | a::l=>(BU a _).trans ((eU l).cons a)
theorem M5(a:Int):∀l:AF,l.Pairwise (·<=·)->(eT a l).Pairwise (·<=·)
 | [],_=>by simp[eT]
 | b::l,h=>by
   rw[eT]
   split
   .rename_i d
    refine List.pairwise_cons.mpr ⟨λx c=>?_,h⟩;rcases qu c with rfl|c
    .exact d
    .exact Int.le_trans d ((List.pairwise_cons.mp h).1 x c)
   .refine List.pairwise_cons.mpr ⟨λx c=>?_,M5 a l (List.pairwise_cons.mp h).2⟩
    rcases qu ((BU a l).mem_iff.mp c)with rfl|c
    .lia
    ext
theorem gk:∀l:AF,(de l).Pairwise (·<=·)
 | []=>.nil
 | a::l=>M5 a _ (gk l)
section
variable {w:World}{A:Around}{E:AA}{s:Shared}
theorem SW(m:s.heap.IsList l vs.toArray)(n:vs.length<2)(h:Q (.ref (~~~s+1)) {s with heap:=sortedAll s.heap vs vs.toArray}):wpAny (mZ prog w) A (call (.builtin "sorted") [.ref l]) Q E s:=by
 refine Calls.call_function_entry kind_sorted plain_sorted entry_sorted (args_sorted1 _) ?_;refine wa (wb ?_);refine wa (collect_list m ?_ (by rw[jf];ac_nf));refine wa (wpAny_newList ?_ (by rw[jf];ac_nf))
 have e:((s.heap.push (seqObj "list" #[] 0)).update (~~~s) (Obj.mapSeq (·++vs.toArray))).objs.size= ~~~s+1:=by
  ext
 have g:(((s.heap.push (seqObj "list" #[] 0)).update (~~~s) (Obj.mapSeq (·++vs.toArray))).push (seqObj "list" vs.toArray 0)).get? (~~~s+1)=some (seqObj "list" vs.toArray 0):=by
  rw[<-e];exact qp _ rfl
 rw[e];refine wa (wc (we slot_list_sort ⟨_,g,rfl⟩ entry_list_sort ?body (args_list_sort _)))
 case body=>
  rw[list_sort_plain];generalize j:({s with heap:=((s.heap.push (seqObj "list" #[] 0)).update (~~~s) (Obj.mapSeq (·++vs.toArray))).push (seqObj "list" vs.toArray 0)})=S at *
  have a:S.heap.get? (~~~s+1)=some (seqObj "list" vs.toArray 0):=by symm
  have o:=ql a;refine wa (listItems_at a rfl ?_);refine wa (listUpdate_at a rfl ?_ (by rw[qk,jf];ac_nf) (Qh _))
  obtain⟨p,c⟩:∃p,(S.heap.update (~~~s+1) (Obj.mapSeq λ_=>#[])).get? (~~~s+1)=some (seqObj "list" #[] p):=⟨_,get?_update_seq a (λ_=>#[])⟩
  refine wa (seqEpoch_at c rfl ?_);refine wa (wpAny_newTuple ?_ (by rw[jf];ac_nf));refine wa (wpAny_newList ?_ (Qh _));refine wc ?_
  have b:(((S.heap.update (~~~s+1) (Obj.mapSeq λ_=>#[])).push (seqObj "tuple" vs.toArray 0)).push (seqObj "list" #[] 0)).get? (~~~s+1)=some (seqObj "list" #[] p):=by
   rw[Heap.get?_push_ne _ _ _ (by rw[size_push',Heap.size_update];(subst_vars;simp)),Heap.get?_push_ne _ _ _ (by rw[Heap.size_update];(subst_vars;simp))];exact c
  have d:vs.toArray.size<2:=by omega
  rw[if_pos d,if_pos d];refine wa (wb ?_);refine wa (wb ?_);dsimp only;refine wa (seqEpoch_at b rfl ?_);refine wa (listUpdate_at b rfl ?_ (hsz2:=by symm));simp only[bne_self_eq_false,Qo,if_false]
  have f:(arrOf (SortSt.mk' general' (vs.toArray.zip vs.toArray) #[] 7 none)).map (·.2)=vs.toArray:=by
   symm
  refine wb ⟨_,rfl,wb ⟨_,rfl,?_⟩⟩;have k:=h;rw[<-j,f];exact k
noncomputable def eA(j:Int)(q:Bool)(i:Int)(p:Bool):Bool:=if j=i then (!q&&p)else decide (j<i)
theorem BV(z:IsTup s.heap b #[.int i t,.bool p])(k:IsTup s.heap c #[.int j u,.bool q])(h:R (eA j q i p) s):
 wpAny (mZ prog w) A (keyLt' (tuples' true) (.ref c) (.ref b)) R E s:=by
 obtain⟨r,f,_,o,m⟩:=z;obtain⟨v,g,_,n,l⟩:=k;refine W.kat_lt g l f m ?_;show W.KatLex _ w A _ false R _ 0 s;unfold eA at h;refine W.kat_cons (SeqAt.EqAt.int_int j u i t _ w _ _ (W.kat_go (λe=>W.kat_yes (W.kat_cons (SeqAt.EqAt.bool_bool q p _ w _ _ (W.kat_go (λy=>W.kat_yes (W.kat_nil ?_)) λy=>W.kat_no (W.kat_one _ _ (lt_bool ?_)))))) λe=>W.kat_no ?_))
 .simp_all
 .have d:=by simpa using e
  rw[if_pos d]at h
  cases p<;>cases q<;>first|exact h|simp at y
 .have d:=by simpa using e
  rw[if_neg d]at h;exact oneLt_int h
def SY(h:cmp 1 0 (λk s'=>if k=true then G #[1,0] s' else G #[0,1] s') S):(W.kas_sort 2).kasWp cmp G S:=by
 show cmp 1 0 (λk s'=>W.KasT.kasWp cmp _ G s') S
 have e:∀(k:Bool) (s':Shared),(if k=true then G #[1,0] s' else G #[0,1] s')=W.KasT.kasWp cmp (W.KasT.bind (W.KasT.bind (if k=true then W.KasT.ret 1 else W.kas_asc (List.toArray (List.range 2)) 0 2)
  λn=>if (n==2)=true then W.KasT.ret (n,List.toArray (List.range 2))else if n > 1 then .ask ((List.toArray (List.range 2)).getD 0 0) ((List.toArray (List.range 2)).getD (n-1) 0) λc=>if c=true then .ret (n,List.toArray (List.range 2))else W.kas_descPart n 2 (W.kas_rev (List.toArray (List.range 2)) 0 n)
   else W.kas_descPart n 2 (List.toArray (List.range 2))) λr=>if r.1<2 then W.kas_bin (2-max r.1 1) r.2 (max r.1 1)else .ret r.2) G s':=λk s'=>by cases k<;>rfl
 have e2:(fun(k:Bool) (s':Shared)=>if k=true then G #[1,0] s' else G #[0,1] s')=_:=funext λk=>funext λs'=>e k s';rw[e2]at h;exact h
theorem SZ(Z:s.heap.IsList l #[.ref b,.ref c])(hb:IsTup s.heap b #[.int i t,.bool p])(H:IsTup s.heap c #[.int j u,.bool q])(h:Q (.ref (~~~s+1)) {s with heap:=sortedAll s.heap [.ref b,.ref c] (if eA j q i p=true then #[.ref c,.ref b]else #[.ref b,.ref c])}):wpAny (mZ prog w) A (call (.builtin "sorted") [.ref l]) Q E s:=by
 generalize m:[Value.ref b,Value.ref c]=vs at *;have J:s.heap.IsList l vs.toArray:=Z
 have D:vs.length=2:=by(subst_vars;simp)
 refine Calls.call_function_entry kind_sorted plain_sorted entry_sorted (args_sorted1 _) ?_;unfold Builtin.«sorted»;refine wa (m:=checkCount "sorted" 1 1 _) (wb ?_);refine wa (collect_list J ?_ (by rw[jf];lia));refine wa (wpAny_newList ?_ (by rw[jf];lia))
 have y:((s.heap.push (seqObj "list" #[] 0)).update (~~~s) (Obj.mapSeq (·++vs.toArray))).objs.size= ~~~s+1:=by
  ext
 have L:(((s.heap.push (seqObj "list" #[] 0)).update (~~~s) (Obj.mapSeq (·++vs.toArray))).push (seqObj "list" vs.toArray 0)).get? (~~~s+1)=some (seqObj "list" vs.toArray 0):=by
  rw[<-y];exact qp _ rfl
 have M:∀b o,s.heap.get? b=some o->(((s.heap.push (seqObj "list" #[] 0)).update (~~~s) (Obj.mapSeq (·++vs.toArray))).push (seqObj "list" vs.toArray 0)).get? b=some o:=λb o q=>by
  have a:b< ~~~s:=ql q;rw[Heap.get?_push_ne _ _ _ (by ext<;>lia),Heap.get?_update_ne _ _ _ _ (qm a),Heap.get?_push_ne _ _ _ (qm a)];exact q
 rw[y];refine wa (wc (we slot_list_sort ⟨_,L,rfl⟩ entry_list_sort ?body (args_list_sort _)))
 case body=>
  rw[list_sort_plain];generalize hS:({s with heap:=((s.heap.push (seqObj "list" #[] 0)).update (~~~s) (Obj.mapSeq (·++vs.toArray))).push (seqObj "list" vs.toArray 0)})=S at *
  have d:S.heap.get? (~~~s+1)=some (seqObj "list" vs.toArray 0):=by grind
  have ha:(~~~s)+1<S.heap.objs.size:=ql d;refine wa (listItems_at d rfl ?_);refine wa (listUpdate_at d rfl ?_ (by rw[qk,jf];lia) (Qh _))
  obtain⟨e1,C⟩:∃e1,(S.heap.update (~~~s+1) (Obj.mapSeq λ_=>#[])).get? (~~~s+1)=some (seqObj "list" #[] e1):=⟨_,get?_update_seq d (λ_=>#[])⟩
  refine wa (seqEpoch_at C rfl ?_);refine wa (wpAny_newTuple ?_ (by show vs.length<=_;rw[jf];lia));refine wa (wpAny_newList ?_ (Qh _));refine wc ?_
  have V:(((S.heap.update (~~~s+1) (Obj.mapSeq λ_=>#[])).push (seqObj "tuple" vs.toArray 0)).push (seqObj "list" #[] 0)).get? (~~~s+1)=some (seqObj "list" #[] e1):=by
   rw[Heap.get?_push_ne _ _ _ (by rw[size_push',Heap.size_update];grind),Heap.get?_push_ne _ _ _ (by rw[Heap.size_update];grind)];exact C
  have I:∀b o,s.heap.get? b=some o->(((S.heap.update (~~~s+1) (Obj.mapSeq λ_=>#[])).push (seqObj "tuple" vs.toArray 0)).push (seqObj "list" #[] 0)).get? b=some o:=λb o q=>by
   have a:b< ~~~s:=ql q;refine qe _ (qe _ ?_);rw[Heap.get?_update_ne _ _ _ _ (qm (qx a))];grind
  generalize hS6:({S with heap:=((S.heap.update (~~~s+1) (Obj.mapSeq λ_=>#[])).push (seqObj "tuple" vs.toArray 0)).push (seqObj "list" #[] 0)})=g
  have B:g.heap.get? (~~~s+1)=some (seqObj "list" #[] e1):=by grind
  have N:IsTup g.heap b #[.int i t,.bool p]:=by
   obtain⟨o,O,z⟩:=hb;exact⟨o,by grind,z⟩
  have R:IsTup g.heap c #[.int j u,.bool q]:=by
   obtain⟨o,O,z⟩:=H;exact⟨o,by grind,z⟩
  dsimp only
  have F:¬vs.toArray.size<2:=by ext
  rw[if_neg F,if_neg F]
  have Y:W.KatTups g.heap vs [.int i t,.int j u]:=by
   obtain⟨ob,b1,b2,n1,b3⟩:=N;obtain⟨oc,X,c2,n2,c3⟩:=R;rw[<-m];exact .cons b1 b2 b3 rfl (.cons X c2 c3 rfl .nil)
  refine wa (W.kat_kind (T:=.type "int") Y (qx (Qa 0)) (λv r=>?_) (by decide) ?_)
  .rcases qu r with rfl|r
   .exact .of_pure rfl
   .rcases qu r with rfl|r
    .exact .of_pure rfl
    .cases r
  have n:wpAny (mZ prog w) A.in1.in1 (keyLt' (tuples' true) (vs.getD 1 Value.none) (vs.getD 0 Value.none)) (λk s'=>k=eA j q i p/\s'=g) (λ_ _=>False) g:=by
   rw[<-m];exact BV N R ⟨rfl,rfl⟩
  refine wa (wz (W.kat_run (ks:=vs) (vs:=vs) (κ:=tuples' true) (G:=λP s'=>s'=g/\P=if eA j q i p=true then #[1,0]else #[0,1])
   (Q:=λf s'=>s'=g/\failedOf f=none/\(arrOf f).map (·.2)=if eA j q i p=true then #[.ref c,.ref b]else #[.ref b,.ref c]) rfl (by lia) (by ext) (λP f s' O z a3 a4=>?_) ?_) ?_ λ_ _ e=>e)
  .obtain⟨rfl,rfl⟩:=a4
   refine⟨rfl,a3,?_⟩;rw[W.kat_snds rfl z,<-m];grind
  .rw[D]
   refine SY ?_;refine wz n (λk s' hk=>?_) λ_ _ x=>x
   ext
  rintro⟨⟨⟩,f⟩ s' ⟨rfl,U,G⟩;dsimp only;refine wa (seqEpoch_at B rfl ?_);refine wa (listUpdate_at B rfl ?_ (Qh _) (by rw[G,jf];split<;>ext));rw[U];simp only[bne_self_eq_false,Qo,if_false];refine wb ⟨_,rfl,wb ⟨_,rfl,?_⟩⟩;have T:=h;unfold sortedAll sortedHeap at T
  ext<;>lia
end
noncomputable def intsD:AN->Option AF
 | []=>some []
 | .int i::l=>(intsD l).map (i::·)
 | _=>none
noncomputable def BW:D->Option (Int×Bool)
 | .tup [.int j,.bl q]=>some (j,q)
 | _=>none
def oq(e d:D):Option Bool:=(BW e).bind λx=>(BW d).map λy=>eA x.1 x.2 y.1 y.2
def l8{a:Type}{x:a}{P:Prop}(h:none=some x):P:=by cases h
def M6(h:BW d=some x):d=.tup [.int x.1,.bl x.2]:=by
 cases d with
 | tup l=>cases l with
   | nil=>exact l8 h
   | cons a l=>cases a with
     | int j=>cases l with
       | nil=>exact l8 h
       | cons b l=>cases b with
         | bl q=>cases l with
           | nil=>exact w4 h ▸ rfl
           | cons _ _=>exact l8 h
         | _=>exact l8 h
     | _=>exact l8 h
 | _=>exact l8 h
def i_(l:AN):Option AN:=match intsD l with
 | some a=>if a.length<64 then some ((de a).map .int)else none
 | none=>match l with
   | [d]=>some [d]
   | [d,e]=>(oq e d).map λk=>if k=true then [e,d]else [d,e]
   | _=>none
def fV:AN->Option AN
 | [.lst l]=>i_ l
 | _=>none
theorem j8:∀{l:AN}{ns:AF},intsD l=some ns->l=ns.map D.int
 | [],ns,h=>by cases h;rfl
 | .int i::l,ns,h=>by
   obtain⟨m,a,rfl⟩:=qc h;rw[j8 a];rfl
 | .non::l,ns,h=>by simp[intsD]at h
 | .bl _::l,ns,h=>by simp[intsD]at h
 | .str _::l,ns,h=>by simp[intsD]at h
 | .tup _::l,ns,h=>by simp[intsD]at h
 | .lst _::l,ns,h=>by simp[intsD]at h
 | .scr _::l,ns,h=>by simp[intsD]at h
 | .dct _ _ _::l,ns,h=>by simp[intsD]at h
 | .obj _ _ _::l,ns,h=>by simp[intsD]at h
 | .adr _::l,ns,h=>by simp[intsD]at h
theorem j9:∀{ns:AF}{xs:AM},RpL K G (ns.map D.int) xs->xs=ns.map V.int
 | [],xs,h=>h
 | n::ns,xs,h=>by
   obtain⟨x,r,rfl,a,b⟩:=h;rw[a,j9 b];rfl
def BX(H:Hp)(x:V)(i:Int)(p:Bool):Prop:=∃a,x=.ref a/\H a=some (.tup [.int i,.bl p])
def ot:AM->Hp->VK->Prop:=λd H Q=>∃a b,d=[.ref a]/\Rd H a (.lst b)/\
 ((∃c:AF,b=c.map .int/\c.length<64/\∀p,H p=none->Q (.ref p) (upd H p (.lst ((de c).map .int))))\/
  (b.length<2/\∀p,H p=none->Q (.ref p) (upd H p (.lst b)))\/
  (∃x y i p j q,b=[x,y]/\BX H x i p/\BX H y j q/\∀r,H r=none->Q (.ref r) (upd H r (.lst (if eA j q i p=true then [y,x]else [x,y])))))
theorem S0:dO X (.builtin "sorted") ot:=by
 intro pins s σ H xs us Q I r h;obtain⟨a,ys,rfl,M,h⟩:=h;obtain⟨u,rfl,L⟩:=ez r;cases L;obtain⟨its,l,pl,hz⟩:=I.list (.inl M)
 have f:∀(V:_) _,_->_->_->EP X pins σ Q _ {s with heap:=sortedAll s.heap its V}:=λV d B n F=>by
  obtain⟨e,he⟩:=sortedAll_at s.heap its V;exact⟨.ref (~~~s+1),_,I.laid (λb o q=>sortedAll_old q) (Nat.le_succ _) (show ObjOk X.prog X.w _ _ _ (.lst d) from⟨n,V.toList,e,B,by ext⟩),rfl,F⟩
 have w:=I.hok.fresh (Nat.le_succ _);have Y:=l.length;rcases h with⟨ns,rfl,U,q⟩|⟨v,q⟩|⟨x,y,i,p,j,k,rfl,C,P,q⟩
 .have G:=tR l
  refine sorted_ints pl.isList G (by ext) λV T E v J=>?_;have e:=W.ksm_same (v.trans (eU ns).symm) J (gk ns);subst e;have hn:=(eU ns).length_eq;exact f V _ (nS E) (by ext) (q _ w)
 .refine SW pl.isList (by ext) ?_
  grind
 .obtain⟨b,rfl,hb⟩:=C
  obtain⟨c,rfl,O⟩:=P;obtain⟨u1,u2,rfl,A,D⟩:=nE l;cases A;cases D;obtain⟨_,ib,z,R⟩:=I.hok b _ hb;obtain⟨_,Z,S,N⟩:=I.hok c _ O;obtain⟨w1,w2,rfl,⟨t,rfl⟩,g⟩:=nE z;cases g;obtain⟨w3,K,rfl,⟨t',rfl⟩,m⟩:=nE S;cases m;refine SZ (by simpa using pl.isList) (by simpa using R) (by simpa using N) ?_;refine f _ _ ?_ (by split<;>ext) (q _ w);cases eA j k i p
  .grind
  .exact .cons rfl (.cons rfl .nil)
def M7(s:Same G H)(e:d=.tup [.int i,.bl p])(r:Rp K G d v):BX H v i p:=by
 subst e;obtain⟨a,k,rfl,g,c⟩:=r;obtain⟨x,j,rfl,b,h⟩:=c;obtain⟨y,rfl,f⟩:=l6 h;subst b f;exact⟨a,rfl,s _ _ g⟩
def S2(h:oq e d=some k):∃j q i p,e=.tup [.int j,.bl q]/\d=.tup [.int i,.bl p]/\k=eA j q i p:=by
 obtain⟨x,a,f⟩:=qa h;obtain⟨y,c,b⟩:=qc f;exact⟨x.1,x.2,y.1,y.2,M6 a,M6 c,b.symm⟩
theorem S3:eN K ot fV:=by
 intro C B l H G Q h s r q;unfold fV at h
 split at h
 .obtain⟨v,rfl,t⟩:=fq r
  obtain⟨a,A,rfl,g,c⟩:=t;refine⟨a,A,rfl,g,?_⟩;unfold i_ at h
  split at h
  .rename_i z e
   split at h
   .rename_i m
    cases h;cases j8 e;exact .inl ⟨z,j9 c,m,λp b=>q p _ _ G (.hid s b _) b (s.free b) Yh (.ints _)⟩
   .cases h
  .split at h
   .cases h
    exact .inr (.inl ⟨by rw[c.length];ext,λp b=>q p _ _ G (.hid s b _) b (s.free b) Yh c⟩)
   .obtain⟨k,u,rfl⟩:=qc h
    obtain⟨j,y,i,x,rfl,rfl,rfl⟩:=S2 u;obtain⟨o,w,rfl,d,c⟩:=c;obtain⟨n,rfl,f⟩:=l6 c;refine .inr (.inr ⟨o,n,i,x,j,y,rfl,M7 s rfl d,M7 s rfl f,λp b=>q p _ _ G (.hid s b _) b (s.free b) Yh ?_⟩);cases eA j y i x
    .exact .cons d (.one f)
    .exact .cons f (.one d)
   .cases h
 .cases h
def BY{P:P7}{w:World}{j:AD}{c:Heap}{k n:Nat}{x q:Str}{ps:AJ}{st:Stmt}{a:Addr}{g:FuncData}(F:Fun K x q st a g)(b:Binds K g ps [])(m:j x=some (.ref a))(o:ps.length=n):
 aC P w K j c k n x ps (λ_=>none):=by
 have i:∀vs H Q E,¬dh K n (λ_=>none) vs H Q E:=λvs H Q E h=>by
  obtain⟨_,ds,d,G,_,_,e,_⟩:=h;cases e
 exact⟨a,g,⟨λvs H Q E h=>absurd h (i vs H Q E),λA f s H l us vs Q E _ _ _ _ h=>absurd h (i vs H Q E)⟩,b,F.kp,m⟩
section
variable {e:Expr}{f fb:AU}
noncomputable def bx:AN->Option AG
 | []=>some []
 | .bl b::l=>(bx l).map (b::·)
 | _=>none
theorem M8:∀{l:AN}{a:AG},bx l=some a->l=a.map D.bl
 | [],a,h=>by cases h;rfl
 | .bl i::l,a,h=>by
   obtain⟨m,b,rfl⟩:=qc h;rw[M8 b];rfl
 | .non::l,c,h=>by simp[bx]at h
 | .int _::l,c,h=>by simp[bx]at h
 | .str _::l,c,h=>by simp[bx]at h
 | .tup _::l,c,h=>by simp[bx]at h
 | .lst _::l,c,h=>by simp[bx]at h
 | .scr _::l,c,h=>by simp[bx]at h
 | .dct _ _ _::l,c,h=>by simp[bx]at h
 | .obj _ _ _::l,c,h=>by simp[bx]at h
 | .adr _::l,c,h=>by simp[bx]at h
theorem M9:∀{a:AG}{xs:AM},RpL K G (a.map D.bl) xs->xs=a.map V.bl
 | [],xs,h=>h
 | n::d,xs,h=>by
   obtain⟨x,r,rfl,b,c⟩:=h;rw[b,M9 c];rfl
theorem BZ:∀{a:AG}{us:AC},Vals (a.map V.bl) us->us=a.map Value.bool
 | [],us,h=>by cases h;rfl
 | b::a,us,h=>by
   cases h with
   | cons r t=>
     cases (r);rw[BZ t];rfl
theorem S4(a:AG):((List.range a.length).any λi=>a.getD i false)=a.any id:=by
 induction a with
 | nil=>rfl
 | cons b a c=>
   rw[qt,List.range_succ_eq_map,List.any_cons,List.any_map]
   have:(List.range a.length).any ((λi=>(b::a).getD i false) ∘ .succ)=(List.range a.length).any λi=>a.getD i false:=by
    congr 1
   rw[this,c];rfl
theorem S5(a:AG):((List.range a.length).all λi=>a.getD i false)=a.all id:=by
 induction a with
 | nil=>rfl
 | cons b a c=>
   rw[qt,List.range_succ_eq_map,List.all_cons,List.all_map]
   have:(List.range a.length).all ((λi=>(b::a).getD i false) ∘ .succ)=(List.range a.length).all λi=>a.getD i false:=by
    congr 1
   rw[this,c];rfl
def gm(g:AG->V):AM->Hp->VK->Prop:=λc H Q=>∃(a:Addr) (b:List _),c=[.ref a]/\Rd H a (.lst (b.map .bl))/\Q (g b) H
theorem M_(A:Around)(prog:P7)(w:World)(c:AG):TruthOf prog w A (λi v=>((c.map Value.bool).toArray)[i]?=some v) (λi=>c.getD i false):=λi v s Q E d g=>by
 have a:(c.map .bool)[i]?=some v:=by grind
 rw[Qm]at a;obtain⟨b,h,rfl⟩:=qc a;refine wpAny_truthy_bool ?_
 ext
def Na{pins:AB}{σ:L2.St}{H:Hp}{its:AC}(f:A.handled=none)(c:s.heap.IsList a its.toArray)(h:∀b,b={s with heap:=s.heap.push {cls:=.type "list_iterator",data:=.fields #[.ref a,.int 0 0]} }->Walks X.prog X.w A (~~~s) [~~~s,a] [~~~s] its.toArray.size (λi v=>its.toArray[i]?=some v) (λi h=>h.IsListIter (~~~s) a i/\h.IsList a its.toArray)->
  (b.heap.IsListIter (~~~s) a 0/\b.heap.IsList a its.toArray)->Q (.ref (~~~s)) b):wpAny (mZ X.prog X.w) A (pyIter (.ref a)) Q E s:=by
 have e:a≠(~~~s):=by
  obtain⟨o,d,_⟩:=c;exact qm (ql d)
 refine wpAny_pyIter_list c (h _ rfl (.list f _ a e _) ⟨⟨_,qp _ rfl,rfl,rfl⟩,?_⟩);obtain⟨o,d,r⟩:=c;exact⟨o,qe _ d,r⟩
theorem Nb{σ:L2.St}(I:Inv X pins σ H s)(k:∀b u,b∉[~~~s]->(s.heap.push o).get? b=some u->a.get? b=some u):Inv X pins σ H {s with heap:=a,toks:=tk}:=
 I.kept λb u q=>k b u (by
  intro z
  exact absurd (ql q) (by ext)) (qe _ q)
def S6(l:X.calm=true):dO X (.builtin "any") (gm λb=>.bl (b.any id)):=by
 intro pins s σ H v t Q I r h;obtain⟨a,b,rfl,g,q⟩:=h;obtain⟨u,rfl,d⟩:=ez r;cases d;obtain⟨o,j,n,m⟩:=I.list (.inl g);cases BZ j;refine call_any_walk (Na (pins:=pins) (σ:=σ) (H:=H) (I.ok.hd l) n.isList λc e W st=>?_);subst e;refine⟨_,_,_,_,_,_,λi=>b.getD i _,rfl,W,st,M_ _ _ _ b,λp f k=>⟨.bl _,H,show Inv X _ σ H {s with heap:=p,toks:=f} from Nb I k,?_,q⟩⟩;show _=_;rw[qk,qf,S4]
def S7(l:X.calm=true):dO X (.builtin "all") (gm λb=>.bl (b.all id)):=by
 intro pins s σ H v t Q I r h;obtain⟨a,b,rfl,g,q⟩:=h;obtain⟨u,rfl,d⟩:=ez r;cases d;obtain⟨o,j,n,m⟩:=I.list (.inl g);cases BZ j;refine call_all_walk (Na (pins:=pins) (σ:=σ) (H:=H) (I.ok.hd l) n.isList λc e W st=>?_);subst e;refine⟨_,_,_,_,_,_,λi=>b.getD i _,rfl,W,st,M_ _ _ _ b,λp f k=>⟨.bl _,H,show Inv X _ σ H {s with heap:=p,toks:=f} from Nb I k,?_,q⟩⟩;show _=_;rw[qk,qf,S5]
def eV:AN->Option D
 | [.lst l]=>(bx l).map λa=>.bl (a.any id)
 | _=>none
def cm:AN->Option D
 | [.lst l]=>(bx l).map λa=>.bl (a.all id)
 | _=>none
def Nc{gd:AG->D}(c:∀e d,m e=some d->∃l b,e=[.lst l]/\bx l=some b/\d=gd b)(n:∀G b,Rp K G (gd b) (g b)):ee K (gm g) m:=by
 intro o e d H G Q h s r q;obtain⟨l,b,rfl,j,rfl⟩:=c e d h;obtain⟨v,rfl,k⟩:=fq r;obtain⟨a,p,rfl,f,i⟩:=k;cases M8 j;cases M9 i;exact⟨a,b,rfl,f,q _ H G (.refl s) (n G b)⟩
def B0:ee K (gm λa=>.bl (a.any id)) eV:=Nc (λc d h=>by
 unfold eV at h
 split at h
 .obtain⟨a,b,rfl⟩:=qc h
  exact⟨_,a,rfl,b,rfl⟩
 .cases h) λG a=>by rw[Rp]
theorem B4:ee K (gm λa=>.bl (a.all id)) cm:=Nc (gd:=λa=>.bl (a.all id)) (λc d h=>by
 unfold cm at h
 split at h
 .obtain⟨a,b,rfl⟩:=qc h
  grind
 .cases h) λG a=>by rw[Rp]
def j_(i:Nat)(fi f:AU)(g:AN->D->D->Option AN):AR:=λρ=>(f ρ).bind λd=>(c7 i ρ).bind λl=>(fi ρ).bind λk=>(g l k d).map λl'=>.nx (ρ.set i (some (.ow l')))
def ik(l:AN)(k d:D):Option AN:=(eh k).bind λi=>(dM l.length i).map λj=>l.set j d
end
section
variable {w:World}{A:Around}{E:AA}{s:Shared}
def S8(b:s.heap.IsTupleIter d t i)(l:s.heap.IsTuple t a)(j:a[i]?=some x)(k:∀p,p.IsTupleIter d t (i+1)->Heap.SameBut d s.heap p->Q x {s with heap:=p}):
 wpAny (mZ prog w) A (Builtin.SmallTypes.nextOf (.ref d)) Q E s:=by
 obtain⟨o,e,h,c⟩:=id b;obtain⟨n,f,_,m,g⟩:=l
 refine wa (wpAny_callSpecial?_slot b.typeIs F.slot_tuple_iterator_next
  (we F.slot_tuple_iterator_next b.typeIs F.entry_tuple_iterator_next ?_ (F.args_tuple_iterator_next_1 _)))
 show wpAny _ _ (field _ 0>>=_) _ _ s;refine wa (wpAny_field e c (x:=.ref t) rfl (wa (wpAny_field e c (x:=.int i 0) rfl (wa (wpAny_seqItems f g ?_)))));simp [j]
 exact wa (wpAny_setField e c nofun (wb ⟨x,rfl,wb (k _ (⟨_,wx _ e (Obj.isFreed_of_fields (jd c _)),(Obj.cls_mapFields ..).trans h,by
  rw[jd c];simp[rawInt]⟩) (.update ..))⟩))
theorem S9(j:A.handled=none)(a:s.heap.IsTupleIter d l i)(m:s.heap.IsTuple l b)(k:b[i]?=none)(n:∀t e,Heap.ExtBut d s.heap t->(∃o,t.get? e=some o/\o.cls=.type "StopIteration")->E (.ref e) {s with heap:=t}):
 wpAny (mZ prog w) A (Builtin.SmallTypes.nextOf (.ref d)) Q E s:=by
 obtain⟨o,g,r,h⟩:=id a;obtain⟨p,f,_,q,c⟩:=m
 refine wa (wpAny_callSpecial?_slot a.typeIs F.slot_tuple_iterator_next
  (we F.slot_tuple_iterator_next a.typeIs F.entry_tuple_iterator_next ?_ (F.args_tuple_iterator_next_1 _)))
 show wpAny _ _ (field _ 0>>=_) _ _ s;refine wa (wpAny_field g h (x:=.ref l) rfl (wa (wpAny_field g h (x:=.int i 0) rfl (wa (wpAny_seqItems f c ?_)))));simp [k];refine wa (wpAny_rule (wa (wpAny_setField g h nofun (wa (wa (m:=firstArgMember _ _) (wpAny_of_eq (a:=.none) (by first|rfl|(rfl)) (wg (wa (wpAny_handled ?_)) (by size_fits))))))))
 first|rw[j]|rw[j]
 refine wa (wb (wpAny_throw ?_));exact n _ _ (((wv ..).extBut.push _).push _) ⟨_,qp _ rfl,rfl⟩
theorem S_{i:Nat}{Q:AA}(he:IsEnum s.heap e z i W)(Y:s.heap.IsTupleIter z l i)(hl:s.heap.IsTuple l M)(hx:M[i]?=some x)(B:e≠z)(hQ:∀K,IsEnumOut K e z ((i:Int)+1) x (~~~s)->K.IsTupleIter z l (i+1)->
  K.get? (~~~s)=some {cls:=.type "tuple",data:=.seq #[.int i s.toks,x]}->K.objs.size= ~~~s+1->
  (∀b o,b≠e->b≠z->s.heap.get? b=some o->K.get? b=some o)->Q (.ref (~~~s)) {s with heap:=K,toks:=s.toks+1}):
 wpAny (mZ prog w) A (Builtin.«enumerate.__next__» ⟨[.ref e],[]⟩) (λZ s'=>∃v,Z=.done (.ret v)/\Q v s') E s:=by
 obtain⟨V,g,d,tk,os⟩:=s;show wpAny _ _ (field (.ref e) 2>>=_) _ _ _;refine wa (wpAny_field he rfl (x:=.ref z) rfl ?_);refine wa (S8 Y hl hx λh₁ D t=>?_);have p:=(t.2 e B).trans he;refine wa (wpAny_field p rfl (x:=rawInt i) rfl ?_);refine wa (wpAny_field p rfl (x:=.none) rfl ?_);refine wa (wpAny_mkInt ?_);refine wa (wpAny_setField_rec p nofun λU P u=>?_);refine wa (wpAny_setField_rec P nofun λm N c=>?_);replace c:Heap.SameBut e U m:=c;show wpAny _ _ _ _ _ ⟨m,g,d,tk+1,os⟩;refine wa (wpAny_newTuple ?_);have j:IsEnum (m.push {cls:=.type "tuple",data:=.seq #[.int i tk,x]}) e z ((i:Int)+1) W:=qe _ N;generalize f:m.push _=n at j
 have G:m.objs.size=V.objs.size:=by rw[c.1,u.1,t.1]
 have H:e<V.objs.size:=ql he
 have R:n.get? V.objs.size=some {cls:=.type "tuple",data:=.seq #[.int i tk,x]}:=by rw[<-f,<-G];exact qp _ rfl
 have J:n.objs.size=V.objs.size+1:=by rw[<-f,ww,G]
 have S:∀b o,b≠e->b≠z->V.get? b=some o->n.get? b=some o:=λb o y O hb=>by
  rw[<-f];exact qe _ (c.extBut b o y (u.extBut b o y (t.extBut b o O hb)))
 have C:n.IsTupleIter z l (i+1):=by
  rw[<-f];obtain⟨o,ho,r⟩:=D.at λo q=>c.extBut z o (Ne.symm B) (u.extBut z o (Ne.symm B) q);exact⟨o,qe _ ho,r⟩
 show wpAny _ _ _ _ _ ⟨n,g,d,tk+1,os⟩;rw[G];refine wa ?_
 .refine wa (wpAny_field j rfl (x:=.none) rfl (wb ?_))
  refine wa (wpAny_rule ?_);refine wa (wpAny_field j rfl (x:=W) rfl ?_);refine wa (wpAny_setField_rec j nofun λh₅ I h=>?_);refine wa ?_
  .refine wa (wpAny_setField_rec I nofun λX L k=>?_)
   refine wpAny_setField_rec L nofun λF T a=>?_;replace a:Heap.SameBut e X F:=a;refine wa (wpAny_letGo (wb ⟨_,rfl,hQ F T ?_ ?_ ?_ ?_⟩))
   .exact C.at λo q=>a.extBut z o (Ne.symm B) (k.extBut z o (Ne.symm B) (h.extBut z o (Ne.symm B) q))
   .exact a.extBut _ _ (Nat.ne_of_gt H) (k.extBut _ _ (Nat.ne_of_gt H) (h.extBut _ _ (Nat.ne_of_gt H) R))
   .rw[a.1,k.1,h.1,J]
   .exact λb o y O hb=>a.extBut b o y (k.extBut b o y (h.extBut b o y (S b o y O hb)))
def Ta{i:Nat}(n:IsEnum s.heap e g i p)(h:s.heap.IsTupleIter g l i)(t:s.heap.IsTuple l f)(q:f[i]?=some x)(j:e≠g)(r:∀u,IsEnumOut u e g ((i:Int)+1) x (~~~s)->u.IsTupleIter g l (i+1)->
  u.get? (~~~s)=some {cls:=.type "tuple",data:=.seq #[.int i s.toks,x]}->u.objs.size= ~~~s+1->
  (∀b o,b≠e->b≠g->s.heap.get? b=some o->u.get? b=some o)->Q (some (.ref (~~~s))) {s with heap:=u,toks:=s.toks+1}):
 wpAny (mZ prog w) A (pyNext (.ref e)) Q E s:=by
 have m:s.TypeIs (.ref e) _:=⟨_,n,rfl⟩
 exact wa (je (wpAny_callSpecial?_slot m F.slot_enumerate_next
  (we F.slot_enumerate_next m F.entry_enumerate_next
   (S_ n h t q j λu a b c d k=>wb (r u a b c d k)) (F.args_enumerate_next_1 _))))
def Tb{i:Nat}(m:A.handled=none)(g:IsEnum s.heap e c i r)(b:s.heap.IsTupleIter c l i)(q:s.heap.IsTuple l a)(j:a[i]?=none)(n:∀t,Heap.ExtBut c s.heap t->Q none {s with heap:=t}):wpAny (mZ prog w) A (pyNext (.ref e)) Q E s:=by
 have h:s.TypeIs (.ref e) _:=⟨_,g,rfl⟩
 refine wa (je (wpAny_callSpecial?_slot h F.slot_enumerate_next
  (we F.slot_enumerate_next h F.entry_enumerate_next ?_ (F.args_enumerate_next_1 _))))
 show wpAny _ _ (field _ 2>>=_) _ _ _;refine wa (wpAny_field g rfl (x:=.ref c) rfl (wa (S9 m b q j λt x d f=>?_)));obtain⟨o,p,k⟩:=f;exact wa (wpAny_isInstance ⟨o,p,k⟩ isSubtype_stop (wb (n _ d)))
def Tc(l:Addr)(a:Array Value)(n:Nat)(f:Option Addr)(k:Array (Option Value)):
 Meets (Builtin.«enumerate.__new__» ⟨[.type "enumerate",.ref l],[]⟩) (λ_ R s=>s.heap.get? l=some {cls:=.type "tuple",dict:=f,data:=.seq a n,slots:=k}/\
  R (.ok (.ret (.ref (s.heap.push {cls:=.type "tuple_iterator",data:=.fields #[.ref l,.int 0 0]}).objs.size)))
   {s with heap:=(s.heap.push {cls:=.type "tuple_iterator",data:=.fields #[.ref l,.int 0 0]}).push {cls:=.type "enumerate",data:=.fields #[.none,.bool false,.ref (~~~s),rawInt 0,.none,.none]} }):=
 .of_wp λo w A R s h=>by
  obtain⟨j,g,d,p,os⟩:=s;obtain⟨b,h⟩:=h;have i:=sub_enumerate
  have e:Heap.IsTuple (Shared.heap ⟨j,g,d,p,os⟩) l a:=⟨_,b,rfl,n,rfl⟩
  wp_walk using m.AutoSeq1.wpAny_loadPart' b
  refine wpAny_stack_any λst=>wb ?_
  split
  .rename_i c _ _ _ _ _
   cases (c==Value.type "enumerate")
   .wp_walk using m.AutoSeq1.wpAny_loadPart' b,wpAny_pyIter_tuple e
    exact⟨_,rfl,h⟩
   .wp_walk using m.AutoSeq1.wpAny_loadPart' b,wpAny_pyIter_tuple e
    exact⟨_,rfl,h⟩
  .wp_walk using m.AutoSeq1.wpAny_loadPart' b,wpAny_pyIter_tuple e
   exact⟨_,rfl,h⟩
theorem Td(m:s.heap.IsTuple l a)(h:∀r,IsEnum r (~~~s+1) (~~~s) 0 .none->r.IsTupleIter (~~~s) l 0->r.objs.size= ~~~s+2->
  (∀b o,s.heap.get? b=some o->r.get? b=some o)->Q (.ref (~~~s+1)) {s with heap:=r}):
 wpAny (mZ prog w) A (call (.type "enumerate") [.ref l]) Q E s:=by
 obtain⟨⟨c,d,q,g⟩,p,j,n,k⟩:=m;subst j k
 refine callType_new F.called_enumerate (by decide) (F.typeCall_enumerate_1 _) (F.newCall_enumerate_1 _) (λe=>F.args_object_init_2 e _) F.entry_enumerate_new
  (Tc l a n d g) ⟨p,?_⟩
 have i:(s.heap.push {cls:=.type "tuple_iterator",data:=.fields #[.ref l,.int 0 0]}).objs.size=_:=ww ..;rw[i]
 have f:IsEnum ((s.heap.push {cls:=.type "tuple_iterator",data:=.fields #[.ref l,.int 0 0]}).push
  {cls:=.type "enumerate",data:=.fields #[.none,.bool false,.ref (~~~s),rawInt 0,.none,.none]}) (~~~s+1) (~~~s) 0 .none:=by
  have:=qp (s.heap.push {cls:=.type "tuple_iterator",data:=.fields #[.ref l,.int 0 0]})
   (o:={cls:=.type "enumerate",data:=.fields #[.none,.bool false,.ref (~~~s),rawInt 0,.none,.none]}) rfl
  grind
 refine⟨⟨_,f,rfl⟩,h _ f ⟨_,qe _ (qp _ rfl),rfl,rfl⟩ (by ext) λb o x=>qe _ (qe _ x)⟩
end
theorem Nd{σ:L2.St}{ch:List Addr}{T:Addr}(I:Inv X pins σ H s)(f:∀b∈ch,c4 X pins H b)(k:∀b u,b∉ch->s.heap.get? b=some u->h'.get? b=some u)(g:(~~~s)<=T)(p:ObjOk X.prog X.w (upd H T o) h' T o):Inv X pins σ (upd H T o) {s with heap:=h',toks:=t' }:=by
 have d:=I.hok.fresh g
 have j:∀b u,H b=some u->b∉ch:=λb u e z=>by rw[(f b z).1]at e;cases e
 refine I.step (λb x=>?_) (λb u _ _ a e _=>k b u a e) (λb u _ _ a e _=>⟨u.slots,k b u a e⟩) (λb u _ e n=>?_)
  (λb u a e=>⟨u,k b u a e⟩) (λb E e=>?_) (λb u E e=>?_) (λb G e=>⟨#[],?_⟩) (λm l=>?_) (λb u e=>?_) I.bare
 .obtain⟨_,B,_,C,y,A⟩:=f b x
  grind
 .rwa [Yl (qm (Qi (ql e) g))]
 .rwa [Yl (Yk e d)]
 .rwa [Yl (Yk e d)]
 .rw[Yl (Yk e d),e];simp
 .obtain⟨h,t,i,w,r⟩:=l
  exact⟨h,t,i,k _ h (λz=>(f _ z).2.1 rfl) w,r⟩
 .by_cases x:b=T
  .subst x;rw[Yh]at e;grind
  .rw[Yl x]at e
   refine(I.hok b u e).stay (λc v a q=>k c v ?_ q) (λc q=>by rwa [Yl (Yk q d)]) λc E q=>by rwa [Yl (Yk q d)]
   grind
def ou(K:W7)(a:Addr):It:=
 ⟨λi H=>∃b x,SqL K H a b/\b[i]?=some x,λi H x c=>∃y p,(∀b,SqL K H a b->b[i]?=some y)/\H p=none/\x=.ref p/\c=upd H p (.tup [.int i,y]),λi H=>∃b,SqL K H a b/\b.length<=i⟩
def ox(K:W7)(a:Addr):It:=
 ⟨λi H=>∃b x,SqT K H a b/\b[i]?=some x,λi H x c=>∃y p,(∀b,SqT K H a b->b[i]?=some y)/\H p=none/\x=.ref p/\c=upd H p (.tup [.int i,y]),λi H=>∃b,SqT K H a b/\b.length<=i⟩
theorem Te(a j e:Addr)(n:e≠j):d7 P w K (.Tuple elts x1 pt) (ou K a) [e,j] e (λi h=>(∃g,IsEnum h e j i g)/\h.IsListIter j a i) where
 mem:=by simp
 obj:=λi h st b hb=>by
  obtain⟨⟨g,l⟩,f⟩:=st;rcases qu hb with rfl|hb
  .simp_all
  .obtain⟨o,q,c,d⟩:=f
   grind
 keep:=λi h h' st k=>by
  obtain⟨⟨g,l⟩,f⟩:=st;exact⟨⟨g,k e nofun _ l⟩,f.at λo q=>k j nofun o q⟩
 item:=by
  intro X J A F M i pins s σ H E I y st G;subst J A F;obtain⟨xs,x,v,C⟩:=G;obtain⟨its,B,p,hz⟩:=I.list v;obtain⟨u,hu,T⟩:=B.get C;obtain⟨⟨g,l⟩,f⟩:=st;refine wpAny_pyNext_enum_item l f p.isList (x:=u) (by grind) n λh' ho r N hsz O=>?_;refine⟨_,rfl,wpAny_letOwnedTupleGo_enum ho λh2 D m=>?_⟩;have U:=I.fresh
  have t:∀b∈[e,j],b≠(~~~s):=λb hb z=>by
   rcases qu hb with rfl|hb
   .grind
   .obtain⟨o,q,_⟩:=f
    exact absurd (ql q) (by ext)
  have Q:∀b o,b∉[e,j]->_:=λb o hb q=>by
   have L:b≠e:=λz=>hb (by simp[z]);have S:b≠j:=λz=>hb (by simp[z]);exact(m.2 b L).trans (O b o L S q)
  have W:=(m.2 _ (Ne.symm (t e nofun))).trans N;refine⟨.ref _,upd H _ _,Nd (s:=s) (t':=s.toks+1) I y Q (qv _) ?_,rfl,⟨x,~~~s,λys R=>by rw[I.list_inj R v];exact C,U,rfl,rfl⟩,⟨⟨_,by simpa using D⟩,r.at λo q=>(m.2 j (Ne.symm n)).trans q⟩,λb hb=>?_⟩
  .exact⟨by rw[jf];ext,[.int i s.toks,u],.cons ⟨_,rfl⟩ (.cons T .nil),_,W,rfl,0,rfl⟩
  .rw[Yl (t b hb)];exact(y b hb).1
 done:=by
  intro X J A F M i pins s σ H E I y st G;subst J A F;obtain⟨xs,v,C⟩:=G;obtain⟨its,B,p,hz⟩:=I.list v;obtain⟨⟨g,l⟩,f⟩:=st;obtain⟨f0,f1,f2,V,Z,f5⟩:=y j nofun;have hl:=B.length
  exact wpAny_pyNext_enum_end (I.ok.hd M) l f p.isList (by simp;lia) λh' Y=>⟨rfl,I.turned (λb o hb e=>Y b o hb e) f0 f1 V Z f5⟩
 self:=λ_ _ _ _ _ st h=>let ⟨⟨_,l⟩,_⟩:=st;wpAny_pyIter_enum l h
theorem Tg(a j e:Addr)(n:e≠j):d7 P w K (.Tuple elts x1 pt) (ox K a) [e,j] e (λi h=>(∃g,IsEnum h e j i g)/\h.IsTupleIter j a i) where
 mem:=by simp
 obj:=λi h st b hb=>by
  obtain⟨⟨g,l⟩,f⟩:=st;rcases qu hb with rfl|hb
  .grind
  .obtain⟨o,q,c,d⟩:=f
   symm
 keep:=λi h h' st k=>by
  obtain⟨⟨g,l⟩,f⟩:=st;exact⟨⟨g,k e nofun _ l⟩,f.at λo q=>k j nofun o q⟩
 item:=by
  intro X J A F M i pins s σ H E I y st G;subst J A F;obtain⟨xs,x,v,C⟩:=G;obtain⟨its,B,p,hz⟩:=I.tuple v;obtain⟨u,hu,T⟩:=B.get C;obtain⟨⟨g,l⟩,f⟩:=st;refine Ta l f (p) (x:=u) ⋯ n λh' ho r N hsz O=>?_;refine⟨_,rfl,wpAny_letOwnedTupleGo_enum ho λh2 D m=>?_⟩;have U:=I.fresh
  have t:∀b∈[e,j],b≠(~~~s):=λb hb z=>by
   rcases qu hb with rfl|hb
   .grind
   .obtain⟨o,q,_⟩:=f
    exact absurd (ql q) ⋯
  have Q:∀b o,b∉[e,j]->_:=λb o hb q=>by
   have L:b≠e:=λz=>hb (by simp[z]);have S:b≠j:=λz=>hb (by simp[z]);exact(m.2 b L).trans (O b o L S q)
  have W:=(m.2 _ (Ne.symm (t e nofun))).trans N;refine⟨.ref (~~~s),upd H _ _,Nd (s:=s) (t':=s.toks+1) I y Q (qv _) ?_,rfl,⟨x,~~~s,λys R=>by rw[I.tuple_inj R v];exact C,U,rfl,rfl⟩,⟨⟨_,by simpa using D⟩,r.at λo q=>(m.2 j (Ne.symm n)).trans q⟩,λb hb=>?_⟩
  .exact⟨by rw[jf];symm,[.int i s.toks,u],.cons ⟨_,rfl⟩ (.cons T .nil),_,W,rfl,0,rfl⟩
  .rw[Yl (t b hb)];exact(y b hb).1
 done:=by
  intro X J A F M i pins s σ H E I y st G;subst J A F;obtain⟨xs,v,C⟩:=G;obtain⟨its,B,p,hz⟩:=I.tuple v;obtain⟨⟨g,l⟩,f⟩:=st;obtain⟨f0,f1,f2,V,Z,f5⟩:=y j nofun;have hl:=B.length
  exact Tb (I.ok.hd M) l f (p) (by simp;ac_nf) λh' Y=>⟨rfl,I.turned (λb o hb e=>Y b o hb e) f0 f1 V Z f5⟩
 self:=λ_ _ _ _ _ st h=>let ⟨⟨_,l⟩,_⟩:=st;wpAny_pyIter_enum l h
def B5(K:W7)(c:TA):TI:=λe H R=>c e H λf b=>∃a d,f=[.ref a]/\((SqL K b a d/\(d.length<=sizeLine->R (ou K a) b))\/(SqT K b a d/\(d.length<=sizeLine->R (ox K a) b)))
theorem B6(B:Gl X "enumerate")(w:X.mg "enumerate"=none)(y:PA X [l] A)(hs:aad X l:=by rfl):PI X (.Tuple elts x1 pt) (.Call (.Name "enumerate" p) [l] [] pos) (B5 X.K A):=by
 intro J s K H R I h;refine Call_ (iZ I B w boot_enumerate (PyProof.Rows.callWith_type1 (aM (y pos _ s K H _ I h) λM c t=>?_) hs rfl));obtain⟨N,v,f,x,z⟩:=t;obtain⟨a,O,rfl,q⟩:=z;obtain⟨u,rfl,D⟩:=ez x;cases D
 have j:∀(k:Heap),k.objs.size=c.heap.objs.size+2->(∀b o,c.heap.get? b=some o->k.get? b=some o)->∀b∈[c.heap.objs.size+1,c.heap.objs.size],_:=λk n g b L=>by
  have i:c.heap.objs.size<=b:=by
   ext<;>lia
  exact f.fpOk i (f.hok.fresh i)
 rcases q with⟨r,q⟩|⟨r,q⟩
 .obtain⟨F,C,G,n⟩:=f.list r
  exact call_enumerate_list G.isList λk m d e g=>wpAny_pyIter_enum m (⟨_,[c.heap.objs.size+1,c.heap.objs.size],_,_,v,rfl,f.kept g,Te a _ _ (Nat.succ_ne_self _),⟨⟨_,m⟩,d⟩,j k e g,q n⟩)
 .obtain⟨F,C,G,n⟩:=f.tuple r
  exact Td (G) λk m d e g=>wpAny_pyIter_enum m (⟨_,[c.heap.objs.size+1,c.heap.objs.size],_,_,v,rfl,f.kept g,Tg a _ _ (Nat.succ_ne_self _),⟨⟨_,m⟩,d⟩,j k e g,q n⟩)
noncomputable def fW(l:AN):AN:=(List.range l.length).map λi:Nat=>.tup [.int i,l.getD i .non]
def gn(c:D):Option AN:=(Yc c).map fW
theorem B7{i:Nat}(h:(fW l)[i]?=some d):∃e,l[i]?=some e/\d=.tup [.int i,e]:=by
 unfold fW at h;grind
def l9(l:AN):(fW l).length=l.length:=by simp[fW]
def Gr.newTup(s:Same G H)(a:H p=none)(i:Nat)(r:Rp K G d x):∃b,Gr H G (upd H p (.tup [.int i,x])) b/\Rp K b (.tup [.int i,d]) (.ref p):=⟨_,.new s a _,⟨p,_,rfl,Yh,.cons (by rw[Rp]) (.one (r.mono (Gr.new s a _).g))⟩⟩
noncomputable def gS(k:Int):Value->Bool
 | .int i _=>i==k
 | .bool b=>(if b then 1 else 0)==k
 | _=>false
theorem l_(h:gS k v=true):(∃t,v=.int k t)\/∃b:Bool,v=.bool b/\k=if b then 1 else 0:=by
 cases v with
 | int i t=>
   have e:=by simpa [gS]using h
   grind
 | bool b=>
   have e:=by simpa [gS]using h
   ext
 | _=>simp[gS]at h
theorem Th(h:Q (hashInt (if b then 1 else 0)) {s with toks:=s.toks+1}):
 wpAny (mZ prog w) A (pyHash (.bool b)) Q E s:=by
 have a:s.TypeIs (.bool b) "bool":=rfl;refine wa ?_;refine wb ?_;refine wa (wpAny_specialOf a F.slot_bool_hash.lookup ?_);refine wa (wpAny_specialOf a F.slot_bool_hash.lookup ?_)
 refine wa (wpAny_callSpecialIfBoundUnlessNone?_slot a F.slot_bool_hash
  (we F.slot_bool_hash a entry_int_hash
   (wpAny_ret_mkInt ?_) (args_int_hash _)))
 show wpAny _ _ (if _ then _ else _) Q E _;rw[if_pos (by split<;>ext)];exact wb h
def dP(prog:P7)(w:World):KeyKind prog w Int where
 is:=gS
 hash:=hashInt
 inj:=λv a b j m=>by
  rcases l_ j with⟨t,rfl⟩|⟨c,rfl,rfl⟩
  .have e:a=b:=by simpa [gS]using m
   exact e
  .have e:=by simpa [gS]using m
   exact e
 byValue:=λk v h=>by
  rcases l_ h with⟨t,rfl⟩|⟨c,rfl,rfl⟩<;>rfl
 pyHash:=λg h=>by
  rcases l_ g with⟨t,rfl⟩|⟨c,rfl,rfl⟩
  .exact wpAny_pyHash_int h
  .exact Th h
 eqBool:=λ{A E s a b u v Q} i g h=>by
  rcases l_ i with⟨t,rfl⟩|⟨c,rfl,rfl⟩
  .rcases l_ g with⟨l,rfl⟩|⟨f,rfl,rfl⟩
   .exact wpAny_eqBool_int (by grind)
   .exact SeqAt.EqAt.int_bool a t f _ _ _ _ (by grind)
  .rcases l_ g with⟨l,rfl⟩|⟨f,rfl,rfl⟩
   .exact SeqAt.EqAt.bool_int c b l _ _ _ _ (by grind)
   .refine SeqAt.EqAt.bool_bool c f _ _ _ _ ?_
    have e:(c==f)=decide ((if c=true then (1:Int)else 0)=if f=true then 1 else 0):=by split<;>ext
    ext
 «strs»:=λk x t v h=>by simp[gS]at h
def B8(h:h8 x=some i)(r:RelV x u):(dP P w).is i u=true:=by
 cases x<;>simp[h8]at h
 .subst h
  cases (r);simp[dP,gS]
 .subst h
  obtain⟨t,rfl⟩:=r;simp[dP,gS]
theorem Nf:∀{xs:AM}{ks:AF}{us:AC},dZ xs=some ks->Vals xs us->ItemsAre (dP P w) ks us
 | [],ks,us,h,r=>by
   cases h;cases r;exact .nil
 | x::xs,ks,us,h,r=>by
   obtain⟨i,c,h⟩:=qa h;obtain⟨l,b,rfl⟩:=qc h
   cases r with
   | cons a d=>exact .cons (B8 c a) (Nf b d)
def kc(f:HOk P w H h)(e:H b=some (.tup ys))(n:dZ ys=some ks):(tupleKind (dP P w)).is h ks b:=by
 obtain⟨_,a,r,o,g,d,k,c⟩:=f b _ e;exact⟨o,a.toArray,k,g,d,c,by simpa using Nf n r⟩
noncomputable abbrev bK(nks:List (List Int×Addr))(us:AC):List (List Int×Addr×Value):=(nks.zip us).map λp=>(p.1.1,p.1.2,p.2)
theorem Ti(h:us.length=nks.length):(bK nks us).map (·.1)=nks.map (·.1):=by
 have:nks=(nks.zip us).map (·.1):=by rw[List.map_fst_zip (by ext)]
 conv=>rhs;rw[this]
 simp
def oy(b:HOk P w H h)(k:Same G H)(e:H a=some (d_ a nks vxs j))(v:nks.length=vxs.length)(hn:(nks.map (·.1)).Nodup)(u:∀p∈nks,∃ys,G p.2=some (.tup ys)/\dZ ys=some p.1):(a==sysModules)=false/\∃us,Vals vxs us/\us.length=nks.length/\h.DictOfH (tupleKind (dP P w)) a (bK nks us):=by
 obtain⟨⟨i,us,o,q,r,t,m,n,l⟩,_⟩:=b a _ e
 have c:us.length=nks.length:=by rw[v,r.length]
 refine⟨i,us,r,c,o,q,j,t,m,n,?_,λx g=>?_,by rwa [Ti c]⟩
 .rw[l,Qf]
  rfl
 .obtain⟨p,d,rfl⟩:=qy g
  obtain⟨ys,f,s⟩:=u p.1 (List.of_mem_zip d).1;exact kc b (k _ _ f) s
noncomputable def Yn{a b:Type}[DecidableEq a]:List a->List b->a->Option b
 | k::ks,v::vs,x=>if k=x then some v else Yn ks vs x
 | _,_,_=>none
theorem B9(k:AF):∀(nks:List (List Int×Addr)) (us:AC),(atKey (bK nks us) k).map (·.2)=Yn (nks.map (·.1)) us k
 | [],us=>by cases us<;>simp[atKey,Yn]
 | p::nks,[]=>by constructor<;>ac_nf
 | p::nks,u::us=>by
   by_cases e:p.1=k
   .simp[atKey,Yn,e]
   .simp only[bK,List.zip_cons_cons,Qd,atKey,List.find?_cons,e,Yn]
    exact(B9 k nks us)
theorem Ng[DecidableEq a](x:a):∀{ks:List a}{vxs:AM}{us:AC},Vals vxs us->RelO (Yn ks vxs x) (Yn ks us x)
 | [],_,_,_=>.intro
 | k::ks,_,_,.nil=>.intro
 | k::ks,_,_,.cons r t=>by
   by_cases e:k=x
   .simp [Yn,if_pos e];exact r
   .simp [Yn,if_neg e];exact Ng x t
theorem oz[DecidableEq a](x:a):∀{ks:List a}{vs:AN}{vxs:AM},RpL K G vs vxs->(∀d,Yn ks vs x=some d->∃v,Yn ks vxs x=some v/\Rp K G d v)/\(Yn ks vs x=none->Yn ks vxs x=none)
 | [],_,_,_=>⟨λd h=>by simp[Yn]at h,λ_=>by simp[Yn]⟩
 | k::ks,[],_,r=>by
   subst r;exact⟨λd h=>by simp[Yn]at h,λ_=>by simp[Yn]⟩
 | k::ks,d::vs,_,r=>by
   obtain⟨y,f,rfl,c,b⟩:=r;by_cases e:k=x
   .simp [Yn]
    ext
   .simp [Yn,if_neg e]
    exact oz x b
noncomputable def aQ{a b:Type}[DecidableEq a]:List a->List b->a->b->List b
 | k::ks,v::vs,x,y=>if k=x then y::vs else v::aQ ks vs x y
 | _,vs,_,_=>vs
theorem oA[DecidableEq a](x:a)(y:b):∀(ks:List a) (vs:List b),(aQ ks vs x y).length=vs.length
 | [],vs=>by cases vs<;>simp[aQ]
 | k::ks,[]=>by simp[aQ]
 | k::ks,v::vs=>by
   simp [aQ]
   split
   .simp
   .simp[oA x y ks vs]
theorem Nh[DecidableEq a](x:a)(b:RelV y u):∀{ks:List a}{vxs:AM}{us:AC},Vals vxs us->Vals (aQ ks vxs x y) (aQ ks us x u)
 | [],_,_,.nil=>.nil
 | [],_,_,.cons r t=>.cons r t
 | k::ks,_,_,.nil=>.nil
 | k::ks,_,_,.cons r t=>by
   simp [aQ]
   split
   .exact .cons b t
   .exact .cons r (Nh x b t)
theorem t8[DecidableEq f](x:f)(c:Rp K G d y):∀{ks:List f}{vs:AN}{vxs:AM},RpL K G vs vxs->RpL K G (aQ ks vs x d) (aQ ks vxs x y)
 | [],[],_,r=>by simpa [aQ]using r
 | [],_::_,_,r=>by
   obtain⟨z,g,rfl,b,a⟩:=r;exact .cons b a
 | k::ks,[],_,r=>by
   subst r;exact .nil
 | k::ks,e::vs,_,r=>by
   obtain⟨z,g,rfl,b,a⟩:=r;simp [aQ]
   split
   .exact .cons c a
   .exact .cons b (t8 x c a)
theorem Ni{b:Addr}:∀{nks:List (List Int×Addr)}{us:AC},us.length=nks.length->(nks.map (·.1)).Nodup->k∈nks.map (·.1)->(bK nks us).map (putAt k u)=bK nks (aQ (nks.map (·.1)) us k u)
 | [],us,_,_,h=>by simp at h
 | p::nks,[],d,_,_=>by simp at d
 | p::nks,v::us,d,f,l=>by
   rw[Qd,List.nodup_cons]at f;by_cases e:p.1=k
   .have a:k∉nks.map (·.1):=by grind
    simp only[bK,List.zip_cons_cons,Qd,aQ,e]
    congr 1
    .simp[putAt,e]
    .refine(Qq λx g=>?_).trans (List.map_id _)
     obtain⟨q,i,rfl⟩:=qy g;have:¬_:=λz=>a (List.mem_map.mpr ⟨q.1,(List.of_mem_zip i).1,z⟩);simp[putAt,this]
   .have c:k∈nks.map (·.1):=by
     grind
    have j:=Ni (b:=b) (u:=u) (us:=us) (by ext) f.2 c;simp only[bK,List.zip_cons_cons,Qd,aQ,e]
    congr 1
    .simp[putAt,e]
theorem kf[DecidableEq a]:∀{ks:List a}{vs:List c},vs.length=ks.length->(Yn ks vs x=none↔x∉ks)
 | [],_,_=>by simp[Yn]
 | k::ks,[],h=>by simp at h
 | k::ks,v::vs,h=>by
   by_cases e:k=x
   .simp[Yn,e]
   .have b:¬x=k:=λz=>e z.symm
    simp [Yn,e,b];exact kf (by simpa using h)
section
open Sem (wp)
def Tj:typeLookup (.type "list_reverseiterator") "__len__"=pure none:=by kernel_rfl
def B_:typeLookup (.type "list_reverseiterator") "__length_hint__"=pure (some (.builtin "list_reverseiterator.__length_hint__")):=by kernel_rfl
theorem Tn{prog:P7}{w:World}{A:Around}{s:Shared}{R:Result->Shared->Prop}{I:Addr}{o q:List Addr}{G:Array GenState->Array GenState->Prop}{n:Nat}{P:Nat->Value->Prop}{St:Nat->Shared->Prop}(W:WalksS prog w A.in1 I o q G n P St)(j:∀i s,St i s->s.TypeIs (.ref I) "list_reverseiterator")(S:Addr)(c:Value)(g:Nat)(a:St 0 s)(h:S∉o)(t:I∈o)(r:s.heap.get? S=some {cls:=.type "list",data:=.seq #[] g})(u:∀s' b k,Moved (S::q) G s s'->s'.heap.get? S=some {cls:=.type "list",dict:=none,data:=.seq b k,slots:=#[]}->ItemsOf P b n->R (.ok (.ret c)) s')(hn:n<=sizeLine):
 wpAny (mZ prog w) A.in1 (Builtin.List.listExtendWith (.ref S) (.ref I) c)
  (λl s'=>match l with|.done f=>R (.ok f) s'|.again k=>k.quiet=true/\codeAny (mZ prog w) A k R s') (λe s'=>R (.error e) s') s:=by
 have m:S≠I:=λe=>h (e ▸ t)
 have v:Builtin.List.listSameRef (.ref S) (.ref I)=false:=by simp[Builtin.List.listSameRef,m]
 refine wa (wpAny_typeOf (j 0 _ a) ?_);rw[if_neg (by ext)];refine wa (W.self 0 _ _ _ a ?_);refine wa (wc ?_);refine wa (wpAny_specialOf (j 0 _ a) Tj ?_);refine wa (wpAny_specialOf (j 0 _ a) B_ ?_)
 (generalize d:("list_reverseiterator.__length_hint__")=p;wp_delta;rw[show splitId p=some ("list_reverseiterator","__length_hint__") from by subst d;decide +kernel];subst d)
 refine wa (wpAny_isInstance (b:=true) (j 0 _ a) (by kernel_rfl) ?_);refine wb ?_;exact wb ⟨jb F.plain_extend_loop _,codeAny_extend_loopS W hn _ h _ n 0 _ _ _ rfl (Qh _) a r (.nil P) u⟩
section
variable {w:World}{A:Around}{E:AA}{s:Shared}{I:Addr}{G:Array GenState->Array GenState->Prop}{n:Nat}{P:Nat->Value->Prop}{St:Nat->Shared->Prop}
theorem To(W:WalksS prog w A.in1 I fp wr G n P St)(hT:∀i s,St i s->s.TypeIs (.ref I) "list_reverseiterator")(hst:St 0 s)(hfp:∀b∈fp,b< ~~~s)(hI:I∈fp)(hQ:∀s' acc,Moved wr G s s'->ItemsOf P acc n->Q acc.toList s')(hn:n<=sizeLine):wpAny (mZ prog w) A (collect (.ref I)) Q E s:=by
 have hSf:(~~~s)∉fp:=λhm=>Nat.lt_irrefl _ (hfp _ hm);unfold collect;refine wa (wpAny_runValue (wy F.entry_proto_collect ?_));rw[jc F.plain_proto_collect _];show wpAny _ A.in1 (newList []>>=λl=>again (.builtin "list.__iadd__" ⟨[l,.ref I],[]⟩)) _ _ s;refine wa (wg ?_);refine wb ⟨jb F.plain_list_iadd _,wy F.entry_list_iadd ?_⟩;rw[jc F.plain_list_iadd _];have hst₁:=W.frame 0 s (s.heap.push {cls:=.type "list",data:=.seq ([]:AC).toArray}) s.toks hst (qv _) λb _ o e=>qe _ e;have hS₁:(s.heap.push {cls:=.type "list",data:=.seq ([]:AC).toArray}).get? (~~~s)=some {cls:=.type "list",data:=.seq ([]:AC).toArray}:=qp _ rfl;show wpAny _ A.in1 (Builtin.List.listExtendWith (.ref (~~~s)) (.ref I) (.ref (~~~s))) _ _ _
 refine wz (Tn (A:=A) (R:=λr s'=>r=.ok (.ret (.ref (~~~s)))/\∃acc' c',Moved (~~~s::wr) G {s with heap:=s.heap.push {cls:=.type "list",data:=.seq ([]:AC).toArray} } s'/\s'.heap.get? (~~~s)=some {cls:=.type "list",dict:=none,data:=.seq acc' c',slots:=#[]}/\ItemsOf P acc' n)
  W hT _ _ 0 hst₁ hSf hI hS₁ (λs' acc' c' a b c=>⟨rfl,acc',c',a,b,c⟩) hn) (λfin s' h=>?_) (λe s' h=>?_)
 .have fin':∀s' acc' c',Moved (~~~s::wr) G {s with heap:=s.heap.push {cls:=.type "list",data:=.seq ([]:AC).toArray} } s'->s'.heap.get? (~~~s)=some {cls:=.type "list",dict:=none,data:=.seq acc' c',slots:=#[]}->ItemsOf P acc' n->
   wpAny (mZ prog w) A (match Value.ref (~~~s) with
    | Value.ref a=>do
      match (<-load a).data with
       | Data.seq xs _=>pure xs.toList
       | _=>unsupported "internal:collect"
    | _=>unsupported "internal:collect") Q E s':=λs' acc' c' hm hS' hacc=>by
   show wpAny _ A (load (~~~s)>>=_) _ _ s';refine wa (wpAny_load hS' ?_);exact wb (hQ s' acc' (Moved.drop_new (o:={cls:=.type "list",data:=.seq ([]:AC).toArray}) (tk:=s.toks) hm (qv _)) hacc)
  cases fin with
  | done f=>
    obtain⟨e,acc',c',a,b,c⟩:=h;cases e;exact fin' _ acc' c' a b c
  | again c'=>exact⟨h.1,codeAny_mono h.2 λr s'' hr=>by obtain⟨rfl,acc',c',a,b,c⟩:=hr;exact fin' _ acc' c' a b c⟩
 .exact absurd h.1 nofun
theorem Tp{Q₁:AA}(W:WalksS prog w A.in1.in1 I fp wr G n P St)(k:∀i s,St i s->s.TypeIs (.ref I) "list_reverseiterator")(d:St 0 s)(f:∀b∈fp,b< ~~~s)(m:I∈fp)(h:∀s' a,Moved wr G s s'->ItemsOf P a n->Q₁ (.ref s'.heap.objs.size) { s' with heap:=s'.heap.push {cls:=.type "tuple",data:=.seq a} })(hsz:n<=sizeLine):
 codeAny (mZ prog w) A (.call (.builtin "tuple.__new__") ⟨[.type "tuple",.ref I],[]⟩) (wants Q₁ E) s:=by
 refine codeAny_of_tree ?_;refine wa (wpAny_of_eq (F.newCall_tuple_1 _) (wb ⟨jb F.plain_tuple_new _,wy F.entry_tuple_new ?_⟩));rw[jc F.plain_tuple_new _];have j:=sub_tuple_self;have g:=init_tuple_lookup;have l:=madeHere_tuple;have e:=k 0 s d
 wp_walk using wpAny_typeOf e,To (hn:=hsz) W k d f m
 intro s' a o c;show wpAny _ _ (Builtin.Tuple.tupleExact a.toList.toArray>>=λv=>ret v) _ _ _;unfold Builtin.Tuple.tupleExact;refine wa (wg ?_ (by show a.toList.toArray.size<=sizeLine;simp only[Array.toArray_toList];rw[c.1];exact hsz));refine wb ?_
 ext
def Tq(W:WalksS prog w A.in1.in1.in1 I fp wr G n P St)(l:∀i s,St i s->s.TypeIs (.ref I) "list_reverseiterator")(g:St 0 s)(h:∀b∈fp,b< ~~~s)(k:I∈fp)(m:∀s' d,Moved wr G s s'->ItemsOf P d n->Q (.ref s'.heap.objs.size) { s' with heap:=s'.heap.push {cls:=.type "tuple",data:=.seq d} })(hsz:n<=sizeLine):
 wpAny (mZ prog w) A (call (.type "tuple") [.ref I]) Q E s:=callType_codes (Q₁:=λe a=>a.TypeIs e _/\Q e a) F.called_tuple (F.typeCall_tuple_1 _) F.entry_object_init
 (Tp (hsz:=hsz) W l g h k λs' d j f=>⟨⟨_,qp _ rfl,rfl⟩,m s' d j f⟩) λe a c=>⟨c.1,F.args_object_init_2 e _,object_init_meets F.called_tuple.init.lookup F.called_tuple.made (by decide) _ w _ _ _ ⟨c.1,rfl,c.2⟩⟩
end
theorem Ts{items acc:Array Value}(h:ItemsOf (λi v=>items[items.size-1-i]?=some v) acc items.size):acc.toList=items.toList.reverse:=by
 obtain⟨h1,h2⟩:=h;apply List.ext_getElem?;intro i;by_cases hi:i<items.size
 .have hi2:i<acc.size:=by rw[h1];exact hi
  have e:=h2 i acc[i] (Array.getElem?_eq_getElem hi2);rw[List.getElem?_reverse (by simpa using hi)];rw[Array.getElem?_toList,Array.getElem?_toList,Array.getElem?_eq_getElem hi2,<-e];simp
 .rw[List.getElem?_eq_none (by simp;ac_nf),List.getElem?_eq_none (by simp;ac_nf)]
theorem Nj:∀{xs:AM}{us:AC},Vals xs us->Vals xs.reverse us.reverse
 | _,_,.nil=>.nil
 | _,_,.cons r t=>by
   rw[List.reverse_cons,List.reverse_cons];exact(Nj t).append (.cons r .nil)
section
variable {e:Expr}{p:Pos}
def Ca{σ:L2.St}(I:Inv X pins σ H s)(g:Gl X "reversed")(i:X.mg "reversed"=none)(m:PA X [e] ta)(h:ta σ H q)(hs:starEach [e] X.env=[(false,eval e X.env)])(k:∀vs c b,Inv X pins σ c b->q vs c->∃a xs its,vs=[.ref a]/\SqL X.K c a xs/\Vals xs its/\b.heap.IsList a its.toArray/\Q (.ref b.heap.objs.size) {b with heap:=b.heap.push (revObj a ((its.toArray.size:Int)-1))}):
 aag X (eval (.Call (.Name "reversed" p2) [e] [] pos2) X.env) Q X.xe s:=by
 refine Call_ (iZ I g i boot_reversed (PyProof.Rows.callWith_type1 (aM (m _ _ s σ H _ I h) λw b f=>?_) hs rfl));obtain⟨vs,c,o,l,n⟩:=f;obtain⟨a,xs,its,rfl,t,v,p,z⟩:=k vs c b o n;obtain⟨u,rfl,j⟩:=ez l;cases j;exact call_reversed_list p z
def Cb(K:W7)(ta:TA):TE:=λd H Q=>ta d H λe b=>∃a c,e=[.ref a]/\SqL K b a c/\∀l,b l=none->Q (.ref l) (upd b l (.tup c.reverse))
theorem Tt(R:X.calm=true)(V:Gl X "tuple")(G:X.mg "tuple"=none)(t:Gl X "reversed")(v:X.mg "reversed"=none)(T:PA X [e] ta)(hs:aad X e:=by rfl)(Y:starEach [.Call (.Name "reversed" p2) [e] [] pos2] X.env=[(false,eval (.Call (.Name "reversed" p2) [e] [] pos2) X.env)]:=by rfl):
 PE X (.Call (.Name "tuple" p) [.Call (.Name "reversed" p2) [e] [] pos2] [] pos) (Cb X.K ta):=by
 intro j s S H Q I h;refine wpAny_Call_Name_kw (iZ I V G boot_tuple ?_ (by decide) (by decide));refine PyProof.Rows.callWith_type1 ?_ Y rfl;refine Calls.spliced_cons (Ca I t v T h hs λvs F B y M=>?_);obtain⟨a,J,rfl,C,q⟩:=M;obtain⟨r,n,m,K⟩:=y.list C;refine⟨a,J,r,rfl,C,n,m.isList,Calls.spliced_nil ?_⟩
 have x:a≠B.heap.objs.size:=by
  obtain⟨o,A,_⟩:=m.isList;exact qm (ql A)
 have w:a<B.heap.objs.size:=by
  obtain⟨o,A,_⟩:=m.isList;exact ql A
 have Z:=n.length;refine Tq (Walks.listRev (show X.A.in1.in1.in1.handled=none from y.ok.hd R) _ a x _).toS (λi s st=>st.2.1.typeIs) ⟨Qh _,⟨_,qp _ rfl,rfl,by simp[revObj]⟩,m.isList.push _⟩ (λb f=>?_) nofun (λU c k l=>?_) (by ext)
 .rw[ww]
  rcases qu f with rfl|f
  .exact Qa _
  .rw[List.mem_singleton.mp f];exact qx w
 .have N:∀b u,B.heap.get? b=some u->_:=λb u E=>by
   have f:=ql E;refine k.heap b u (λz=>?_) (qe _ E);rw[List.mem_singleton.mp z]at f;exact absurd f (Nat.lt_irrefl _)
  have L:=by simpa using Ts l
  have D:Inv X j S F U:=by
   have e:=Moved.eq_with k;rw[e];exact y.kept N
  refine⟨.ref _,upd F _ _,?_,rfl,q _ (D.hok.fresh (qv _))⟩
  have O:c=c.toList.toArray:=by simp
  exact D.laid (λb o e=>qe _ e) (qv _) (⟨by rw[List.length_reverse];exact K,c.toList,by rw[L];exact Nj n,by rw[<-O];exact IsTup.new _ _⟩)
def kg(f:AU):AV:=λa=>(b1 f oa a).map .reverse
variable {f:AU}
end
end
section
variable {e:Expr}{f fb:AU}
def Cc:V->AM->Hp->VK->Prop:=λx vs H Q=>∃l xs i y,x=.ref l/\vs=[.int i,y]/\H l=some (.lst xs)/\0<=i/\i<=xs.length/\xs.length<sizeLine/\Q .non (upd H l (.lst (xs.take i.toNat++y::xs.drop i.toNat)))
theorem Tu:nR X "list.insert" Cc:=by
 intro pins s σ H x vs v us Q I rx rv h;obtain⟨l,xs,i,y,rfl,rfl,hH,h0,hi,hz,q⟩:=h;cases rx;obtain⟨u1,u2,rfl,⟨t,rfl⟩,r2⟩:=nE rv;obtain⟨z,its,n,r,hl,e⟩:=I.lstM hH;have hn:=jf
 have hfit:¬(!Builtin.List.listFitsIndex i)=true:=by
  unfold Builtin.List.listFitsIndex;symm
 refine call_meets F.slot_list_insert ⟨_,e,rfl⟩ F.entry_list_insert (F.args_list_insert_3 _ _ _) (AutoSeq1.list_insert_list_int_val_1 l its.toArray n i t u2 hfit ⋯) ⟨e,?_⟩
 have hk:¬i<0:=by ac_nf
 have hm:min i.toNat its.length=i.toNat:=by ac_nf
 refine⟨.non,_,I.lset (its':=its.take i.toNat++u2::its.drop i.toNat) hH e ?_ ((r.take _).append (.cons r2 (r.drop _))) ?_,rfl,q⟩
 .grind
 symm
def gq(l:AN)(k d:D):Option AN:=(eh k).bind λi=>if decide (0<=i)&&decide (i<=l.length)&&decide (l.length<aA)then some (l.take i.toNat++d::l.drop i.toNat)else none
def Cd:V->AM->Hp->VK->Prop:=λx d H Q=>∃l b c a,x=.ref l/\d=[.ref b]/\H l=some (.lst c)/\Rd H b (.lst a)/\c.length+a.length<=sizeLine/\Q .non (upd H l (.lst (c++a)))
theorem Ce:nR X "list.extend" Cd:=by
 intro D s L H x J v K Q I p w h;obtain⟨l,b,G,B,rfl,rfl,j,m,C,q⟩:=h;cases p;obtain⟨u,rfl,o⟩:=w.one;cases o;obtain⟨z,d,n,r,A,e⟩:=I.lstM j;obtain⟨y,a,k,i,E⟩:=m.ok I.hok;have t:=i.length
 have g:d.toArray.size+a.toArray.size<=sizeLine:=by ext
 have c:¬(!d.toArray.isEmpty&&Builtin.List.listTooLong (d.toArray.size+a.toArray.size))=true:=by
  rw[Al g];symm
 refine call_meets F.slot_list_extend ⟨_,e,rfl⟩ F.entry_list_extend (F.args_list_extend_2 _ _)
  (AutoSeq1.list_extend_list_list_0 l _ n b _ k c (by ext) ∅) ⟨e,E,⟨.non,_,I.lset j e nofun (r.append i) ?_,rfl,q⟩⟩
 symm
def gu(l:AN)(d:D):Option AN:=match d with
 | .lst m=>if l.length+m.length<=aA then some (l++m)else none
 | _=>none
end
def SE(w:World):List DictEntry->List (Str×Str)->Prop:=Paired λe p=>e.hash=PyData.keyHash w.params p.1/\(∃t,e.key=.str p.1 t)/\(∃t,e.val=.str p.2 t)/\PyData.strOk p.2=true
def GD(K:W7)(w:World)(c:AD)(x:Str)(a:List (Str×Str)):Prop:=∃p o b d,c x=some (.ref p)/\K.lookup p=some o/\o.ExactDict/\o.data=.dict b d/\SE w b.toList a
theorem Nk:∀{l:List DictEntry}{c:List (Str×Str)},SE w l c->c.lookup k=some v->∃e t,l.find? (λe=>(PySem.strKind P w).is k e.key)=some e/\e.val=.str v t
 | _,_,.nil,h=>by simp at h
 | _,_,.cons (a:=e) (b:=p) r t,h=>by
   obtain⟨_,⟨o,d⟩,⟨g,j⟩,_⟩:=r;obtain⟨a,b⟩:=p;by_cases q:a=k
   .subst q
    simp at h;subst h;exact⟨e,g,by simp[d,PySem.strKind,Value.isStrOf],j⟩
   .have i:(k==a)=false:=by simpa using (λz=>q z.symm)
    obtain⟨n,f,s,m⟩:=Nk t (by simpa [List.lookup_cons,i]using h);refine⟨n,f,?_,m⟩;rw[List.find?_cons]
    have:(PySem.strKind P w).is k e.key=false:=by
     rw[d];show(a==k)=_;simpa using q
    rwa [this]
theorem Nl:∀{l:List DictEntry}{a:List (Str×Str)},SE w l a->∀e∈l,∃k,(PySem.strKind P w).is k e.key=true/\e.hash=(PySem.strKind P w).hash k
 | _,_,.nil,e,h=>by cases h
 | _,_,.cons (b:=p) r t,e,h=>by
   rcases qu h with rfl|h
   .obtain⟨d,⟨c,b⟩,_⟩:=r
    exact⟨p.1,by rw[b];simp[PySem.strKind,Value.isStrOf],d⟩
   .exact Nl t e h
theorem oB:∀{l:List DictEntry}{c:List (Str×Str)},SE w l c->c.lookup k=some v->PyData.strOk v=true
 | _,_,.nil,h=>by simp at h
 | _,_,.cons (b:=p) r t,h=>by
   obtain⟨a,b⟩:=p;by_cases q:k=a
   .simp_all
   .have d:(k==a)=false:=by simpa using q
    exact oB t (by simpa [List.lookup_cons,d]using h)
section
variable {x:Str}
noncomputable def il(a:List (Str×Str)):D->Option D
 | .str k=>(a.lookup k).map .str
 | _=>none
end
def Gr.updHid(g:Gr H G d a)(c:H p=none)(f:a p=none)(o:HO):Gr H G (upd d p o) a:=
 ⟨λb u e=>by rw[Yl (Yk e c)];exact g.h b u e,g.g,λb u e=>by rw[Yl (Yk e f)];exact g.s b u e,g.n⟩
def tK(x:Str):TE:=λ_ H Q=>Q (.str x) H
structure MP(X:Cx)(pos:Pos)(keys:List (Option Expr))(values:AK)(ks:AJ)(fs:List AU):Prop where
 len:ks.length=fs.length
 pps:nK X pos keys values ((ks.zip fs).map λp=>(tK p.1,tOf X.K p.2))
 all:keys.all (·.isSome)=true
 kv:keys.length=values.length
 kk:keys.length=ks.length
noncomputable def kh:D->Option Int
 | .int i=>some i
 | .bl b=>some (if b then 1 else 0)
 | _=>none
noncomputable def ki:AN->Option AF
 | []=>some []
 | d::l=>(kh d).bind λi=>(ki l).map (i::·)
def eW:D->Option AF
 | .tup l=>ki l
 | _=>none
noncomputable def fF:AN->Option (List AF)
 | []=>some []
 | d::l=>(eW d).bind λk=>(fF l).map (k::·)
def Cf(h:kh d=some i)(r:Rp K G d v):h8 v=some i:=by
 cases d<;>simp[kh]at h
 .subst h r
  rfl
 .subst h r
  rfl
theorem Cg:∀{l:AN}{xs:AM}{k:AF},ki l=some k->RpL K G l xs->dZ xs=some k
 | [],xs,k,h,r=>by
   cases h;subst r;rfl
 | d::l,xs,k,h,r=>by
   obtain⟨i,c,h⟩:=qa h;obtain⟨m,b,rfl⟩:=qc h;obtain⟨x,q,rfl,a,e⟩:=r;rw[dZ,Cf c a,Cg b e];rfl
def oD(h:eW d=some k)(r:Ct K G H d v):∃b ys,v=.ref b/\H b=some (.tup ys)/\G b=some (.tup ys)/\dZ ys=some k:=by
 cases d with
 | tup l=>
   obtain⟨b,ys,rfl,⟨a,e⟩,c⟩:=r;exact⟨b,ys,rfl,a,e,Cg h c⟩
 | _=>cases h
theorem t9:∀{ks:AN}{b:List AF}{nks:List (List Int×Addr)},fF ks=some b->RpL K G ks (nks.map λp=>V.ref p.2)->(∀p∈nks,∃ys,G p.2=some (.tup ys)/\dZ ys=some p.1)->nks.map (·.1)=b
 | [],b,nks,h,r,_=>by
   cases h;rw[RpL]at r;simpa using r
 | d::ks,b,nks,h,r,f=>by
   obtain⟨k,i,h⟩:=qa h;obtain⟨m,w,rfl⟩:=qc h;obtain⟨x,q,e,v,t⟩:=r
   cases nks with
   | nil=>cases e
   | cons p nks=>
     injection e with s u;subst s u;have A:=t9 w t λp o=>f p (qg _ o);obtain⟨ys,g,n⟩:=f p qh
     cases d with
     | tup l=>
       obtain⟨a,z,c,j,y⟩:=v;injection c with c;subst c;rw[g]at j;cases j;rw[Cg i y]at n;grind
     | _=>cases i
structure oE(H:Hp)(a:Addr)(nks:List (List Int×Addr))(vxs:AM):Prop where
 at':∃ep,H a=some (d_ a nks vxs ep)
 len:nks.length=vxs.length
 nd:(nks.map (·.1)).Nodup
 keys:∀p∈nks,∃ys,H p.2=some (.tup ys)/\dZ ys=some p.1
def t_{σ:L2.St}(I:Inv X pins σ H s)(d:oE H a nks vxs):
 (a==sysModules)=false/\∃us,Vals vxs us/\us.length=nks.length/\s.heap.DictOfH (tupleKind (dP X.prog X.w)) a (bK nks us):=by
 obtain⟨b,e⟩:=d.at';exact oy I.hok (.refl H) e d.len d.nd d.keys
def oG:R2:=λx y H Q=>∃a b d c e k v,x=.ref a/\y=.ref b/\oE H a d c/\H b=some (.tup e)/\dZ e=some k/\Yn (d.map (·.1)) c k=some v/\Q v H
def Ci(r:Vals vxs us)(b:Yn (nks.map (·.1)) vxs k=some z):∃p,atKey (bK nks us) k=some p/\RelV z p.2:=by
 have a:=Ng k (ks:=nks.map (·.1)) r;rw[b,<-B9 k nks us]at a
 cases h:atKey _ k with
 | none=>rw[h]at a;exact a.elim
 | some p=>rw[h]at a;exact⟨p,rfl,a⟩
theorem Cj(E:X.A.units+64<cLine):IxR X oG:=by
 intro c e g s G H x y v u Q I A D h w;obtain⟨a,b,n,C,F,k,z,rfl,rfl,o,m,j,t,q⟩:=h;cases A;cases D;obtain⟨l,K,r,J,f⟩:=t_ I o;obtain⟨p,B,i⟩:=Ci r t;exact tail_any f.typeIs PySem.F.slot_dict_getitem.lookup (wpAny_getItem_heap (by show _<_;grind) (kc I.hok m j) f B ⟨z,H,I.tok _,i,q⟩) w
def kj(e:Bool):R2:=λx y H Q=>∃a b c d f k,x=.ref b/\y=.ref a/\oE H a c d/\H b=some (.tup f)/\dZ f=some k/\Q (.bl (decide (k∈c.map (·.1))!=e)) H
theorem Ck(a:us.length=nks.length):(atKey (bK nks us) k).isSome=decide (k∈nks.map (·.1)):=by
 have c:=B9 k nks us;have b:=kf (x:=k) (ks:=nks.map (·.1)) (vs:=us) (by grind)
 cases h:atKey _ k with
 | none=>
   grind
 | some p=>
   grind
theorem oH(p:X.A.units+64<cLine):bX X (compareOp .In) (kj false):=by
 intro d s z H x y v u Q I l e h;obtain⟨a,b,m,o,w,k,rfl,rfl,g,j,i,q⟩:=h;cases l;cases e;obtain⟨c,t,r,f,n⟩:=t_ I g;refine wpAny_in_heap (by show _<_;symm) (kc I.hok j i) c n ⟨.bl _,H,I.tok _,?_,q⟩;rw[Ck f,Bool.bne_false];rfl
theorem Tv(p:X.A.units+64<cLine):bX X (compareOp .NotIn) (kj true):=by
 intro d s z H x y v u Q I l e h;obtain⟨a,b,m,o,w,k,rfl,rfl,g,j,i,q⟩:=h;cases l;cases e;obtain⟨c,t,r,f,n⟩:=t_ I g;refine wpAny_notIn_heap (by show _<_;ac_nf) (kc I.hok j i) c n ⟨.bl _,H,I.tok _,?_,q⟩;rw[Ck f,Bool.bne_true];rfl
def oI(d:(a==sysModules)=false)(r:Vals vxs us)(j:h'.DictOfH (tupleKind (dP P w)) a (bK nks us)):
 ∃c,∀H',ObjOk P w H' h' a (d_ a nks vxs c):=by
 obtain⟨o,e,c,b,g,m,i,_⟩:=j;refine⟨c,λH'=>⟨⟨d,us,o,e,r,b,g,m,?_⟩,⟨o,b⟩,λb g f k=>?_⟩⟩
 .rw[i,Qf]
  rfl
 .obtain⟨d,us,o,e,r,l,h⟩:=f
  exact⟨d,us,o,e,r,k o l,h⟩
def cV(nks:List (List Int×Addr))(vxs:AM)(k:AF)(b:Addr)(v:V):List (List Int×Addr)×AM:=
 if k∈nks.map (·.1)then (nks,aQ (nks.map (·.1)) vxs k v)else (nks++[(k,b)],vxs++[v])
def Cm:V->V->V->Hp->(Hp->Prop)->Prop:=λo i v H Q=>∃a b d c e k,o=.ref a/\i=.ref b/\oE H a d c/\H b=some (.tup e)/\dZ e=some k/\c.length<aA/\∀f,Q (upd H a (d_ a (cV d c k b v).1 (cV d c k b v).2 f))
theorem Tw(r:Vals xs us)(q:RelV v u):Vals (xs++[v]) (us++[u]):=by
 induction r with
 | nil=>exact .cons q .nil
 | cons a _ b=>exact .cons a b
theorem Cn(N:X.A.units+64<cLine):hJ X Cm:=by
 intro x s T H o i v U R u Q I B L y h;obtain⟨a,b,c,m,O,k,rfl,rfl,p,E,C,V,q⟩:=h;cases B;cases L;obtain⟨l,j,r,f,F⟩:=t_ I p;have t:=kc I.hok E C
 have K:(bK c j).length<=sizeLine:=by
  have:(bK c j).length<=c.length:=by ext
  have S:=gj (n:=c.length) (by rw[p.len];ac_nf)
  ext
 refine wpAny_setItem_heap (hsz:=K) (by show _<_;symm) t F λJ d same=>?_;have z:=Ck (k:=k) f;obtain⟨G,D⟩:=p.at'
 have g:∃w,∀M,ObjOk X.prog X.w M J a (d_ a (cV c m k b v).1 (cV c m k b v).2 w):=by
  unfold cV;by_cases n:k∈c.map (·.1)
  .rw[if_pos n]
   rw[wn n]at z
   have e:storedH (bK c j) k b u=bK c (aQ (c.map (·.1)) j k u):=by
    unfold storedH;rw[if_pos z];exact Ni (b:=b) f p.nd n
   rw[e]at d;exact oI l (Nh k y r) d
  .rw[if_neg n]
   have e:storedH (bK c j) k b u=bK (c++[(k,b)]) (j++[u]):=by
    unfold storedH;rw[if_neg (by ext)];unfold bK;rw[List.zip_append f.symm,wt];rfl
   rw[e]at d;exact oI l (Tw r y) d
 obtain⟨w,g⟩:=g;exact⟨_,nI I (by rw[D];exact .intro) same (let ⟨q,_,_,A,_⟩:=d;⟨q,A⟩) (g _),q w⟩
def kl(m:Same G H)(d:Dc true G H a kxs vxs):∃nks,oE H a nks vxs/\kxs=nks.map (λp=>V.ref p.2)/\∀p∈nks,∃ys,G p.2=some (.tup ys)/\dZ ys=some p.1:=by
 rcases d with⟨h,_⟩|⟨_,nks,k,j,f,l,e,b⟩
 .cases h
 .exact⟨nks,⟨⟨k,j⟩,f,l,λp c=>let ⟨ys,g,i⟩:=b p c;⟨ys,m _ _ g,i⟩⟩,e,b⟩
def bU:D->D->Option D
 | .dct true b a,k=>(fF b).bind λc=>(eW k).bind λx=>Yn c a x
 | _,_=>none
def Co:ec K oG bU:=by
 intro x y F E d H G Q h s C g q;unfold bU at h
 split at h
 .obtain⟨I,m,h⟩:=qa h
  obtain⟨z,w,l⟩:=qa h;obtain⟨a,A,c,rfl,i,k,j⟩:=C;obtain⟨f,t,rfl,o⟩:=kl s i;obtain⟨b,p,rfl,B,D,n⟩:=oD w g;have e:=t9 m k o;subst e;obtain⟨v,r,u⟩:=(oz z j).1 d l;exact⟨a,b,f,c,p,z,v,rfl,rfl,t,B,n,r,q v H G (.refl s) u⟩
 .cases h
def c8(a:Bool):D->D->Option Bool
 | k,.dct true c _=>(fF c).bind λb=>(eW k).map λx=>decide (x∈b)!=a
 | _,_=>none
def Cp:eM K (kj d) (c8 d):=by
 intro x y A B b H G Q h s r g q;unfold c8 at h
 split at h
 .obtain⟨C,l,h⟩:=qa h
  obtain⟨z,p,rfl⟩:=qc h;obtain⟨a,i,f,rfl,u,k,w⟩:=g;obtain⟨c,o,rfl,m⟩:=kl s u;obtain⟨b,j,rfl,t,v,n⟩:=oD p r;have e:=t9 l k m;subst e;exact⟨a,b,c,f,j,z,rfl,rfl,o,t,n,q⟩
 .cases h
section
variable {a b e:Expr}{fb f:AU}
def km(ks vs:AN)(k d:D):Option (List D×AN):=(fF ks).bind λa=>(eW k).bind λx=>if vs.length<aA then some (if x∈a then (ks,aQ a vs x d)else (ks++[k],vs++[d]))else none
noncomputable def ip(i:Nat):Ro->Option (List D×AN):=λc=>match c[i]? with
 | some (some (.od true b a))=>some (b,a)
 | _=>none
theorem Tx(h:ip i ρ=some l):ρ[i]?=some (some (B.od true l.1 l.2)):=by
 unfold ip at h;grind
def iq(i:Nat)(c f:AU):AR:=λa=>(f a).bind λd=>(ip i a).bind λl=>(c a).bind λk=>(km l.1 l.2 k d).map λb=>.nx (a.set i (some (.od true b.1 b.2)))
theorem RpL.snoc(r:Rp K G d y):∀{l:AN}{xs:AM},RpL K G l xs->RpL K G (l++[d]) (xs++[y])
 | [],_,h=>by
   subst h;exact .cons r .nil
 | e::l,_,h=>by
   obtain⟨x,q,rfl,c,g⟩:=h;exact .cons c (.snoc r g)
theorem Cq(k:A.units+64<cLine)(h:wpAny (mZ prog w) A (evalPairs (pairTrees [some g] [ve] env pos)) (λvs a=>∃(b:Addr) (n:AF) (u:Value),vs=[(.ref b,u)]/\(tupleKind (dP prog w)).is a.heap n b/\a.heap.DictOfH (tupleKind (dP prog w)) (~~~s) []/\
  ∀h' t,h'.DictOfH (tupleKind (dP prog w)) (~~~s) [(n,b,u)]->Heap.SameBut (~~~s) a.heap h'->Q (.ref (~~~s)) {a with heap:=h',toks:=t}) E
  {s with heap:=s.heap.push {cls:=.type "dict",data:=.dict #[]} }):
 wpAny (mZ prog w) A (eval (.Dict [some g] [ve] pos) env) Q E s:=by
 rw[arm_eval_Dict,(zip_pairTrees [some g] [ve] env pos rfl rfl),dictDisplay_pairs _ (λz=>by cases z) (by show 1<17;lia)];refine wa (wpAny_standAt (wa (wa (wpAny_alloc ?_))));refine wa (wc ?_);refine wa (wz h (λvs a i=>?_) λ_ _ e=>e);obtain⟨b,n,u,rfl,c,j,q⟩:=i;refine wc ?_;rw[List.forIn_cons];refine wa (wa (wa (wpAny_dictSet_heap (hsz:=by ext) (by show _<_;lia) c j λh' d same=>wb ?_)));refine wb (wb (wb (wb ?_)));exact q h' _ d same
def Cr(r:VV [(x,y)] ws):∃kv u,ws=[(kv,u)]/\RelV x kv/\RelV y u:=by
 cases r with
 | cons r t=>
   cases t;exact⟨_,_,rfl,r.1,r.2⟩
def Cu(c:List (TE×TE)):TE:=λh H Q=>∀p f,H p=none->zR c h (upd H p (d_ p [] [] f)) λg d=>d p=some (d_ p [] [] f)/\∃b e n v,g=[(.ref b,v)]/\d b=some (.tup e)/\dZ e=some n/\∀a,Q (.ref p) (upd d p (d_ p [(n,b)] [v] a))
theorem Cv(z:X.A.units+64<cLine)(h:nK X pos [some J] [ve] i):PE X (.Dict [some J] [ve] pos) (Cu i):=by
 intro m s x H Q I q;have l:=beq_eq_false_iff_ne.mpr (.symm (qm I.big));obtain⟨E,d⟩:=oI (nks:=[]) l .nil (.new _);refine Cq z (aM (h _ _ x _ _ (I.laid (t':=s.toks) (λ_ _ q=>qe _ q) (qv _) (d _)) (q _ _ (I.hok.fresh (qv _)))) λU R j=>?_);obtain⟨S,F,f,g,e,b,M,n,v,w,o,r,D⟩:=j;subst w;obtain⟨T,u,rfl,y,A⟩:=Cr g;obtain rfl:=y;obtain⟨_,O,L,_,C⟩:=oy f.hok (.refl F) e rfl List.nodup_nil (λp G=>by cases G);refine⟨b,n,u,rfl,kc f.hok o r,by simpa [bK]using C,λN t c same=>?_⟩;obtain⟨k,a⟩:=oI (nks:=[(n,b)]) l (.cons A .nil) c;exact⟨.ref _,_,nI f (by rw[e];exact .intro) same (let ⟨q,_,_,K,_⟩:=c;⟨q,K⟩) (a _),rfl,D k⟩
def ko(i:Nat)(c b:AU):AR:=λa=>(c a).bind λk=>(b a).bind λv=>(eW k).map λ_=>.nx (a.set i (some (.od true [k] [v])))
end
section
variable {a b c e:Expr}{fb fc:AU}
noncomputable def uA(fa fb fc:AU)(g b:D->D->Option Bool):AT:=λa=>
 (fa a).bind λx=>(fb a).bind λy=>(g x y).bind λk=>if k=true then (fc a).bind λz=>b y z else some false
theorem Cw(h:uA fa fb fc g g' ρ=some k):
 ∃x y,fa ρ=some x/\fb ρ=some y/\((g x y=some false/\k=false)\/(g x y=some true/\∃z,fc ρ=some z/\g' y z=some k)):=by
 obtain⟨x,e,h⟩:=qa h;obtain⟨y,d,h⟩:=qa h;obtain⟨q,c,h⟩:=qa h
 cases q with
 | false=>
   ext
 | true=>
   obtain⟨z,b,h⟩:=qa h
   ext
end
section
variable {e:Expr}{f:AU}{fc:AT}
noncomputable def oJ:D->Bool
 | .non|.bl _|.int _|.str _=>true
 | _=>false
def scal(d:D):Option D:=if oJ d=true then some d else none
def Rp.scal(h:oJ d=true)(r:Rp K G d v):Rp K a d v:=by
 cases d<;>first|(exact r)|cases h
def Gr.back(s:Same G H)(g:Gr H a H' c):Gr H G H' G:=⟨g.h,.refl _,s.trans g.h,λ_ h b=>absurd h b⟩
def oK(b:AE)(f:AU):AU:=λa=>(f (frz b a)).bind scal
def ir(is:AE)(f:AT):AT:=λρ=>f (frz is ρ)
mutual
def jg:D->Bool
 | .non=>true
 | .bl _=>true
 | .int _=>true
 | .str _=>true
 | .tup l=>ej l
 | .lst _=>false
 | .scr _=>false
 | .dct _ _ _=>false
 | .obj _ _ _=>false
 | .adr _=>false
def ej:AN->Bool
 | []=>true
 | d::l=>jg d&&ej l
end
mutual
theorem Rp.plain{G G':Hp}(c:∀b ys,G b=some (HO.tup ys)->G' b=some (HO.tup ys)):∀{d:D}{v:V},jg d=true->Rp K G d v->Rp K G' d v
 | .non,_,_,r=>r
 | .bl _,_,_,r=>r
 | .int _,_,_,r=>r
 | .str _,_,_,r=>r
 | .tup l,_,h,r=>by
   obtain⟨a,xs,e,g,q⟩:=r;exact⟨a,xs,e,c _ _ g,RpL.plain c h q⟩
 | .lst _,_,h,_=>by cases h
 | .scr _,_,h,_=>by cases h
 | .dct _ _ _,_,h,_=>by cases h
 | .obj _ _ _,_,h,_=>by cases h
 | .adr _,_,h,_=>by cases h
theorem RpL.plain{G G':Hp}(c:∀b ys,G b=some (HO.tup ys)->G' b=some (HO.tup ys)):∀{l:AN}{xs:AM},ej l=true->RpL K G l xs->RpL K G' l xs
 | [],_,_,r=>r
 | d::l,_,h,r=>by
   rw[ej,Qe]at h;obtain⟨x,xs,e,g,q⟩:=r;exact⟨x,xs,e,Rp.plain c h.1 g,RpL.plain c h.2 q⟩
end
def gT(b:AE)(f:AU):AU:=λa=>(f (frz b a)).bind λd=>if jg d=true then some d else none
end
noncomputable def zK(ns:AF)(vxs:AM):List (bW×V):=(ns.zip vxs).map λp=>(.inl p.1,p.2)
def kr(n:Int)(v:V)(ns:AF)(vxs:AM):zK (n::ns) (v::vxs)=(Sum.inl n,v)::zK ns vxs:=rfl
theorem oM:∀{a:List (bW×V)}{ns:AF},a.map (λp=>kV p.1)=ns.map V.int->a=zK ns (a.map (·.2))
 | [],ns,h=>by
   cases ns with
   | nil=>rfl
   | cons n ns=>cases h
 | (k,v)::a,[],h=>by cases h
 | (k,v)::a,n::ns,h=>by
   injection h with b c
   cases k with
   | inl i=>
     have:=by simp[kV]at b;exact b
     subst this;rw[Qd,kr,<-oM c]
   | inr x=>cases b
theorem uB(i:Int):∀(ns:AF) (vxs:AM),cJ (zK ns vxs) (Sum.inl i)=Yn ns vxs i
 | [],vxs=>by simp[zK,Yn,cJ]
 | n::ns,[]=>by simp[zK,Yn,cJ]
 | n::ns,v::vxs=>by
   rw[kr,Yn];by_cases h:n=i
   .rw[if_pos h,tN (by simp[h])]
   .rw[if_neg h,tQ (by simpa using h)]
    exact uB i ns vxs
theorem jh:∀(ns:AF) (vxs:AM),ns.length=vxs.length->(zK ns vxs).map (·.1)=ns.map Sum.inl
 | [],vxs,_=>rfl
 | n::ns,[],h=>by simp at h
 | n::ns,v::vxs,h=>by
   rw[kr,Qd,Qd,jh ns vxs (by simpa using h)]
theorem Cy(ns:AF)(vxs:AM)(h:ns.length=vxs.length):(zK ns vxs).length=ns.length:=by
 have:=congrArg List.length (jh ns vxs h);grind
theorem oN(i:Int):∀(ns:AF) (vxs:AM),ns.length=vxs.length->((zK ns vxs).any λa=>decide (a.1=Sum.inl i))=decide (i∈ns)
 | [],vxs,_=>by simp[zK]
 | n::ns,[],h=>by simp at h
 | n::ns,v::vxs,h=>by
   rw[kr,List.any_cons,oN i ns vxs (by simpa using h)];grind
theorem oO(i:Int)(y:V):∀(ns:AF) (vxs:AM),ns.length=vxs.length->ns.Nodup->(zK ns vxs).map (λa=>if a.1=Sum.inl i then (a.1,y)else a)=zK ns (aQ ns vxs i y)
 | [],vxs,_,_=>by simp[zK]
 | n::ns,[],h,_=>by simp at h
 | n::ns,v::vxs,h,d=>by
   obtain⟨g,f⟩:=List.nodup_cons.mp d
   have c:=by simpa using h
   rw[kr,Qd,aQ];by_cases e:n=i
   .subst e
    rw[if_pos rfl,if_pos rfl,kr]
    have:(zK ns vxs).map (λa=>if a.1=.inl n then (a.1,y)else a)=zK ns vxs:=by
     refine(Qq λa b=>?_).trans (List.map_id _);rw[if_neg]
     .rfl
     .have:a.1∈_:=Qs b
      rw[jh ns vxs c]at this;grind
    rw[this]
   .rw[if_neg (by simpa using e),if_neg e,kr,oO i y ns vxs c f]
def Cz(i:Int)(y:V):∀(ns:AF) (vxs:AM),ns.length=vxs.length->zK (ns++[i]) (vxs++[y])=zK ns vxs++[(Sum.inl i,y)]:=λns vxs h=>by
 unfold zK;rw[List.zip_append h,wt];rfl
def dC(ns:AF)(vxs:AM)(i:Int)(y:V):List Int×AM:=if i∈ns then (ns,aQ ns vxs i y)else (ns++[i],vxs++[y])
def oP(h:ns.length=vxs.length)(a:ns.Nodup)(i:Int)(y:V):cD (zK ns vxs) (Sum.inl i) y=zK (dC ns vxs i y).1 (dC ns vxs i y).2:=by
 unfold cD dC;rw[oN i ns vxs h];by_cases e:i∈ns
 .rw[if_pos (wn e),if_pos e]
  exact oO i y ns vxs h a
 .rw[if_neg (by simpa using e),if_neg e,Cz i y ns vxs h]
theorem Tz{ns:AF}(h:(ns.map (Sum.inl:Int->bW)).Nodup):ns.Nodup:=by symm
theorem TC{ns:AF}(h:ns.Nodup):(ns.map (Sum.inl:Int->bW)).Nodup:=by symm
def gU(k:intsD ks=some ns)(d:Dc false G H a b vxs)(r:RpL K G ks b):H a=some (.dK (zK ns vxs))/\ns.Nodup/\ns.length=vxs.length/\b=ns.map V.int:=by
 cases j8 k;have e:=j9 r;rcases d with⟨_,m,l,i,c,j⟩|⟨h,_⟩
 .rw[e]at c
  have f:=oM c.symm;rw[<-j]at f
  have g:ns.length=vxs.length:=by
   have:=congrArg List.length c;rw[j];simpa using this
  refine⟨by rw[l,<-f],?_,g,e⟩;rw[f,jh ns vxs g]at i;exact Tz i
 .cases h
theorem oQ(h:H a=some (.dK (zK ns vxs)))(c:ns.Nodup)(b:ns.length=vxs.length):Dc false G H a (ns.map V.int) vxs:=by
 refine .inl ⟨rfl,zK ns vxs,h,by rw[jh ns vxs b];exact TC c,?_,?_⟩
 .have:=congrArg (List.map kV) (jh ns vxs b)
  rw[Qf,Qf]at this;exact(this.trans (Qq λ_ _=>rfl)).symm
 .unfold zK
  rw[Qf];have:(λp:Int×V=>_)=λp=>p.2:=rfl;clear h c this
  induction ns generalizing vxs with
  | nil=>cases vxs with
    | nil=>rfl
    | cons=>simp at b
  | cons n ns d=>cases vxs with
    | nil=>simp at b
    | cons v vxs=>simp;exact d (by simpa using b)
def cN:D->D->Option D
 | .dct false c a,.int i=>(intsD c).bind λb=>Yn b a i
 | _,_=>none
def dD(a:Bool):D->D->Option Bool
 | .int i,.dct false b _=>(intsD b).map λc=>decide (i∈c)!=a
 | _,_=>none
def oR:R2:=λx y H Q=>∃a z,x=.ref a/\DGet H a y (some z)/\Q z H
def iu(b:Bool):R2:=λx y H Q=>∃a o,y=.ref a/\DGet H a x o/\Q (.bl (o.isSome != b)) H
def CA:ec K oR cN:=by
 intro x y o p d H G Q h s k b q;unfold cN at h
 split at h
 .rename_i w z i
  obtain⟨B,j,h⟩:=qa h;subst b;obtain⟨a,g,t,rfl,e,f,l⟩:=k;obtain⟨u,A,r,n⟩:=gU j e f;obtain⟨v,m,c⟩:=(oz i l).1 d h;refine⟨a,v,rfl,?_,q v H G (.refl s) c⟩;have:=DGet.k (k:=.inl i) u
  rwa [uB,m]at this
 .cases h
def TF{vxs:AM}{i:Int}(b:ns.length=vxs.length):(Yn ns vxs i).isSome=decide (i∈ns):=by
 cases h:Yn ns vxs i with
 | none=>
   have:=(kf b.symm).mp h;simp[this]
 | some v=>
   have:=Classical.byContradiction λz=>by
    rw[(kf b.symm).mpr z]at h;cases h
   simp[this]
def CB:eM K (iu c) (dD c):=by
 intro x y m o b H G Q h s j d q;unfold dD at h
 split at h
 .rename_i i v z
  obtain⟨u,l,rfl⟩:=qc h;subst j;obtain⟨a,e,r,rfl,k,f,n⟩:=d;obtain⟨t,w,g,p⟩:=gU l k f;refine⟨a,Yn u r i,rfl,?_,?_⟩
  .have:=DGet.k (k:=.inl i) t
   rwa [uB]at this
  .rwa [TF g]
 .cases h
section
theorem CD(l:X.A.units+64<cLine):IxR X oR:=by
 intro c b n s p H x y v u Q I f e h o;obtain⟨a,z,rfl,g,q⟩:=h;cases f;exact tail_any (Sa I g) PySem.F.slot_dict_getitem.lookup (R9 (by lia) I g e λj k i d=>⟨z,H,i,d,q⟩) o
theorem oS(f:X.A.units+64<cLine):bX X (compareOp .In) (iu false):=by
 intro b s i H x y v u Q I e c h;obtain⟨a,o,rfl,g,q⟩:=h;cases c
 exact zJ ∅ I g e λj d=>⟨.bl _,H,d,by simp;rfl,q⟩
theorem Nm(f:X.A.units+64<cLine):bX X (compareOp .NotIn) (iu true):=by
 intro i s j H x y v u Q I c b h;obtain⟨a,o,rfl,g,q⟩:=h;cases b
 exact zL ∅ I g c λe d=>⟨.bl _,H,d,by simp;rfl,q⟩
def CF:V->V->V->Hp->(Hp->Prop)->Prop:=λo i v H Q=>∃a b,o=.ref a/\DPut H a i v b/\Q b
theorem CG(k:X.A.units+64<cLine):hJ X CF:=by
 intro b s l H o i v p j u Q I d c f h;obtain⟨a,n,rfl,g,q⟩:=h;cases d
 exact R_ ∅ I g c f λm e=>⟨_,e,q⟩
variable {a b e:Expr}{fb f:AU}
noncomputable def ma(i:Nat):AR:=λa=>some (.nx (a.set i (some (.od false [] []))))
noncomputable def fX(i:Nat):Ro->Option (List D×AN):=λc=>match c[i]? with
 | some (some (.od false b a))=>some (b,a)
 | _=>none
theorem Nn(h:fX i ρ=some l):ρ[i]?=some (some (B.od false l.1 l.2)):=by
 unfold fX at h
 split at h
 .cases h;assumption
 .cases h
def md(ks vs:AN)(k d:D):Option (List D×AN):=(intsD ks).bind λa=>match k with
 | .int i=>if vs.length<aA then some (if i∈a then (ks,aQ a vs i d)else (ks++[k],vs++[d]))else none
 | _=>none
def oT(i:Nat)(c f:AU):AR:=λa=>(f a).bind λd=>(fX i a).bind λl=>(c a).bind λk=>(md l.1 l.2 k d).map λb=>.nx (a.set i (some (.od false b.1 b.2)))
def ji:D->D->D->Option D
 | .dct false c a,.int i,z=>(intsD c).map λb=>(Yn b a i).getD z
 | _,_,_=>none
noncomputable def b3{c:Type}(fa fb fc:AU)(g:D->D->D->Option c):Ro->Option c:=λa=>(fa a).bind λx=>(fb a).bind λy=>(fc a).bind λz=>g x y z
def TH(h:ji x y z=some d):∃ks vs i ns,x=.dct false ks vs/\y=.int i/\intsD ks=some ns/\d=(Yn ns vs i).getD z:=by
 unfold ji at h
 split at h
 .obtain⟨ns,a,b⟩:=qc h
  exact⟨_,_,_,ns,rfl,rfl,a,b.symm⟩
 .cases h
end
section
variable {w:World}{A:Around}{E:AA}{s:Shared}{e:Expr}{f:AU}{p:Pos}
def TJ:isSubtype (.type "dict") (.type "dict")=pure true:=by kernel_rfl
def TK(a:AF)(i:Nat)(v:Value):Prop:=∃k t,a[i]?=some k/\v=.int k t
theorem CH:∀{a:AC},a.length=b.length->(∀(j:Nat) v,a[j]?=some v->TK b j v)->IntsAre a b:=by
 induction b with
 | nil=>
   intro a h _;rw[List.length_eq_zero_iff.mp h];exact .nil
 | cons k r g=>
   intro a h e
   match a,h with
   | v::a,h=>
     obtain⟨f,t,c,d⟩:=e 0 v rfl;simp at c;subst c d;refine .cons _ t (g (by simpa using h) λj v i=>?_);obtain⟨f,t,c,d⟩:=e (j+1) v (by ext);exact⟨f,t,by ext,d⟩
theorem TL{ns:AF}(hh:A.handled=none)(hd:(a==sysModules)=false)(hS:s.heap.DictOf (cS prog w) a c)(hk:c.map (·.1)=ns.map Sum.inl)(hl:ns.length<=1000)(hQ:∀(h':Heap) (tk:Nat) (S:AC),~~~s<=h'.objs.size->(∀b o,s.heap.get? b=some o->h'.get? b=some o)->IntsAre S ns->Q S {s with heap:=h',toks:=tk}):
 wpAny (mZ prog w) A (collect (.ref a)) Q E s:=by
 obtain⟨o,es,R,ho,D,N,C⟩:=id hS;have hlt:a< ~~~s:=ql ho
 have r:c.length=ns.length:=by have:=congrArg List.length hk;symm
 unfold collect;refine wa (wpAny_runValue (wy F.entry_proto_collect ?_));rw[jc F.plain_proto_collect _];show wpAny _ A.in1 (newList []>>=λl=>again (.builtin "list.__iadd__" ⟨[l,.ref a],[]⟩)) _ _ s;refine wa (wg ?_);refine wb ⟨jb F.plain_list_iadd _,wy F.entry_list_iadd ?_⟩;rw[jc F.plain_list_iadd _];generalize Z:s.heap.push {cls:=.type "list",data:=.seq ([]:AC).toArray}=H
 have hHs:H.objs.size= ~~~s+1:=by rw[<-Z,ww]
 have f:∀b o,s.heap.get? b=some o->H.get? b=some o:=λb o e=>by rw[<-Z];exact qe _ e
 have hL:H.get? (~~~s)=some {cls:=.type "list",data:=.seq ([]:AC).toArray}:=by rw[<-Z];exact qp _ rfl
 have B:=f a o ho
 have hT:Shared.TypeIs {s with heap:=H} (.ref a) "dict":=⟨o,B,D.1⟩
 have hSI:(~~~s)≠a:=λz=>by symm
 have y:Builtin.List.listSameRef (.ref (~~~s)) (.ref a)=false:=by simp[Builtin.List.listSameRef,hSI]
 show wpAny _ A.in1 (Builtin.List.listExtendWith (.ref (~~~s)) (.ref a) (.ref (~~~s))) _ _ _;unfold Builtin.List.listExtendWith;refine wa (wpAny_typeOf hT ?_)
 have V:(Value.type "dict"==Value.type "list")=false:=by decide
 have h3:(Value.type "dict"==Value.type "tuple")=false:=by decide
 simp only[y,V,h3,Bool.or_false,Qo,if_false]
 have T:H.DictAt (cS prog w) a c R:=⟨o,es,B,D,N,C⟩
 refine wa (wpAny_pyIter_dict (s:={s with heap:=H}) hd T ?_);generalize hO:({cls:=.type "dict_keyiterator",data:=.fields #[.ref a,.int 0 0,.int c.length 0,.int R 0]}:Obj)=d;have hoI:(H.push d).get? a=some o:=qe _ B
 have G:Shared.TypeIs {s with heap:=H.push d} (.ref a) "dict":=⟨o,hoI,D.1⟩
 refine wa (wc ?_);unfold Builtin.List.listLengthHint;refine wa (wpAny_specialOf G F.slot_dict_len.lookup ?_);refine wa (wpAny_isInstance (b:=true) G TJ ?_);show wpAny _ A.in1 (typeOf (Value.ref a)>>=_) _ _ _;refine wa (wpAny_typeOf G ?_);refine wb ?_;rw[if_pos (by decide)];refine wa (wpAny_rule ?_)
 have Y:a≠H.objs.size:=λz=>by symm
 have O:(~~~s)∉[H.objs.size,a]:=λL=>by
  ext
 have m:(H.push d).get? (~~~s)=some {cls:=.type "list",data:=.seq ([]:AC).toArray}:=qe _ hL;refine wa ?_;show wpAny _ A.in1 (updateSeq (~~~s) (·.push .none)>>=λ_=>updateSeq (~~~s) (·.pop)) _ _ _;refine wa (wpAny_updateSeq m rfl ?_);have g:=wx (Obj.mapSeq (·.push Value.none)) m rfl;refine wpAny_updateSeq g rfl ?_;have u:=wx (Obj.mapSeq (·.pop)) g rfl
 have K:∀b o,b≠(~~~s)->(H.push d).get? b=some o->
  (((H.push d).update (~~~s) (Obj.mapSeq (·.push Value.none))).update (~~~s) (Obj.mapSeq (·.pop))).get? b=some o:=
  λb o I e=>(Heap.get?_update_other _ _ (Ne.symm I)).trans ((Heap.get?_update_other _ _ (Ne.symm I)).trans e)
 have W:=(Walks.dictKeys (prog:=prog) (w:=w) (knd:=cS prog w) (A:=A.in1) hh H.objs.size a Y c R).toS
 have hst:(H.push d).IsKeyIter H.objs.size a 0 c.length R/\(H.push d).DictAt (cS prog w) a c R:=⟨⟨_,qp _ (by rw[<-hO];rfl),by rw[<-hO],by symm⟩,T.at' λo e=>qe _ e⟩
 refine wb ⟨jb F.plain_extend_loop _,codeAny_extend_loopS W (by rw[jf,r];ac_nf) _ O _ c.length 0 _ _ _ rfl (Qh _)
  (W.frame 0 ({s with heap:=H.push d}:Shared) _ s.toks hst (qv _) λb I o e=>K b o (λh=>O (h ▸ I)) e) u (ItemsOf.nil _) λp M c' L J q=>?_⟩
 show wpAny _ A (load (~~~s)>>=_) _ _ p;refine wa (wpAny_load J ?_);have eg:p.gens=s.gens:=L.gens;have ed:p.drawn=s.drawn:=L.drawn;have eo:p.os=s.os:=L.os
 have es':p={s with heap:=p.heap,toks:=p.toks}:=by
  obtain⟨a1,a2,a3,a4,a5⟩:=p;symm
 rw[es'];refine wb (hQ p.heap p.toks M.toList (Nat.le_of_lt (ql J)) (λb ob e=>?_) (CH (by rw[qj,q.1,r]) λj v hj=>?_))
 .have I:b< ~~~s:=ql e
  refine L.heap b ob (λhm'=>?_) (K b ob (qm I) (qe _ (f b ob e)));symm
 .obtain⟨k,x,e1,e2⟩:=q.2 j v ⋯
  have U:(c.map (·.1))[j]?=some k:=by symm
  rw[hk,Qm]at U;obtain⟨n,hn,rfl⟩:=qc U;have e2':jL (Sum.inl n) v=true:=e2;rcases gJ e2' with⟨i,t,y,V⟩|⟨x,t,y,V⟩
  .injection y with y
   exact⟨n,t,hn,by rw[V,y]⟩
  .cases y
theorem TM{ns:AF}(q:A.handled=none)(u:(a==sysModules)=false)(z:s.heap.DictOf (cS prog w) a k)(v:k.map (·.1)=ns.map Sum.inl)(B:ns.length<64)(y:∀(h':Heap) (tk e:Nat) (p:Addr) (out:Array Value) (c:AF),(∀b o,s.heap.get? b=some o->h'.get? b=some o)->(~~~s)<=p->h'.get? p=some (seqObj "list" out e)->IntsAre out.toList c->c.Perm ns->c.Pairwise (·<=·)->
  Q (.ref p) {s with heap:=h',toks:=tk}):wpAny (mZ prog w) A (call (.builtin "sorted") [.ref a]) Q E s:=by
 refine Calls.call_function_entry kind_sorted plain_sorted entry_sorted (args_sorted1 _) (wa (wb (wa (TL q u z v (by lia) λh' tk h i d m=>?_))));have D:=IntsAre.length m
 have g:h.length<64:=by ext
 refine wa (wpAny_newList ?_ (by rw[jf];lia));have f:(h'.push (seqObj "list" h.toArray 0)).get? _=_:=qp _ rfl;refine wa (wc (we slot_list_sort ⟨_,f,rfl⟩ entry_list_sort (list_sort_tree (s:={s with heap:=h'.push (seqObj "list" _ 0),toks:=tk}) f m g λout c r n t=>⟨_,rfl,?_⟩) (args_list_sort _)));obtain⟨e,C⟩:=sortedHeap_at f;refine wb ⟨_,rfl,y _ tk e _ out c (λb o l=>?_) i C r n t⟩;have x:=ql (d b o l);rw[sortedHeap_old (qm x) (by rw[size_push'];grind)];exact qe _ (d b o l)
def Np:AM->Hp->VK->Prop:=λd H Q=>∃a b c,d=[.ref a]/\Rd H a (.dK b)/\b.map (·.1)=c.map .inl/\c.length<64/\∀p,H p=none->Q (.ref p) (upd H p (.lst ((de c).map .int)))
theorem TN(y:X.calm=true):dO X (.builtin "sorted") Np:=by
 intro l s K H F G Q I r h;obtain⟨a,D,c,rfl,k,m,w,q⟩:=h;obtain⟨u,rfl,C⟩:=ez r;cases C;obtain⟨z,A,E,f,n⟩:=i5 I.hok k
 have i:E.map (·.1)=c.map .inl:=by
  rw[<-m];clear m n z k
  induction f with
  | nil=>rfl
  | cons r _ O=>ext
 refine TM (I.ok.hd y) A n i w λJ N e p d B b o L t g x=>?_;have v:=W.ksm_same (g.trans (eU c).symm) x (gk c);subst v;have M:=(eU c).length_eq;exact⟨.ref p,_,.laid I b o (show ObjOk _ X.w _ _ _ (.lst _) from⟨by rw[qf,jf];ac_nf,d.toList,e,nS t,by ext⟩),rfl,q _ (I.hok.fresh o)⟩
def ku:AN->Option AN
 | [.dct false b _]=>(intsD b).bind λa=>if a.length<64 then some ((de a).map .int)else none
 | _=>none
def TQ:eN K Np ku:=by
 intro o t l H G Q h s r q;unfold ku at h
 split at h
 .obtain⟨v,rfl,f⟩:=fq r
  obtain⟨e,j,h⟩:=qa h
  split at h
  .rename_i d
   cases h;obtain⟨a,g,b,rfl,n,m,f⟩:=f;obtain⟨i,u,k,w⟩:=gU j n m;exact⟨a,_,e,rfl,.inl i,jh e b k,d,λp c=>q p _ _ G (.hid s c _) c (s.free c) Yh (.ints _)⟩
  .cases h
 .cases h
def dj{c:Sort _}{a b:c}(h:a=b):a=b:=h
@[simp] theorem Nq(a fb fc:AU)(g:D->D->D->Option b):b3 a fb fc g ρ=(a ρ).bind λx=>(fb ρ).bind λy=>(fc ρ).bind λz=>g x y z:=dj rfl
@[simp] theorem oU(i:Nat):ma i ρ=some (.nx (ρ.set i (some (.od false [] [])))):=dj rfl
@[simp] theorem oV(i:Nat)(a f:AU):oT i a f ρ=(f ρ).bind λd=>(fX i ρ).bind λl=>(a ρ).bind λk=>(md l.1 l.2 k d).map λb=>.nx (ρ.set i (some (.od false b.1 b.2))):=dj rfl
@[simp] theorem jk(ks vs:AN)(i:Int):cN (.dct false ks vs) (.int i)=(intsD ks).bind λns=>Yn ns vs i:=dj rfl
@[simp] theorem CI(a:Bool)(ks vs:AN)(i:Int):dD a (.int i) (.dct false ks vs)=(intsD ks).map λns=>decide (i∈ns)!=a:=dj rfl
@[simp] theorem CJ(ks vs:AN)(i:Int)(z:D):ji (.dct false ks vs) (.int i) z=(intsD ks).map λns=>(Yn ns vs i).getD z:=dj rfl
@[simp] theorem mf(ks vs:AN)(i:Int)(d:D):md ks vs (.int i) d=(intsD ks).bind λns=>if vs.length<aA then some (if i∈ns then (ks,aQ ns vs i d)else (ks++[.int i],vs++[d]))else none:=dj rfl
@[simp] theorem Nr(ks vs:AN):ku [.dct false ks vs]=(intsD ks).bind λns=>if ns.length<64 then some ((de ns).map D.int)else none:=dj rfl
@[simp] theorem TR(ks vs:AN)(r:Ro):fX 0 (some (.od false ks vs)::r)=some (ks,vs):=dj rfl
@[simp] theorem TU(n:Nat)(b:AQ)(r:Ro):fX (n+1) (b::r)=fX n r:=by simp[fX]
@[simp] theorem TV(t:Bool)(ks vs:AN)(r:Ro):aa 0 (some (.od t ks vs)::r)=some (.dct t ks vs):=dj rfl
end
section
variable {a b e:Expr}{fb f:AU}
def dQ:D->D->Option D:=i2 (λ_ j=>decide (0<=j)) λi j=>i/2^j.toNat
def TX{M:Model}{A:Around}{E:AA}{s:Shared}{Q:AA}{v:Value}{k:Bool}(hb:∀id,v≠.builtin id)(h:Q (.bool (v==.bool k)) s):wpAny M A (compareOp .Is v (.bool k)) Q E s:=by
 cases v<;>first|exact wb h|exact absurd rfl (hb _)
noncomputable def cv(k:Bool):D->Bool
 | .bl j=>j==k
 | _=>false
def oW(c:Bool):D->D->Option Bool
 | d,.bl k=>some (cv k d != c)
 | _,_=>none
def TY{x:V}{v:Value}(r:RelV x v)(k:Bool):(v==.bool k)=decide (x=.bl k):=by
 cases x with
 | bl j=>
   cases (r);by_cases h:j=k
   .subst h;simp
   .simp[h]
 | non=>cases (r);rfl
 | int i=>obtain⟨t,rfl⟩:=r;rfl
 | str i=>obtain⟨t,rfl⟩:=r;rfl
 | ref i=>cases (r);rfl
 | _=>first|(obtain⟨t,rfl⟩:=r;rfl)|(rfl)
def CK{x:V}{v:Value}(r:RelV x v):∀id,v≠.builtin id:=λid z=>by
 subst z
 cases x<;>first|(obtain⟨t,h⟩:=r;cases h)|(cases r)
def CL:bX X (compareOp .Is) (λx y H Q=>∃k,y=.bl k/\Q (.bl (decide (x=.bl k)!=false)) H):=by
 intro pins s σ H x y v u Q I c d h;obtain⟨k,rfl,q⟩:=h;cases d;refine TX (CK c) ⟨_,H,I,?_,q⟩;rw[TY c];simp;rfl
def CM{G H:Hp}{d:D}{v:V}(r:Ct K G H d v)(k:Bool):decide (v=.bl k)=cv k d:=by
 cases d with
 | bl j=>
   subst r;by_cases h:j=k
   .subst h;simp[cv]
   .simp[cv,h]
 | non=>subst r;simp[cv]
 | int i=>subst r;simp[cv]
 | str i=>obtain⟨rfl,_⟩:=r;simp[cv]
 | tup l=>obtain⟨a,b,rfl,_⟩:=r;simp[cv]
 | lst l=>obtain⟨a,b,rfl,_⟩:=r;simp[cv]
 | scr l=>obtain⟨a,rfl,_⟩:=r;simp[cv]
 | dct t l m=>obtain⟨a,b,e,rfl,_⟩:=r;simp[cv]
 | obj t l m=>obtain⟨a,C,c,b,rfl,_⟩:=r;simp[cv]
 | adr a=>subst r;simp[cv]
def CN{d:Bool}:eM K (λx y H Q=>∃k,y=.bl k/\Q (.bl (decide (x=.bl k)!=d)) H) (oW d):=by
 intro x y j l c H G Q h s i g q;unfold oW at h
 split at h
 .rename_i k
  cases h;subst g;exact⟨k,rfl,by rwa [CM i k]⟩
 .cases h
def TZ{c:Sort _}{a b:c}(h:a=b):a=b:=h
@[simp] theorem CO(c:Bool)(d:D)(k:Bool):oW c d (.bl k)=some (cv k d != c):=TZ rfl
def mh(i:Int)(j:Nat):dQ (.int i) (.int (j:Int))=some (.int (i/2^j)):=by
 simp[dQ,i2]
end
section
variable {w:World}{A:Around}{E:AA}{s:Shared}
def T3:typeLookup (.type "list") "keys"=pure none:=by kernel_rfl
theorem Nt(i:s.heap.get? a=some o)(m:o.cls=.type "list")(j:o.dict=none)(p:o.data=.seq its n)(q:A.handled=none)(x:∀J tk,(∀b k,s.heap.get? b=some k->J.get? b=some k)->Q none {s with heap:=J,toks:=tk}):
 wpAny (mZ prog w) A (getAttr? (.ref a) "keys") Q E s:=by
 obtain⟨c,z,v,r⟩:=o;simp only at m j p;subst m j p;obtain⟨y,g,d,tk,os⟩:=s
 have l:∀f,(⟨y,g,d,f,os⟩:Shared).TypeIs (.ref a) "list":=λ_=>⟨_,i,rfl⟩
 have I:=sub_AttributeError;have H:=F.slot_list_getattribute.lookup;have G:=F.slot_list_getattribute.bind (.ref a);have D:=am_list_getattr_none;have u:∀t,Meets (Builtin.«object.__getattribute__» ⟨[.ref a,.str "keys" t],[]⟩) _:=λt=>meets_getattribute_miss_list a its n r "keys" t T3 (by decide);unfold getAttr? getAttrBy? getAttrBy
 repeat (any_goals (first
  | assumption
  | exact l _
  | ((with_reducible show wpAny _ _ (call (.builtin "list.__getattribute__") _ _) _ _ _)
     refine call_meets F.slot_list_getattribute (l _) am_entry_list_getattribute (F.args_list_getattribute_2 _ _) (u _) ⟨i,q,λJ f e h=>?_⟩)
  | wp_step))
 obtain⟨K,C,B⟩:=h.there;show wpAny _ _ (getattributeRaised _ _ _ _ _ _ _) _ _ _;unfold getattributeRaised
 repeat (any_goals (first
  | assumption
  | wp_step))
 exact x _ _ h.keeps
def CP(h:Heap)(u:Value)(p:Int×Value):Prop:=∃t a o n,u=.ref t/\h.get? t=some o/\o.cls=.type "tuple"/\o.data=.seq #[.int p.1 a,p.2] n
def iw(h:Heap):AC->List (Int×Value)->Prop
 | [],[]=>True
 | u::us,p::ps=>CP h u p/\iw h us ps
 | _,_=>False
noncomputable def oX(a:List (bW×Value)):List (Int×Value)->List (bW×Value)
 | []=>a
 | p::ps=>oX (stored a (Sum.inl p.1) p.2) ps
theorem T4(a:List (bW×Value))(k:bW)(v:Value):(stored a k v).length<=a.length+1:=by
 unfold stored
 split<;>ext
def uC:entryFor table "dict.update.loop"=some Builtin.«dict.update.loop»:=entryFor_of_tree (by kernel_rfl)
def mi:plainId "dict.update.loop"=true:=by decide +kernel
def OldH(h0 h:Heap):Prop:=∀b o,h0.get? b=some o->h.get? b=some o
theorem OldH.but(c:h0.get? d=none)(o:OldH h0 h)(e:Heap.SameBut d h f):OldH h0 f:=λb a q=>by
 rw[e.2 b λz=>by grind];exact o b a q
def IsListIter.but(x:h.IsListIter a L i)(e:Heap.SameBut d h f)(c:a≠d):f.IsListIter a L i:=by
 obtain⟨o,b,r⟩:=x;exact⟨o,by rwa [e.2 a c],r⟩
theorem T5{a:AC}(T:A.handled=none)(O:h0.get? d=none)(N:h0.get? H=none)(m:d≠H)(S:h0.IsList L a.toArray):
 ∀(ps:List (Int×Value)) (i:Nat) (c:Int) (g:List (bW×Value)) (s:Shared),iw h0 (a.drop i) ps->g.length+ps.length<=sizeLine->s.heap.IsListIter H L i->OldH h0 s.heap->s.heap.DictOf (cS prog w) d g->
 (∀E tk,OldH h0 E->E.DictOf (cS prog w) d (oX g ps)->R (.ok (.ret .none)) {s with heap:=E,toks:=tk})->
 codeAny (mZ prog w) A (.builtin "dict.update.loop" ⟨[.ref d,.ref H,.int c 0,.none],[]⟩) R s:=by
 intro ps
 induction ps with
 | nil=>
   intro i c g s h U k y I P;have l:s.heap.IsList L a.toArray:=let ⟨o,e,r⟩:=S;⟨o,y _ _ e,r⟩
   have Q:a.toArray[i]?=none:=by
    cases f:a.drop i with
    | nil=>simpa using f
    | cons u us=>rw[f]at h;exact h.elim
   refine wy uC ?_;refine wa (wpAny_pyNext_list_end (A:=A.in1) T k l Q λE hs=>?_);refine wa (wb (wb (P E s.toks (λb F q=>hs b F (λz=>by grind) (y b F q)) (I.extBut hs m))))
 | cons p ps Z=>
   intro i c g s h U k y I P;have l:s.heap.IsList L a.toArray:=let ⟨o,e,r⟩:=S;⟨o,y _ _ e,r⟩
   cases f:a.drop i with
   | nil=>rw[f]at h;exact h.elim
   | cons u us=>
     rw[f]at h;obtain⟨⟨t,tk,F,n,rfl,W,X,x⟩,h⟩:=h
     have Q:a.toArray[i]?=some (.ref t):=by
      have:=congrArg List.head? f;simpa [List.head?_drop]using this
     have hus:=by
      have:=congrArg List.tail f;simpa using this.symm
     refine wy uC ?_;refine wa (wpAny_pyNext_list_item k l Q λV G B=>?_);have v:=OldH.but N y B;have J:=I.sameBut B m;have D:=v _ _ W
     have hT:(Shared.TypeIs {s with heap:=V} (.ref t) "tuple"):=⟨F,D,X⟩
     refine wa (wc (wa (wpAny_tryCatch ?_)));refine wa (wpAny_typeOf hT ?_);refine wa (wpAny_seqItems D x (wb ?_));refine wc (wpAny_dictSet_pairs (jS (k:=.inl p.1) ⟨tk,rfl⟩) J (λh2 M C=>?_) (by grind));refine wb ⟨jb mi _,?_⟩;refine Z (i+1) (c+1) _ _ (by grind) ?_ (IsListIter.but G C (Ne.symm m)) (OldH.but O v C) M λE K Y d'=>P E K Y d';have:=T4 g (Sum.inl p.1) p.2;grind
theorem T6(z:A.handled=none)(H:PlainL s.heap L its.toArray)(P:iw s.heap its S)(N:S.length<=sizeLine)(O:∀R tk,OldH s.heap R->R.DictOf (cS prog w) (~~~s) (oX [] S)->Q (.ref (~~~s)) {s with heap:=R,toks:=tk}):
 wpAny (mZ prog w) A (call (.type "dict") [.ref L]) Q E s:=by
 generalize v:({cls:=.type "dict",data:=.dict #[]}:Obj)=k;refine callType_codes (Q₁:=λj d=>j=.ref _/\d={s with heap:=s.heap.push k}) F.kt_called_dict (F.kt_typeCall_dict_1 _) F.entry_dict_init (kt_code_dict_new _ ⟨rfl,by rw[v]⟩) ?_;rintro j d ⟨rfl,rfl⟩
 have a:(s.heap.push k).DictOf (cS prog w) (~~~s) []:=by rw[<-v];exact .new s.heap
 refine⟨a.typeIs,F.args_dict_init_2 _ _,?_⟩;refine wa ?_;refine wa (wpAny_notOrdered_dict a.typeIs ?_);refine wb ?_;obtain⟨o,n,e,l,y,r⟩:=H;have t:(s.heap.push k).get? L=some o:=qe _ e
 have D:Shared.TypeIs {s with heap:=s.heap.push k} (.ref L) "list":=⟨o,t,l⟩
 refine wa (wpAny_typeOf D ?_);refine wa (Nt t l y r (by simp[z]) λR tk c=>?_);refine wa (wpAny_rule (wa ?_))
 have m:R.IsList L its.toArray:=⟨o,c _ _ t,l,n,r⟩
 refine wpAny_pyIter_list (s:={s with heap:=R,toks:=tk}) m ?_;have i:OldH s.heap R:=λb u q=>c _ _ (qe _ q);obtain⟨B,I,J,p,f⟩:=id a;have g:=c _ _ p;have h:=ql g;generalize x:({cls:=.type "list_iterator",data:=.fields _}:Obj)=C;refine wb ⟨jb mi _,?_⟩;refine T5 (by simp[z]) (Heap.get?_none_of_le (qv _)) (Heap.get?_none_of_le (Nat.le_of_lt h)) (qm h) ⟨o,e,l,n,r⟩ S 0 0 [] _ (by grind) (by ext) ?_ (λb u q=>qe _ (i b u q)) ⟨B,I,J,qe _ g,f⟩ λy G K M=>?_
 .exact⟨C,qp _ (by rw[<-x];rfl),by rw[<-x],by grind⟩
 grind
end
def uD(H:Hp):AM->List (Int×V)->Prop
 | [],[]=>True
 | x::xs,q::a=>(∃b,x=.ref b/\H b=some (.tup [.int q.1,q.2]))/\uD H xs a
 | _,_=>False
noncomputable def fG(a:List (bW×V)):List (Int×V)->List (bW×V)
 | []=>a
 | q::b=>fG (cD a (Sum.inl q.1) q.2) b
def QP:List (Int×V)->List (Int×Value)->Prop
 | [],[]=>True
 | q::a,p::ps=>(q.1=p.1/\RelV q.2 p.2)/\QP a ps
 | _,_=>False
theorem QP.length:∀{a:List (Int×V)}{b:List (Int×Value)},QP a b->b.length=a.length
 | [],[],_=>rfl
 | q::a,p::b,h=>by rw[qt,qt,QP.length h.2]
 | [],_::_,h=>h.elim
 | _::_,[],h=>h.elim
theorem Nu:∀{b:List (Int×V)}{e:List (Int×Value)}{a:List (bW×V)}{vs:List (bW×Value)},QP b e->KV a vs->KV (fG a b) (oX vs e)
 | [],[],_,_,_,r=>r
 | q::b,p::e,a,vs,h,r=>by
   obtain⟨⟨d,c⟩,h⟩:=h;rw[fG,oX,<-d];exact Nu h (r.put _ c)
 | [],_::_,_,_,h,_=>h.elim
 | _::_,[],_,_,h,_=>h.elim
theorem CQ:∀(b:List (Int×V)) (a:List (bW×V)),(fG a b).length<=a.length+b.length
 | [],a=>by rw[fG];simp
 | q::b,a=>by
   rw[fG,qt];have d:=CQ b (cD a (.inl q.1) q.2);have c:=zH a (.inl q.1) q.2;lia
theorem Nv{σ:L2.St}(I:Inv X pins σ H s):∀{ys:AM}{its:AC}{a:List (Int×V)},uD H ys a->Vals ys its->∃w,iw s.heap its w/\QP a w
 | [],its,[],_,r=>by
   cases r;exact⟨[],trivial,trivial⟩
 | y::ys,its,q::a,h,r=>by
   obtain⟨⟨b,rfl,x⟩,h⟩:=h
   cases r with
   | cons p i=>
     cases p;obtain⟨w,d,m⟩:=Nv I h i;obtain⟨c,g,⟨o,e,k,n,f⟩,_⟩:=I.tuple (.of x)
     cases g with
     | cons l u=>
       cases u with
       | cons v j=>
         cases j;obtain⟨t,rfl⟩:=l;exact⟨(q.1,_)::w,⟨⟨b,t,o,n,rfl,e,k,f⟩,d⟩,⟨⟨rfl,v⟩,m⟩⟩
 | [],_,_::_,h,_=>h.elim
 | _::_,_,[],h,_=>h.elim
def CS(K:W7):AM->Hp->VK->Prop:=λe H Q=>∃a d c,e=[.ref a]/\SqL K H a d/\uD H d c/\c.length<aA/\∀p,H p=none->Q (.ref p) (upd H p (.dK (fG [] c)))
theorem Nw(p:X.calm=true):dO X (.type "dict") (CS X.K):=by
 intro x s F H C D Q I r h;obtain⟨a,E,n,rfl,i,j,w,q⟩:=h;obtain⟨u,rfl,k⟩:=ez r;cases k;obtain⟨A,m,z,v⟩:=I.list i;obtain⟨y,t,g⟩:=Nv I j m;have f:aA=1000000:=rfl
 have d:y.length<=sizeLine:=by rw[g.length,jf];lia
 refine T6 (I.ok.hd p) z t d λG B c l=>⟨.ref _,_,I.laid (λb o e=>c b o e) (qv _) (zM ?_ (beq_eq_false_iff_ne.mpr (.symm (qm I.big))) (Nu g .nil) l),rfl,q _ (I.hok.fresh (qv _))⟩
 have:=CQ n [];rw[jf]
 ext<;>lia
noncomputable def el:AN->Option (List (Int×D))
 | []=>some []
 | .tup [.int i,v]::l=>(el l).map ((i,v)::·)
 | _=>none
def bN:D->Option (List (Int×D))
 | .lst l=>el l
 | _=>none
def bz{a:Type}(ns:AF)(vs:List a)(i:Int)(y:a):List Int×List a:=if i∈ns then (ns,aQ ns vs i y)else (ns++[i],vs++[y])
noncomputable def aB{a:Type}(ns:AF)(vs:List a):List (Int×a)->List Int×List a
 | []=>(ns,vs)
 | p::ps=>aB (bz ns vs p.1 p.2).1 (bz ns vs p.1 p.2).2 ps
def Nx(h:ns.Nodup):(bz ns vs i y).1.Nodup:=by
 unfold bz
 split
 .exact h
 .rename_i hm
  rw[List.nodup_append];refine⟨h,by simp,λx hx z hz e=>?_⟩;simp at hz;subst hz e;exact hm hx
def CT(h:ns.length=vs.length):(bz ns vs i y).1.length=(bz ns vs i y).2.length:=by
 unfold bz
 split
 .rwa [oA]
 .simp[h]
def DQ(K:W7)(G:Hp):List (Int×D)->List (Int×V)->Prop
 | [],[]=>True
 | d::ds,q::a=>(d.1=q.1/\Rp K G d.2 q.2)/\DQ K G ds a
 | _,_=>False
theorem DQ.length:∀{b:List (Int×D)}{a:List (Int×V)},DQ K G b a->a.length=b.length
 | [],[],_=>rfl
 | q::a,p::c,h=>by rw[qt,qt,DQ.length h.2]
 | [],_::_,h=>h.elim
 | _::_,[],h=>h.elim
theorem CU(s:Same G H):∀{l:AN}{y:List (Int×D)}{xs:AM},el l=some y->RpL K G l xs->∃c,uD H xs c/\DQ K G y c
 | [],y,xs,e,r=>by
   cases e;subst r;exact⟨[],trivial,trivial⟩
 | d::l,y,xs,e,r=>by
   unfold el at e
   split at e
   case h_1 he=>cases he
   case h_2 i v l' he=>
    injection he with f g;subst f g;obtain⟨h,u,rfl⟩:=qc e;obtain⟨x,v,rfl,p,m⟩:=r;obtain⟨c,q,j⟩:=CU s u m;obtain⟨b,A,rfl,z,a⟩:=p;obtain⟨w,n,rfl,o,a⟩:=a;obtain⟨t,n,rfl,k,a⟩:=a;subst a o;exact⟨(i,t)::c,⟨⟨b,rfl,s _ _ z⟩,q⟩,⟨⟨rfl,k⟩,j⟩⟩
   grind
theorem uE:∀{j:List (Int×D)}{g:List (Int×V)}{ns:AF}{i:AN}{vxs:AM},DQ K G j g->ns.Nodup->ns.length=vxs.length->RpL K G i vxs->
 ∃a,fG (zK ns vxs) g=zK (aB ns i j).1 a/\(aB ns i j).1.Nodup/\(aB ns i j).1.length=a.length/\RpL K G (aB ns i j).2 a
 | [],[],ns,i,vxs,_,b,c,f=>⟨vxs,rfl,b,c,f⟩
 | d::j,q::g,ns,i,vxs,h,b,c,f=>by
   obtain⟨⟨e,r⟩,h⟩:=h;rw[fG,oP c b]
   have k:(dC ns vxs q.1 q.2).1=(bz ns i d.1 d.2).1:=by
    unfold dC bz
    split<;>ext
   rw[k];refine uE h (Nx b) ?_ ?_
   .rw[<-k]
    exact CT c
   .unfold dC bz
    rw[e]
    split
    .exact t8 q.1 r f
    .exact .snoc r f
 | [],_::_,_,_,_,h,_,_,_=>h.elim
 | _::_,[],_,_,_,h,_,_,_=>h.elim
section
variable {e:Expr}{f:AU}{w:World}{A:Around}{E:AA}{s:Shared}
def fH(i:Nat)(f:AU):AR:=λb=>((f b).bind bN).bind λa=>if a.length<aA then some (.nx (b.set i (some (.od false ((aB [] [] a).1.map .int) (aB [] [] a).2))))else none
@[simp] theorem Ny(i:Nat):fH i f ρ=((f ρ).bind bN).bind λps=>if ps.length<aA then some (.nx (ρ.set i (some (.od false ((aB [] [] ps).1.map D.int) (aB [] [] ps).2))))else none:=dj rfl
@[simp] theorem jl(l:AN):bN (.lst l)=el l:=dj rfl
def oY:Int:=4238894112
def T7(h:Q oY {s with toks:=s.toks+1}):wpAny (mZ prog w) A (pyHash .none) Q E s:=by
 have a:s.TypeIs .none _:=rfl
 exact wa (wb (wa (wpAny_specialOf a F.slot_NoneType_hash.lookup (wa (wpAny_specialOf a F.slot_NoneType_hash.lookup (wa (wpAny_callSpecialIfBoundUnlessNone?_slot a F.slot_NoneType_hash
  (we F.slot_NoneType_hash a F.entry_NoneType_hash
   (wpAny_ret_mkInt (wb h)) (F.args_NoneType_hash_1 _)))))))))
theorem CV(f:s.heap.get? d=some o)(c:o.data=.dict b j)(g:∀e∈b,e.hash≠oY)(h:Q none {s with toks:=s.toks+1}):
 wpAny (mZ prog w) A (dictGet d .none) Q E s:=by
 have a:placesWithHash b.size (λi=>b[i]?.map (·.hash)) oY=[]:=by
  unfold placesWithHash
  ext
 refine wc (wa (T7 (wa (wc (wa (wpAny_dictEntries f c ?_))))));rw[a];exact wb (wb h)
noncomputable def mj(ns:AF):Bool:=ns.all λn=>decide (-1000000000<n/\n<1000000000)
theorem T8:∀{b:List DictEntry},Pairs (cS prog w) b a->∀e∈b,∃c∈a,(cS prog w).is c.1 e.key=true:=by
 intro b h
 induction h with
 | nil=>simp
 | cons f _ _ d=>
   grind
theorem CW{ns:AF}(hm:s.heap.DictOf (cS prog w) d kvs)(hk:kvs.map (·.1)=ns.map Sum.inl)(hs:mj ns=true)(h:Q none {s with toks:=s.toks+1}):
 wpAny (mZ prog w) A (dictGet d .none) Q E s:=by
 obtain⟨o,es,ep,ho,_,hd,hk1,hp,_⟩:=hm;refine CV ho hd (λe he=>?_) h;obtain⟨k,k1,k2⟩:=hk1 e he;obtain⟨kv,k3,k4⟩:=T8 hp e (by simpa using he);have ek:k=kv.1:=(cS prog w).inj _ _ _ k1 k4;have hmem:kv.1∈kvs.map (·.1):=Qs k3;rw[hk]at hmem;obtain⟨n,hn,en⟩:=qy hmem;have hsm:=List.all_eq_true.mp hs n hn;simp only[wm]at hsm;rw[k2,ek,<-en];show hashInt n≠oY;intro z
 have:hashInt n=n\/hashInt n=-2:=by
  have e0:((2^61-1:Nat):Int)=2305843009213693951:=by decide
  have e:(n.natAbs:Int)%((2^61-1:Nat):Int)=(n.natAbs:Int):=Int.emod_eq_of_lt ∅ (by rw[e0];ac_nf)
  have e2:(if n<0 then -(n.natAbs:Int)else (n.natAbs:Int))=n:=by split<;>ac_nf
  have e3:rawHash n=if (n==-1)=true then -2 else n:=by
   unfold rawHash;simp only[e,e2]
  unfold hashInt;rw[e3];by_cases h1:n=-1
  .subst h1;right;decide
  .left
   have h2:(n==-1)=false:=by simpa using h1
   simp[h2]
 unfold oY at z;ac_nf
def Nz{ns:AF}(f:(d==sysModules)=false)(c:s.heap.DictOf (cS prog w) d a)(e:a.map (·.1)=ns.map Sum.inl)(hs:mj ns=true)(h:Q false {s with toks:=s.toks+1}):wpAny (mZ prog w) A (contains (.ref d) .none) Q E s:=by
 have b:=c.typeIs;refine wc (wa (wpAny_specialOf b slot_dict_contains.lookup (wa (wpAny_callSpecialUnlessNone?_slot b slot_dict_contains (we slot_dict_contains b entry_dict_contains ?_ (args_dict_contains _ _))))));show wpAny _ _ (dictGet d _>>=_) _ _ s;exact wa (CW c e hs (wa (wpAny_pendingKey_other f (wb ⟨_,rfl,wpAny_truthy_bool h⟩))))
end
def cO(a:Bool):D->D->Option Bool
 | .int i,.dct false b c=>dD a (.int i) (.dct false b c)
 | .non,.dct false b _=>(intsD b).bind λd=>if mj d=true then some (false != a)else none
 | _,_=>none
def ky(b:Bool):R2:=λx y H Q=>iu b x y H Q\/(x=.non/\∃a c d,y=.ref a/\H a=some (.dK c)/\c.map (·.1)=d.map .inl/\mj d=true/\Q (.bl (false != b)) H)
def NA:eM K (ky c) (cO c):=by
 intro x y n o b H G Q h s f e q;unfold cO at h
 split at h
 .exact .inl (CB x y _ _ b H G Q h s f e q)
 .obtain⟨t,j,h⟩:=qa h
  split at h
  case isFalse=>cases h
  rename_i d;injection h with h;subst h f;obtain⟨a,i,r,rfl,g,k,p⟩:=e;obtain⟨u,v,l,m⟩:=gU j g k;exact .inr ⟨rfl,a,_,t,rfl,u,jh t r l,d,q⟩
 .cases h
section
theorem NB{vs:List (bW×Value)}(b:KV a vs):vs.map (·.1)=a.map (·.1):=by
 induction b with
 | nil=>rfl
 | cons r _ c=>grind
def CY(i:X.A.units+64<cLine):bX X (compareOp .In) (ky false):=by
 intro c s m H x y v u Q I e d h;rcases h with h|⟨rfl,a,n,p,rfl,k,l,g,q⟩
 .exact oS i _ s m H x y v u Q I e d h
 .cases e
  cases d;obtain⟨z,j,o,b,f⟩:=jT I.hok k;exact wa (Nz j f ((NB b).trans l) g (wb (⟨.bl _,H,I.tok _,rfl,q⟩)))
def CZ(i:X.A.units+64<cLine):bX X (compareOp .NotIn) (ky true):=by
 intro l s n H x y v u Q I c d h;rcases h with h|⟨rfl,a,f,o,rfl,e,g,m,q⟩
 .exact Nm i _ s n H x y v u Q I c d h
 .cases c
  cases d;obtain⟨z,j,p,b,k⟩:=jT I.hok e;exact wa (Nz j k ((NB b).trans g) m (wb (⟨.bl _,H,I.tok _,rfl,q⟩)))
variable {a b e:Expr}{fb f:AU}
@[simp] theorem o4(c:Bool)(ks vs:AN)(i:Int):cO c (.int i) (.dct false ks vs)=(intsD ks).map λns=>decide (i∈ns)!=c:=dj rfl
@[simp] theorem C0(a:Bool)(ks vs:AN):cO a .non (.dct false ks vs)=(intsD ks).bind λns=>if mj ns=true then some (false != a)else none:=dj rfl
end
section
variable {w:World}{A:Around}{E:AA}{s:Shared}
theorem T9{lo f:Option Int}(c:IsTup s.heap t a)(hs:s.heap.IsSliceOf k i l .none)(j:IsPart i lo)(n:IsPart l f)(h0:HT.sIx a.size 0 lo=0)(o:HT.sIx a.size a.size f=a.size)(h:Q (.ref t) s):wpAny (mZ prog w) A (getItem (.ref t) (.ref k)) Q E s:=by
 obtain⟨os,e,d,m⟩:=id hs;unfold getItem
 try with_reducible refine wc ?_
 refine wa (wpAny_sequenceKey c.typeIs (by decide) (wa (wpAny_callSpecial?_slot c.typeIs PyProof.Rows.slot_tuple_getitem (we PyProof.Rows.slot_tuple_getitem c.typeIs entry_tuple_getitem ?_ (args_tuple_getitem _ _)))));show wpAny _ _ (Builtin.Tuple.tupleItemsOf _>>=_) _ _ s;refine wa (tupleItemsOf_ c (wa (wpAny_typeOf (⟨os,e,d⟩) (wa (HT.sliceApplied_gen hs j n ?_)))));show wpAny _ _ (if _ then _ else _) _ _ s;rw[if_pos (by ext)];exact wa (wa (wpAny_typeOf c.typeIs (wb (wa (wpAny_rule (wb ⟨_,rfl,wb h⟩))))))
end
section
def C1(K:W7):V->Option Int->Option Int->Hp->VK->Prop:=λx lo e H Q=>∃a b,x=.ref a/\SqT K H a b/\HT.sIx b.length 0 lo=0/\HT.sIx b.length b.length e=b.length/\Q (.ref a) H
theorem C2:SlR X (C1 X.K):=by
 intro c s u H x v o z lo w y Q I k g i f h;obtain⟨a,p,rfl,l,n,t,q⟩:=h;cases k;obtain⟨j,r,d,m⟩:=I.tuple l;have e:=r.length.symm;exact⟨"tuple",_,PyProof.Rows.slot_tuple_getitem.lookup,d.typeIs,T9 d g i f (by grind) (by grind) (⟨.ref a,H,I,rfl,q⟩)⟩
def ix(i j:Option Int):D->Option D
 | .lst l=>some (.lst (cL l i j))
 | .tup l=>some (.tup (cL l i j))
 | _=>none
def jm(c:AU)(lo b:Option AU):AU:=λa=>(c a).bind λd=>(eQ lo a).bind λi=>(eQ b a).bind λj=>ix i j d
variable {a e:Expr}{f:AU}
@[simp] theorem C3(lo a:Option AU):jm fa lo a ρ=(fa ρ).bind λd=>(eQ lo ρ).bind λi=>(eQ a ρ).bind λj=>ix i j d:=dj rfl
@[simp] theorem o5(i j:Option Int)(l:AN):ix i j (.tup l)=some (.tup (cL l i j)):=dj rfl
end
section
variable {w:World}{A:Around}{E:AA}{s:Shared}
def C4:isSubtype (.type "set") (.type "set")=pure true:=by kernel_rfl
theorem C5:∀{a:AC},a.length=b.length->(∀(j:Nat) v,a[j]?=some v->j3 b j v)->IntsAre a b:=by
 induction b with
 | nil=>
   intro a h _;rw[List.length_eq_zero_iff.mp h];exact .nil
 | cons k r e=>
   intro a h c
   match a,h with
   | v::a,h=>
     obtain⟨d,t,g,i⟩:=c 0 v rfl;simp at g;subst g i;refine .cons _ t (e (by simpa using h) λj v f=>?_);obtain⟨d,t,g,i⟩:=c (j+1) v (by grind);exact⟨d,t,by grind,i⟩
theorem T_(T:A.handled=none)(G:SetI prog w s.heap a ns)(hQ:∀(h':Heap) (d':Drawn) (tk:Nat) (q:AC) (d:AF),~~~s<=h'.objs.size->(∀b o,s.heap.get? b=some o->h'.get? b=some o)->IntsAre q d->d.Perm ns->Q q {s with heap:=h',drawn:=d',toks:=tk}):
 wpAny (mZ prog w) A (collect (.ref a)) Q E s:=by
 obtain⟨o,es,ep,t,O,u,hd,_⟩:=id G;have hlt:a< ~~~s:=ql O;have B:=G.len;unfold collect;refine wa (wpAny_runValue (wy F.entry_proto_collect ?_));rw[jc F.plain_proto_collect _];refine wa (wg ?_);refine wb ⟨jb F.plain_list_iadd _,wy F.entry_list_iadd ?_⟩;rw[jc F.plain_list_iadd _];generalize L:s.heap.push {cls:=.type "list",data:=.seq ([]:AC).toArray}=H
 have Z:H.objs.size= ~~~s+1:=by rw[<-L,ww]
 have c:∀b o,s.heap.get? b=some o->H.get? b=some o:=λb o e=>by rw[<-L];exact qe _ e
 have hL:H.get? (~~~s)=some {cls:=.type "list",data:=.seq ([]:AC).toArray}:=by rw[<-L];exact qp _ rfl
 have x:=c a o O
 have V:Shared.TypeIs {s with heap:=H} (.ref a) "set":=⟨o,x,u.1⟩
 have M:(~~~s)≠a:=λz=>by grind
 have h1:Builtin.List.listSameRef (.ref (~~~s)) (.ref a)=false:=by simp[Builtin.List.listSameRef,M]
 show wpAny _ A.in1 (Builtin.List.listExtendWith (.ref (~~~s)) (.ref a) (.ref (~~~s))) _ _ _;unfold Builtin.List.listExtendWith;refine wa (wpAny_typeOf V ?_)
 have h2:(Value.type "set"==Value.type "list")=false:=by decide
 have U:(Value.type "set"==Value.type "tuple")=false:=by decide
 simp only[h1,h2,U,Bool.or_false,Qo,if_false];refine wa (A6 (s:={s with heap:=H}) (G.at λo e=>c a o e) λh' d' I Y d St i hI R hfp ua S N hty=>?_);have K:=i a o x
 have m:Shared.TypeIs {s with heap:=h',drawn:=d' } (.ref a) "set":=⟨o,K,u.1⟩
 refine wa (wc ?_);unfold Builtin.List.listLengthHint;refine wa (wpAny_specialOf m F.slot_set_len.lookup ?_);refine wa (wpAny_isInstance (b:=true) m C4 ?_);show wpAny _ A.in1 (typeOf (Value.ref a)>>=_) _ _ _;refine wa (wpAny_typeOf m ?_);refine wb ?_;rw[if_pos (by decide)];refine wa (wpAny_rule ?_)
 have C:(~~~s)∉Y:=λp=>by
  grind
 have f:=i _ _ hL;refine wa ?_;refine wa (wpAny_updateSeq f rfl ?_);have g:=wx (Obj.mapSeq (·.push Value.none)) f rfl;refine wpAny_updateSeq g rfl ?_;have l:=wx (Obj.mapSeq (·.pop)) g rfl
 have y:∀b o,b≠(~~~s)->h'.get? b=some o->
  ((h'.update (~~~s) (Obj.mapSeq (·.push Value.none))).update (~~~s) (Obj.mapSeq (·.pop))).get? b=some o:=
  λb o hb e=>(Heap.get?_update_other _ _ (Ne.symm hb)).trans ((Heap.get?_update_other _ _ (Ne.symm hb)).trans e)
 have W:=(S A.in1 T).toS
 refine wb ⟨jb F.plain_extend_loop _,codeAny_extend_loopS W (fits_of_scanBound B) _ C _ ns.length 0 _ _ _ rfl (Qh _)
  (W.frame 0 ({s with heap:=h',drawn:=d' }:Shared) _ s.toks N (qv _) λb hb o e=>y b o (λh=>C (h ▸ hb)) e) l (ItemsOf.nil _) λs' n c' p r k=>?_⟩
 show wpAny _ A (load (~~~s)>>=_) _ _ s';refine wa (wpAny_load r ?_);have eg:s'.gens=s.gens:=p.gens;have ed:s'.drawn=d':=p.drawn;have eo:s'.os=s.os:=p.os
 have J:s'={s with heap:=s'.heap,drawn:=d',toks:=s'.toks}:=by
  obtain⟨a1,a2,a3,a4,a5⟩:=s';grind
 rw[J];refine wb (hQ s'.heap d' s'.toks n.toList d (Nat.le_of_lt (ql r)) (λb D e=>?_) (C5 (by rw[qj,k.1,ua.length_eq]) λj v hj=>k.2 j v (by grind)) ua);have hb:b< ~~~s:=ql e;refine p.heap b D (λX=>?_) (y b D (qm hb) (i b D (c b D e)));grind
theorem Ua(r:A.handled=none)(y:SetI prog w s.heap a ns)(i:ns.length<64)(v:∀(B:Heap) (D:Drawn) (tk e:Nat) (p:Addr) (k:Array Value) (c:AF),(∀b o,s.heap.get? b=some o->B.get? b=some o)->(~~~s)<=p->B.get? p=some (seqObj "list" k e)->IntsAre k.toList c->c.Perm ns->c.Pairwise (·<=·)->
  Q (.ref p) {s with heap:=B,drawn:=D,toks:=tk}):wpAny (mZ prog w) A (call (.builtin "sorted") [.ref a]) Q E s:=by
 refine Calls.call_function_entry kind_sorted plain_sorted entry_sorted (args_sorted1 _) (wa (wb (wa (T_ r y λB D tk f q j d m n=>?_))))
 have h:f.length<64:=by rwa [IntsAre.length m,n.length_eq]
 refine wa (wpAny_newList ?_ (by rw[jf];ac_nf));have g:(B.push (seqObj "list" f.toArray 0)).get? _=_:=qp _ rfl;refine wa (wc (we slot_list_sort ⟨_,g,rfl⟩ entry_list_sort (list_sort_tree g m h λk c z u t=>⟨_,rfl,?_⟩) (args_list_sort _)));obtain⟨e,x⟩:=sortedHeap_at g;refine wb ⟨_,rfl,v _ D tk e _ k c (λb o l=>?_) j x z (u.trans n) t⟩;have F:=ql (d b o l);rw[sortedHeap_old (qm F) (by rw[size_push'];ext<;>ac_nf)];exact qe _ (d b o l)
end
noncomputable def dE(P:P7)(w:World)(p:Addr)(a:AF):HO:=.ext λh=>SetI P w h p a
theorem C6(x:SetI P w h p a):ObjOk P w H h p (dE P w p a):=by
 refine⟨x,?_,λd c e k=>e.at k⟩;obtain⟨o,_,_,_,b,_⟩:=x;grind
section
variable {σ:L2.St}{H:Hp}{s:Shared}{e:Expr}{f:AU}{p:Pos}
def _root_.L2.Inv.dr(I:Inv X pins σ H s)(d':Drawn):Inv X pins σ H {s with drawn:=d' }:=⟨I.ok,I.os,I.bare,I.base,I.loc,I.cell,I.free,I.freeC,I.pin,I.hok,I.len⟩
def NC(r:Vals (ns.map V.int) us):IntsAre us ns:=tR r
def C7(K:W7)(P:P7)(w:World):AM->Hp->VK->Prop:=λe H Q=>∃a b,e=[.ref a]/\(SqL K H a (b.map .int)\/SqT K H a (b.map .int))/\b.length<4000/\∀p c,H p=none->c.Perm (aZ [] b)->Q (.ref p) (upd H p (dE P w p c))
theorem C8(v:X.calm=true):dO X (.type "set") (C7 X.K X.prog X.w):=by
 intro y s C H B E Q I r h;obtain⟨a,D,rfl,c,x,q⟩:=h;obtain⟨u,rfl,w⟩:=ez r;cases w;have m:=I.ok.hd v;have n:scanBound=4096:=rfl;rcases c with c|c
 .obtain⟨f,d,p,t⟩:=I.list c
  have g:=d.length
  exact SC m p.isList (by simpa using NC d) (by ext<;>ac_nf) λz A j i l k=>⟨.ref _,_,I.laid (λb o e=>k b o (ql e) e) (qv _) (C6 i),rfl,q _ j (I.hok.fresh (qv _)) l⟩
 .obtain⟨f,d,p,t⟩:=I.tuple c
  have g:=d.length
  exact SD m p (by simpa using NC d) (by ext<;>ac_nf) λz A j i l k=>⟨.ref _,_,I.laid (λb o e=>k b o (ql e) e) (qv _) (C6 i),rfl,q _ j (I.hok.fresh (qv _)) l⟩
def C9(P:P7)(w:World):AM->Hp->VK->Prop:=λc H Q=>∃a b,c=[.ref a]/\H a=some (dE P w a b)/\b.length<64/\∀p,H p=none->Q (.ref p) (upd H p (.lst ((de b).map .int)))
theorem ND(j:X.calm=true):dO X (.builtin "sorted") (C9 X.prog X.w):=by
 intro x s C H E B Q I r h;obtain⟨a,c,rfl,l,n,q⟩:=h;obtain⟨u,rfl,k⟩:=ez r;cases k;refine Ua (I.ok.hd j) ((I.hok a _ l).1) n λD z A e p g m b i v t d y=>?_;have o:=W.ksm_same (d.trans (eU c).symm) y (gk c);subst o;have w:=(eU c).length_eq;refine⟨.ref p,_,.laid (I.dr z) b i (show ObjOk _ X.w _ _ _ (.lst _) from⟨by rw[qf,jf];ac_nf,g.toList,e,nS t,by ext⟩),rfl,q _ (I.hok.fresh i)⟩
def ml(l:AN):Option AN:=match intsD l with
 | some a=>if a.length<4000/\(aZ [] a).length<64 then some ((de (aZ [] a)).map .int)else none
 | none=>none
def NF(h:a.Perm b):de a=de b:=W.ksm_same (((eU a).trans h).trans (eU b).symm) (gk a) (gk b)
def uF(f:AU):AV:=λa=>(b1 f Yc a).bind ml
def C_{c:Sort _}{a b:c}(h:a=b):a=b:=h
@[simp] theorem jn{ρ:Ro}:uF f ρ=((f ρ).bind Yc).bind ml:=C_ rfl
end
noncomputable def dH(m:Nat):Nat->Nat->Nat
 | 0,i=>i
 | k+1,i=>dH m k ((i*5+1)%m)
theorem uG(m:Nat):∀(a b i:Nat),dH m (a+b) i=dH m b (dH m a i)
 | 0,b,i=>by rw[Nat.zero_add];rfl
 | a+1,b,i=>by rw[Nat.succ_add];exact uG m a b _
noncomputable def kz(m:Nat):Nat->Nat->AE
 | 0,_=>[]
 | k+1,i=>i::kz m k ((i*5+1)%m)
theorem NG:∀{k i:Nat},j∈kz m k i->∃a,a<k/\dH m a i=j
 | 0,_,h=>nomatch h
 | k+1,i,h=>by
   rcases qu h with rfl|h
   .exact⟨0,by lia,rfl⟩
   .obtain⟨a,b,e⟩:=NG h
    exact⟨a+1,by ext,e⟩
def o6(m:Nat):Bool:=(List.range m).all (λj=>(kz m m 0).contains j)&&dH m m 0==0
noncomputable def sizes:AE:=[8,16,32,64,128]
def Da:sizes.all o6=true:=by decide +kernel
theorem De(o:m∈sizes)(l:i<m)(n:j<m):∃k,k<m/\dH m k i=j:=by
 have h:=List.all_eq_true.mp Da m o;unfold o6 at h;rw[Qe]at h;obtain⟨g,q⟩:=h
 have e:dH m m 0=0:=by grind
 have c:∀x,x<m->∃a,a<m/\dH m a 0=x:=λx f=>by
  have:=List.all_eq_true.mp g x (List.mem_range.mpr f);exact NG (by grind)
 obtain⟨a,p,rfl⟩:=c i l;obtain⟨b,r,rfl⟩:=c j n;by_cases d:a<=b
 .refine⟨b-a,by grind,?_⟩
  rw[<-uG,Nat.add_sub_cancel' d]
 .refine⟨m-a+b,by lia,?_⟩
  rw[<-uG,show a+(m-a+b)=m+b by lia,uG,e]
section
variable {mask:Nat}{owner:Array AL}
theorem Df(a i p:Nat):(∃j,SetTable.layClean.free mask owner (a+1) i p=some j/\owner.getD j (some 0)=none)\/
 (owner.getD i (some 0)≠none/\SetTable.layClean.free mask owner (a+1) i p=SetTable.layClean.free mask owner a ((i*5+1+p/32)%(mask+1)) (p/32)):=by
 rw[SetTable.layClean.free]
 cases e:(List.range _).find? _ with
 | some k=>
   ext
 | none=>
   right;refine⟨λz=>?_,rfl⟩;have:=List.find?_eq_none.mp e 0 (List.mem_range.mpr (by unfold SetTable.runEnd;split<;>lia))
   ext
theorem NH:∀(k a i:Nat),k<a->owner.getD (dH (mask+1) k i) (some 0)=none->∃j,SetTable.layClean.free mask owner a i 0=some j/\owner.getD j (some 0)=none
 | k,0,_,h,_=>absurd h (Nat.not_lt_zero _)
 | k,a+1,i,h,c=>by
   rcases Df a i 0 with b|⟨b,d⟩
   .exact b
   .cases k with
    | zero=>exact absurd c b
    | succ k=>
      rw[d];exact NH k a _ (by ext) c
theorem Ub(h:mask+1∈sizes)(n:i<mask+1)(o:p<1024)(g:∃j,j<mask+1/\owner.getD j (some 0)=none):∃j,SetTable.layClean.free mask owner (SetTable.turns mask) i p=some j/\owner.getD j (some 0)=none:=by
 obtain⟨j,f,l⟩:=g;have e:SetTable.turns mask=_+1+1:=rfl;rw[e];rcases Df (mask+13+1) i p with a|⟨_,d⟩
 .exact a
 .rw[d]
  generalize (i*5+1+p/32)%(mask+1)=b;rcases Df _ b _ with a|⟨_,c⟩
  .exact a
  .rw[c,show p/32/32=0 by ext<;>lia]
   obtain⟨k,m,q⟩:=De h (i:=(b*5+1+0)%(mask+1)) (Nat.mod_lt _ (by lia)) f;exact NH k _ _ (by lia) (by ext)
end
theorem uH{a c:Type}{f g:a->Option c}:∀{l:List a},(∀x∈l,f x=g x)->l.filterMap f=l.filterMap g
 | [],_=>rfl
 | x::l,h=>by
   have d:=uH λy b=>h y (qg _ b);symm
theorem o7{f g:Nat->AL}(hf:f j=none)(hg:g j=some k):∀{l:AE},l.Nodup->j∈l->(∀x∈l,x≠j->g x=f x)->(l.filterMap g).Perm (k::l.filterMap f)
 | [],_,hj,_=>(nomatch hj)
 | x::l,hn,hj,he=>by
   obtain⟨hx,hn⟩:=List.nodup_cons.mp hn;by_cases e:x=j
   .subst e
    have:l.filterMap g=l.filterMap f:=uH λy hy=>he y (qg _ hy) λz=>hx (z ▸ hy);rw[List.filterMap_cons_some hg,List.filterMap_cons_none hf,this]
   .have hj':j∈l:=by
     rcases qu hj with z|z
     .exact absurd z.symm e
     .exact z
    have ih:=o7 hf hg hn hj' λy hy=>he y (qg _ hy);have hxe:=he x qh e
    cases h:f x with
    | none=>rw[List.filterMap_cons_none (hxe.trans h),List.filterMap_cons_none h];exact ih
    | some v=>
      rw[List.filterMap_cons_some (hxe.trans h),List.filterMap_cons_some h];exact(ih.cons v).trans (.swap _ _ _)
theorem NI(y:mask+1∈sizes):∀(hs:AF) (owner:Array AL) (k:Nat),owner.size=mask+1->((List.range (mask+1)).filterMap λj=>owner.getD j none).Perm (List.range k)->k+hs.length<=mask->(∀h∈hs,0<=h/\h<1024)->
 ∃c,(hs.foldl (init:=some (owner,k)) λm h=>do
  let (owner,k) <-m
  let j <-SetTable.layClean.free mask owner (SetTable.turns mask) (SetTable.bits h%(mask+1)) (SetTable.bits h)
  pure (owner.setIfInBounds j (some k),k+1))=some (c,k+hs.length)/\c.size=mask+1/\((List.range (mask+1)).filterMap λj=>c.getD j none).Perm (List.range (k+hs.length))
 | [],owner,k,u,s,_,_=>⟨owner,rfl,u,s⟩
 | h::hs,owner,k,u,s,G,w=>by
   have H:SetTable.bits h<1024:=by
    obtain⟨a,b⟩:=w h qh;unfold SetTable.bits
    ext<;>lia
   have f:∃j,j<mask+1/\owner.getD j (some 0)=none:=Classical.byContradiction λr=>by
    have A:=s.length_eq;rw[List.length_range]at A
    have n:∀j∈List.range (mask+1),(owner.getD j none).isSome=true:=λj v=>by
     have t:=Qb v;have:owner.getD j (some 0)≠none:=λz=>r ⟨j,t,z⟩
     have p:j<owner.size:=by ext
     simp only[Array.getD,p,dif_pos]at this ⊢;exact Option.isSome_iff_ne_none.mpr this
    have:((List.range (mask+1)).filterMap λj=>owner.getD j none).length=(List.range (mask+1)).length:=by
     generalize List.range (mask+1)=l at n
     ext
    ext<;>lia
   obtain⟨j,v,E⟩:=Ub y (owner:=owner) (i:=SetTable.bits h%(mask+1)) (p:=SetTable.bits h) (Nat.mod_lt _ (by lia)) H f
   have B:j<owner.size:=Classical.byContradiction λz=>by
    ext
   have e:owner.getD j none=none:=by
    ext
   have F:=o7 (f:=λx=>owner.getD x none) (g:=λx=>(owner.setIfInBounds j (some k)).getD x none) (j:=j) (k:=k) e (by ext) (l:=List.range (mask+1)) List.nodup_range (List.mem_range.mpr (by ext)) λx q i=>by
    have C:=Qb q
    have o:x<owner.size:=by ext
    simp[Array.getD,o,Array.getElem_setIfInBounds,Ne.symm i]
   have g:((List.range (mask+1)).filterMap λx=>(owner.setIfInBounds j (some k)).getD x none).Perm (List.range (k+1)):=by
    grind
   obtain⟨c,J,I,D⟩:=NI y hs (owner.setIfInBounds j (some k)) (k+1) (by grind) g (by grind) λx q=>w x (qg _ q);refine⟨c,?_,I,?_⟩
   .simp_all<;>lia
   ext<;>lia
theorem NJ{led plain:Bool}(d:mask+1∈sizes)(hs:Array Int)(g:hs.size<=mask)(b:∀h∈hs.toList,0<=h/\h<1024):∃t o,SetTable.laid mask finger moves led plain hs=some (t,o)/\o.toList.Perm (List.range hs.size)/\t.place.size=hs.size/\t.dummies=#[]/\t.mask=mask/\t.plain=plain:=by
 have a:((List.range (mask+1)).filterMap λj=>(Array.replicate (mask+1) (none:AL)).getD j none)=[]:=by
  ext
 obtain⟨i,k,l,e⟩:=NI d hs.toList (Array.replicate (mask+1) none) 0 nofun (by ext) (by ext) b
 have c:SetTable.layClean mask hs=some i:=by
  unfold SetTable.layClean
  ext
 have f:((List.range (mask+1)).filterMap λj=>(i.getD j none).map (j,·)).map (·.2)=(List.range (mask+1)).filterMap λj=>i.getD j none:=by
  rw[List.map_filterMap];refine uH λj _=>?_;cases i.getD j none<;>rfl
 refine⟨_,_,by unfold SetTable.laid;rw[c];rfl,?_,?_,rfl,rfl,rfl⟩
 .simp_all
 .have:=e.length_eq
  symm
def uI(xs:Array a)(p:Nat):(SetTable.eraseAt xs p).toList=xs.toList.eraseIdx p:=by
 unfold SetTable.eraseAt;rw[List.eraseIdx_eq_take_drop_succ];simp[Array.toList_extract];exact List.take_of_length_le nofun
theorem Uc(h:cK xs)(p:Nat):cK (SetTable.eraseAt xs p):=by
 unfold cK at h ⊢;rw[uI];grind
def Dg(h:p<xs.size):(SetTable.eraseAt xs p).size=xs.size-1:=by
 rw[<-qj,uI,List.length_eraseIdx_of_lt (by simpa using h)];simp
theorem Ud(xs:Array a)(p:Nat)(x:a):(SetTable.insertAt xs p x).size=xs.size+1:=by
 rw[<-qj,Ms];simp;lia
section
variable {w:World}{A:Around}{E:AA}{s:Shared}
theorem Ue(hS:SetI prog w s.heap a ns)(h:∀h' ns',Heap.SameBut a s.heap h'->SetI prog w h' a ns'->ns'.Perm (ns.erase k)->Q (decide (k∈ns)) {s with heap:=h' }):
 wpAny (mZ prog w) A (setDiscardHashed a (.int k u) (hashInt k)) Q E s:=by
 have hS0:=hS;obtain⟨o,es,ep,t,ho,hex,hd,hel,hns,hnd,hb,hf,ht⟩:=hS;have hkey:(intKind prog w).is k (.int k u)=true:=intKind_is _ _ _ _;have hsc:(Value.int k u).scannable=true:=rfl;unfold setDiscardHashed setFind setFindIn;refine wa ?_;refine wa (wj ho hd hf ?_);dsimp only;rw[byScan_of hsc hb hel];simp only[↓reduceIte];refine wa (wpAny_rule ?_);refine wa (wpAny_setScan_of (knd:=intKind prog w) (k:=k) hkey ho hd hf hel ?_)
 cases hr:List.findIdx? (λe=>(intKind prog w).is k e.2) es.toList with
 | none=>
   dsimp only
   have hk:k∉ns:=λhk=>by
    rw[<-hns]at hk;obtain⟨e,he,hke⟩:=qy hk;have h1:=List.findIdx?_eq_none_iff.mp hr e he;obtain⟨t',ht'⟩:=lW hel he;rw[ht',hke]at h1;have h2:(intKind prog w).is k (.int k t')=true:=intKind_is _ _ _ _;rw[h2]at h1;exact Bool.noConfusion h1
   refine wb (wb ?_)
   have e:s={s with heap:=s.heap}:=by cases s;rfl
   have:=h s.heap ns (Heap.SameBut.refl a s.heap) hS0 (by rw[List.erase_of_not_mem hk]);rw[wo hk]at this;rw[e];exact this
 | some j=>
   dsimp only;obtain⟨hj,hpj,_⟩:=List.findIdx?_eq_some_iff_getElem.mp hr
   have hjs:j<es.size:=by simpa using hj
   have hkj:c5 es.toList[j]=k:=AI hpj
   have hk:k∈ns:=by
    rw[<-hns,<-hkj];exact Qs (List.getElem_mem hj)
   refine wb ?_;dsimp only;refine wa (wj ho hd hf ?_);dsimp only;rw[Nat.zero_add]
   have hb':(SetTable.eraseAt es j).size<scanBound:=by rw[Dg hjs];lia
   refine wa (wpAny_storeSet_of ho hd ?_ (fits_of_scanBound hb'));have ho1:=jY ho hd (SetTable.eraseAt es j) (t.drop j);have hsb1:=wv s.heap a (Obj.putSet (SetTable.eraseAt es j) (t.drop j));refine wa (wpAny_point (wb ?_));have hf':=hf;unfold SetTable.fits at hf';simp only[Qe,beq_iff_eq,wm]at hf'
   have hpl:j<t.place.size:=by lia
   have hdrop:t.drop j={t with place:=SetTable.eraseAt t.place j,dummies:=SetTable.insertAt t.dummies (SetTable.below t.dummies t.place[j]) t.place[j]}:=by
    unfold SetTable.drop;rw[Array.getElem?_eq_getElem hpl]
   have hlen:j<ns.length:=by rw[<-hns,qf];exact hj
   have hnj:ns[j]=k:=by
    have:ns[j]?=some k:=by rw[<-hns,Qm,qr hj,Option.map_some,hkj]
    rw[qr hlen]at this;exact w4 this
   have hperm:(ns.eraseIdx j).Perm (ns.erase k):=by
    have p1:=AO hlen;rw[hnj]at p1;have p2:=List.perm_cons_erase hk;exact(p1.trans p2).cons_inv
   have hnew:SetI prog w (s.heap.update a (Obj.putSet (SetTable.eraseAt es j) (t.drop j))) a (ns.eraseIdx j):=by
    refine⟨_,SetTable.eraseAt es j,_,t.drop j,ho1,hex,rfl,λe he=>?_,?_,hnd.sublist (List.eraseIdx_sublist _ _),hb',?_,?_⟩
    .rw[uI]at he
     exact hel e (List.mem_of_mem_eraseIdx he)
    .rw[uI,<-hns,List.eraseIdx_eq_take_drop_succ,List.eraseIdx_eq_take_drop_succ,wt,List.map_take,List.map_drop]
    .rw[hdrop]
     unfold SetTable.fits;unfold SetTable.fill at hf' ⊢;simp only[Qe,beq_iff_eq,wm,Dg hpl,Dg hjs,Ud]at hf' ⊢;lia
    .rw[hdrop]
     exact⟨ht.1,λz=>Uc (ht.2 z) j⟩
   have:=h _ _ hsb1 hnew hperm;rw[wn hk]at this;exact this
theorem Dh(g:s.heap.get? a=some o)(f:o.data=.set b j t)(e:t.fits b.size=true)(i:Tab (eK w) t)(h:∀(r:Array (Int×Value)) (m:Drawn),r.toList.Perm b.toList->Q r {s with drawn:=m}):wpAny (mZ prog w) A (setWalk a) Q E s:=by
 refine wa (wj g f e (wa (jZ ?_)));by_cases l:eK w=true
 .rw[if_pos l]
  exact wa (wpAny_askSetting (wb (h _ _ (MD _ _))))
 .rw[if_neg l]
  have d:eK w=false:=by grind
  show wpAny _ _ (if (_&&_)=true then _ else _) _ _ _;by_cases c:(!t.plain&&decide (b.size > 1))=true
  .rw[if_pos c]
   refine wa (AY _ _ _ _ nofun λn m k=>wb ?_);grind
  .rw[if_neg c]
   show wpAny _ _ ((if _ then _ else _)>>=_) _ _ _;rw[if_neg (by rw[i.1 d];simp)];exact wa (wb (wb (h b _ (.refl _))))
def Ug(h:∀a∈q,∃ns,SetI prog w s.heap a ns)(C:Q true s):wpAny (mZ prog w) A (setsQuiet q) Q E s:=by
 refine wa (wpAny_forIn_list _ (λc b L=>b.1=none/\L=s/\∀a∈c,∃ns,SetI _ w _ a ns) _ ?_ ?_ q _ ⟨rfl,rfl,h⟩)
 .rintro a c b L ⟨M,rfl,p⟩
  obtain⟨ns,o,r,I,t,v,D,z,i,_,_,_,y,_⟩:=p a qh;refine wa (wa (wj v z y (wb (wa (MeetsSeq2.wpAny_forIn_array _ (λc b l=>b.1=none/\l=L/\∀e∈c,e∈r.toList) _ ?_ ?_ r _ ⟨rfl,rfl,λe m=>m⟩)))))
  .rintro⟨K,x⟩ j b2 F ⟨f,rfl,g⟩
   obtain⟨N,k⟩:=lW i (g _ qh);have n:=congrArg Prod.snd k;dsimp only at n;rw[n];exact wb ⟨rfl,rfl,λe m=>g e (qg _ m)⟩
  .rintro b2 F ⟨f,rfl,_⟩
   obtain⟨G,B⟩:=b2;subst f;exact wb ⟨rfl,rfl,λa u=>p a (qg _ u)⟩
 .rintro b L ⟨M,rfl,_⟩
  obtain⟨J,H⟩:=b;subst M;exact wb C
theorem Uh(v:SetI prog w s.heap o ns)(q:SetI prog w s.heap f H)(h:∀(r:Array (Int×Value)) (T:Heap) (S:Drawn),Heap.SameBut f s.heap T->SetI prog w T f H->ElemsOf (intKind prog w) r.toList->(r.toList.map c5).Perm ns->Q r {s with heap:=T,drawn:=S}):
 wpAny (mZ prog w) A (setWalkUnseen o [f] (some f)) Q E s:=by
 have K:=v;obtain⟨O,G,R,t,x,I,y,d,k,J,U,F,D⟩:=v;refine wa (wj x y F (wa (jZ ?_)))
 split
 .exact(Dh x y F D λr S M=>h r _ S (.refl f _) q (d.perm M) ⋯)
 .refine wa (Ug (λa N=>?_) ?_)
  .grind
  .refine wa (wpAny_rule ?_)
   have p:=q;obtain⟨P,B,L,u,c,i,b,l,j,n,m,e,g⟩:=q;refine wa (wj c b e ?_);dsimp only
   split
   .refine wa (wpAny_storeSet_of c b (wb (h G _ _ (.update _ f _) ⟨_,B,_,_,jY c b B _,i,rfl,l,j,n,m,e,⟨λz=>?_,λz=>?_⟩⟩ d (by rw[k]))) (fits_of_scanBound m))
    .rw[g.1 z,D.1 z]
     rfl
    .have C:=z
     rw[Qe]at C;exact g.2 C.1
   .exact wb (h G _ _ (.refl f _) p d (by rw[k]))
def SetI.nodup(x:SetI prog w h a ns):ns.Nodup:=by
 obtain⟨_,_,_,_,_,_,_,_,_,b,_⟩:=x;exact b
def SetI.type(x:SetI prog w s.heap a ns):s.TypeIs (.ref a) "set":=by
 obtain⟨o,_,_,_,c,b,_⟩:=x;exact⟨o,c,b.1⟩
def SetI.but(x:SetI prog w h a ns)(b:a≠f)(c:Heap.SameBut f h d):SetI prog w d a ns:=x.at λo e=>(c.2 a b).trans e
theorem Di(p:SetI prog w s.heap f i)(b:i.length+1<scanBound)(h:∀v c,Heap.SameBut f s.heap v->SetI prog w v f c->(∀x,x∈c↔¬(x∈i↔x=k))->c.length<=i.length+1->Q () {s with heap:=v}):
 wpAny (mZ prog w) A (holding [.int k u] (do
  if !(<-setDiscardHashed f (.int k u) (hashInt k))then
   let _ <-setAddHashed f (.int k u) (hashInt k))) Q E s:=by
 have q:=p.nodup;refine wc (wa (Ue p λr l g e a=>?_));by_cases j:k∈i
 .rw[wn j]
  refine wb (h r l g e (λx=>?_) ?_)
  .grind
  .rw[a.length_eq]
   ext<;>lia
 .rw[wo j]
  rw[List.erase_of_not_mem j]at a;refine wa (Mu e (by rwa [a.length_eq]) λt o m n d=>?_);rw[if_neg (λz=>j (a.mem_iff.mp z))]at d;refine wb (h t o (g.trans m) n (λx=>?_) ?_)
  .grind
  .rw[d.length_eq,qz,a.length_eq]
   ext
def uJ(a:SetI prog w s.heap o ns)(h:Q true s):wpAny (mZ prog w) A (Builtin.Frozenset.isAnySet (.ref o)) Q E s:=wa (wpAny_isInstance a.type C4 (wb h))
theorem Dj{id:String}(I:o≠f)(v:SetI prog w s.heap o ns)(hF:SetI prog w s.heap f k)(K:k.length+ns.length+1<scanBound)(h:∀h' d' n,Heap.SameBut f s.heap h'->SetI prog w h' f n->(∀x,x∈n↔¬(x∈k↔x∈ns))->Q () {s with heap:=h',drawn:=d' }):
 wpAny (mZ prog w) A (Builtin.Frozenset.symmetricDifferenceUpdate id f (.ref o)) Q E s:=by
 unfold Builtin.Frozenset.symmetricDifferenceUpdate;rw[if_neg (by grind)];refine wa (wpAny_typeOf v.type ?_)
 have c:(.type "set"==Value.type "dict")=false:=by decide
 refine wa (uJ v ?_);refine wa (wb ?_);have J:=v;obtain⟨oo,es,ep,t,N,Z,M,X,S,Y,hb,L,ht⟩:=J;refine wa (m:=setEpoch o) ?_;refine wa (wj N M L (wb ?_));dsimp only;refine wc ?_;refine wa (Uh v hF λr h' d' U F p C=>?_)
 refine wa (wz (MeetsSeq2.wpAny_forIn_array _ (λd _ s'=>∃b c a,s'={s with heap:=c,drawn:=d' }/\Heap.SameBut f _ c/\SetI _ w c f a/\(∀x,x∈a↔¬(x∈k↔x∈b))/\r.toList.map c5=b++d.map c5/\a.length<=k.length+b.length/\∀e∈d,e∈r.toList)
  (λ_ s'=>∃c a,s'={s with heap:=c,drawn:=d' }/\Heap.SameBut f s.heap c/\SetI prog w c f a/\(∀x,x∈a↔¬(x∈k↔x∈ns))) ?_ ?_ r _ ⟨[],h',k,rfl,U,F,by simp,by simp,by simp,λe H=>H⟩) (λ_ s' hs=>?_) λ_ _ e=>e)
 .rintro x d _ s' ⟨b,c,a,rfl,g,i,l,R,T,u⟩
  have W:=u x qh;obtain⟨tk,D⟩:=lW p W
  have q:a.length+1<scanBound:=by
   have e2:=C.length_eq;grind
  rw[D];refine wa (Di i q λP z m B O V=>?_);have G:=((g.trans m).2 o I).trans N;refine wa ?_;refine wa (wa (wj G M L (wb ?_)));rw[if_neg nofun];refine wb (wb ⟨b++[c5 x],P,z,rfl,g.trans m,B,λy=>?_,?_,?_,λe H=>u e (qg _ H)⟩)
  .grind
  ·(simp at*;lia)
  (simp;lia)
 .grind
 .obtain⟨c,a,rfl,g,i,l⟩:=hs
  exact wb (h c d' a g i l)
theorem Ui(h:0<=k/\k<1024):0<=hashInt k/\hashInt k<1024:=by
 have e:rawHash k=k:=by
  unfold rawHash;grind
 unfold hashInt
 split<;>ext
def Dk:(List.range 64).all (λn=>decide (SetTable.sizeAbove (n*2)∈sizes)&&decide (n<SetTable.sizeAbove (n*2))&&decide (SetTable.sizeAbove (n*2)<=128))=true:=by decide +kernel
theorem Dl{a:Array (Int×Value)}{o:Array Nat}(d:o.toList.Perm (List.range a.size)):(o.filterMap (a[·]?)).toList.Perm a.toList:=by
 have c:(o.filterMap (a[·]?)).toList=o.toList.filterMap (a.toList[·]?):=by simp
 have b:(List.range a.size).filterMap (a.toList[·]?)=a.toList:=by
  have:∀l:List (Int×Value),(List.range l.length).filterMap (l[·]?)=l:=λl=>by
   rw[uH λi e=>?_]
   .show List.filterMap (some ∘ λi=>l.getD i (0,.none)) _=_
    refine List.ext_getElem nofun λi c b=>?_;simp[b]
   ext
  grind
 grind
noncomputable abbrev NK(a:Nat)(t:SetTable):Obj:={cls:=.type "set",dict:=none,data:=.set #[] a t}
theorem Dm(b:s.heap.get? f=some (NK q (.fresh 0 0 led)))(x:n<64)(h:∀h' d t',Heap.SameBut f s.heap h'->h'.get? f=some (NK d t')->t'.mask+1∈sizes->n<=t'.mask->t'.place=#[]->t'.dummies=#[]->t'.led=led->t'.plain=true->Q () {s with heap:=h' }):wpAny (mZ prog w) A (setRoomFor f n) Q E s:=by
 have a:_=true:=rfl;refine wa (wj b rfl a ?_);dsimp only;by_cases B:21<=n*5
 .have e:(SetTable.fresh 0 0 led).roomFor n=some (n*2):=by
   unfold SetTable.roomFor SetTable.fresh SetTable.fill;simp only[Array.size_empty,Nat.zero_add];rw[if_pos (by omega)]
  rw[e];dsimp only;have c:=List.all_eq_true.mp Dk n (List.mem_range.mpr x);simp only[Qe,wm]at c;obtain⟨⟨m,D⟩,C⟩:=c;refine wa (wj b rfl a ?_);dsimp only;rw[if_neg (by rw[jf];lia)]
  have j:SetTable.sizeAbove (n*2)-1+1=SetTable.sizeAbove (n*2):=by lia
  obtain⟨t',o,l,u,r,v,k,p⟩:=NJ (finger:=0) (led:=led) (plain:=true) (by rw[j];exact m) #[] (Qh _) (λh y=>by simp at y)
  have g:(SetTable.fresh 0 0 led).relaid ((#[]:Array (Int×Value)).map (·.1)) (n*2)=some (t',o):=by
   rw[show(#[]:Array (Int×Value)).map (·.1)=#[] by simp];exact l
  rw[g]
  have i:o=#[]:=by
   have:=u.length_eq;simpa using this
  subst i;have t:=Az l;refine wpAny_storeSet_of b rfl ?_ nofun;have z:=jY b rfl (#[]) t';exact h _ _ t' (.update s.heap f _) z (by rw[k,j];exact m) (by rw[k];lia) (by simpa using r) v t.2.1 p
 .have e:(SetTable.fresh 0 0 led).roomFor n=none:=by
   unfold SetTable.roomFor SetTable.fresh SetTable.fill;simp only[Array.size_empty,Nat.zero_add];rw[if_neg (by omega)]
  rw[e];refine wb ?_
  have e:s={s with heap:=s.heap}:=by cases s;rfl
  rw[e];exact h s.heap q _ (.refl f s.heap) b (show 8∈sizes by decide) (show n<=7 by lia) rfl rfl rfl rfl
theorem Dn{id:String}(T:SetI prog w s.heap o ns)(hk:∀k∈ns,0<=k/\k<1024)(hl:ns.length<64)(h:∀h' V,(∀b x,s.heap.get? b=some x->h'.get? b=some x)->SetI prog w h' (~~~s) V->V.Perm ns->Q (.ref (~~~s)) {s with heap:=h' }):
 wpAny (mZ prog w) A (Builtin.Frozenset.newFrom id (.type "set") (.ref o)) Q E s:=by
 unfold Builtin.Frozenset.newFrom newSet;refine wa (wa (jZ ?_));dsimp only;simp only[newObj];refine wa (wpAny_alloc (wb ?_))
 have J:o< ~~~s:=by
  obtain⟨oo,_,_,_,G,_⟩:=T;exact ql G
 generalize W:s.heap.push _=H
 have c:∀b x,s.heap.get? b=some x->H.get? b=some x:=λb x e=>by rw[<-W];exact qe _ e
 have D:H.get? (~~~s)=some {cls:=.type "set",dict:=none,data:=.set #[] 0 (.fresh 0 0 (!eK w))}:=by rw[<-W];exact qp _ rfl
 generalize hf:(~~~s)=f at *;have hne:o≠f:=qm J;have C:SetI prog w H o ns:=T.at λx e=>c o x e;refine wa (m:=Builtin.Frozenset.addrOf (.ref f)) (wb ?_);refine wa (wc ?_);unfold Builtin.Frozenset.updateFrom;refine wa (uJ (s:={s with heap:=H}) C ?_);rw[if_pos rfl];unfold Builtin.Frozenset.merge;have O:=C;obtain⟨oo,a,ep,t,G,hex,U,p,K,r,hb,l,R⟩:=O
 have hsz:a.size=ns.length:=by grind
 refine wa (m:=setEpoch o) ?_;unfold setEpoch;refine wa (wj (s:={s with heap:=H}) G U l (wb ?_));dsimp only;unfold setMerge
 have h1:(f==o)=false:=by grind
 rw[if_neg (by ext)];refine wa (wj (s:={s with heap:=H}) G U l ?_);dsimp only;by_cases i:a.isEmpty=true
 .rw[if_pos i]
  refine wb (wb (h H [] c ⟨_,#[],_,_,D,⟨rfl,rfl,rfl⟩,rfl,λe P=>by simp at P,rfl,.nil,by decide,rfl,.fresh⟩ ?_))
  ext
 .rw[if_neg i]
  refine wa (Dm (s:={s with heap:=H}) D (by ext) λh' ep' t' sb g m1 m2 p1 p2 l1 l2=>?_)
  have j:t'.fits (#[]:Array (Int×Value)).size=true:=by
   unfold SetTable.fits SetTable.fill
   ext
  refine wa (wj (s:={s with heap:=h' }) g rfl j ?_);dsimp only
  have m:∀b x,s.heap.get? b=some x->h'.get? b=some x:=λb x e=>by
   have hb:b≠f:=λz=>by
    have:=ql e
    ext
   exact(sb.2 b hb).trans (c b x e)
  have d:∀(y:Array (Int×Value)) (B:SetTable) b x,s.heap.get? b=some x->(h'.update f (Obj.putSet y B)).get? b=some x:=λy B b x e=>by
   have hb:b≠f:=λz=>by
    have:=ql e
    ext
   exact((wv h' f _).2 b hb).trans (m b x e)
  have n:t'.fill=0:=by
   unfold SetTable.fill
   ext
  unfold SetTable.road;rw[n,if_neg nofun]
  have v:eK w=false->(t'.led&&t.led)=true:=λz=>by
   rw[l1,R.1 z,z];rfl
  by_cases Y:(t'.mask==t.mask&&t.dummies.isEmpty)=true
  .rw[if_pos Y]
   dsimp only;refine wpAny_storeSet_of (s:={s with heap:=h' }) g rfl ?_ (fits_of_scanBound hb);have M:=jY g rfl a {t with finger:=t'.finger,led:=t'.led&&t.led,moves:=t'.moves,plain:=t'.plain&&t.plain};refine wb (h _ ns (d _ _) ⟨_,a,_,_,M,⟨rfl,rfl,rfl⟩,rfl,p,K,r,hb,l,v,λz=>?_⟩ (.refl _));have X:(t'.plain&&t.plain)=true:=z;rw[Qe]at X;exact R.2 X.2
  .rw[if_neg Y]
   dsimp only
   obtain⟨B,q,e1,e2,e3,e4,e5,e6⟩:=NJ (mask:=t'.mask) (finger:=t'.finger) (moves:=t'.moves) (led:=t'.led&&t.led) (plain:=t'.plain&&t.plain) m1 (a.map (·.1)) (by ext) (λx S=>by
    rw[Array.toList_map]at S;obtain⟨e,P,rfl⟩:=qy S;obtain⟨tk,het⟩:=lW p P
    have I:c5 e∈ns:=by grind
    have:=Ui (hk _ I)
    grind)
   rw[e1];have L:=Az e1
   have N:q.toList.Perm (List.range a.size):=by grind
   have Z:=Dl N
   have hsz2:(q.filterMap (a[·]?)).size=a.size:=by rw[<-qj,Z.length_eq,qj]
   refine wa ?_;show wpAny _ _ (if ((q.filterMap (a[·]?)).size != a.size)=true then _ else _) _ _ _;rw[if_neg (by ext)];refine wb ?_;dsimp only
   have u:(q.filterMap (a[·]?)).size<scanBound:=by ext
   refine wpAny_storeSet_of (s:={s with heap:=h' }) g rfl ?_ (fits_of_scanBound u);have M:=jY g rfl (q.filterMap (a[·]?)) B
   have F:((q.filterMap (a[·]?)).toList.map c5).Perm ns:=by grind
   refine wb (h _ _ (d _ _) ⟨_,_,_,B,M,⟨rfl,rfl,rfl⟩,rfl,p.perm Z,rfl,F.nodup_iff.mpr r,u,?_,⟨λz=>by ext,λ_=>L.1⟩⟩ F);unfold SetTable.fits SetTable.fill
   ext
theorem Uj:entryFor table "set.__xor__"=some Builtin.«frozenset.__xor__»:=
 entryFor_alias (id':="frozenset.__xor__") (by kernel_rfl) (by first|rfl|decide +kernel|(unfold String.splitOn)) (by decide +kernel) (by kernel_rfl)
theorem Do(G:SetI prog w s.heap a ns)(j:SetI prog w s.heap b g)(q:∀k∈g,0<=k/\k<1024)(t:g.length<64)(u:ns.length<64)(h:∀I H f,(∀c x,s.heap.get? c=some x->I.get? c=some x)->SetI prog w I (~~~s) f->(∀x,x∈f↔¬(x∈g↔x∈ns))->Q (.ref (~~~s)) {s with heap:=I,drawn:=H}):
 wpAny (mZ prog w) A (binaryOp .BitXor (.ref a) (.ref b)) Q E s:=by
 refine wpAny_binaryOp_same G.type j.type F.fills_set_xor F.slot_set_xor (we F.slot_set_xor G.type Uj (wa (wpAny_of_eq rfl (wa (wa (uJ G (uJ j (wa (wb (wa (wa (wa (wpAny_isInstance G.type C4 (wb (wa (Dn j q t λD f m p v=>?_))))))))))))))) (F.args_set_xor_2 _ _))
 have d:a< ~~~s:=by
  obtain⟨C,_,_,_,y,_⟩:=G;exact ql y
 have r:scanBound=4096:=rfl;refine wa (wb (wa (wc (Dj (qm d) (G.at λx e=>m a x e) p (by rw[v.length_eq];lia) λo H i n l B=>wb (wb ⟨_,rfl,(λz=>nomatch z),h o H i (λc x e=>?_) l λx=>?_⟩)))))
 .exact(n.2 c (qm (ql e))).trans (m c x e)
 grind
end
section
variable {σ:L2.St}{H:Hp}{s:Shared}
def Dp(P:P7)(w:World):V->V->Hp->VK->Prop:=λx y H Q=>∃a b e c,x=.ref a/\y=.ref b/\H a=some (dE P w a e)/\H b=some (dE P w b c)/\(∀k∈c,0<=k/\k<1024)/\c.length<64/\e.length<64/\
 ∀p d,H p=none->d.Nodup->(∀x,x∈d↔¬(x∈c↔x∈e))->Q (.ref p) (upd H p (dE P w p d))
def op_xor:bX X (binaryOp .BitXor) (Dp X.prog X.w):=by
 intro o s w H x y v u Q I j m h;obtain⟨a,b,t,n,rfl,rfl,p,g,f,k,d,q⟩:=h;cases j;cases m
 exact Do ((I.hok a _ p).1) ((I.hok b _ g).1) f k d λz r i c e l=>⟨.ref _,_,.laid (I.dr r) c (qv _) (C6 e),rfl,q _ i (I.hok.fresh (qv _)) e.nodup l⟩
end
theorem eX:∀(l a:AF) (x:Int),x∈aZ a l↔x∈a\/x∈l
 | [],a,x=>by simp[aZ]
 | k::l,a,x=>by
   rw[aZ,eX];grind
theorem kA:∀(l a:AF),a.Nodup->(aZ a l).Nodup
 | [],_,h=>h
 | k::l,a,h=>by
   refine kA l _ ?_;symm
def dR(a b:AF):AF:=(aZ [] b).filter (λx=>!(a.contains x))++(aZ [] a).filter (λx=>!(b.contains x))
def NL:x∈dR a b↔¬(x∈b↔x∈a):=by
 unfold dR;rw[List.mem_append,Ql,Ql,eX,eX];by_cases c:x∈a<;>by_cases d:x∈b<;>simp[c]
theorem Dq(a b:AF):(dR a b).Nodup:=by
 unfold dR;rw[List.nodup_append];refine⟨(kA b [] .nil).filter _,(kA a [] .nil).filter _,λx e y d z=>?_⟩;have c:=Qc d;rw[eX]at c;grind
def iy(l m:AN):Option AN:=(intsD l).bind λa=>(intsD m).bind λb=>
 if a.length<4000/\b.length<4000/\(aZ [] a).length<64/\(aZ [] b).length<64/\(b.all λk=>decide (0<=k/\k<1024))=true/\(dR a b).length<64 then some ((de (dR a b)).map .int)else none
section
variable {e e2:Expr}{f:AU}{p:Pos}
def uK(f f2:AU):AV:=λa=>(b1 f Yc a).bind λl=>(b1 f2 Yc a).bind λm=>iy l m
@[simp] theorem kB:uK f f2 ρ=((f ρ).bind Yc).bind λl=>((f2 ρ).bind Yc).bind λm=>iy l m:=C_ rfl
end
section
variable {w:World}{A:Around}{E:AA}{s:Shared}
structure Uk(w:World)(h:Heap)(a:Addr)(us:List (Int×Addr)):Prop where
 ex:∃o es ep t,h.get? a=some o/\o.ExactSet/\o.data=.set es ep t/\es.toList=us.map (λu=>(u.1,Value.ref u.2))/\t.fits es.size=true/\t.mask=7/\t.dummies=#[]/\t.place.toList=us.map (λu=>SetTable.bits u.1%8)/\Tab (eK w) t
end
noncomputable def Ds(mask:Nat)(p:SetTable.Probe):SetTable.Probe:=SetTable.advance {mask:=mask,place:=#[],dummies:=#[],finger:=0,led:=false,moves:=0,plain:=false} p
noncomputable def Dt(mask:Nat):Nat->SetTable.Probe->SetTable.Probe
 | 0,p=>p
 | k+1,p=>Dt mask k (Ds mask p)
noncomputable def Ul(mask i perturb:Nat):SetTable.Probe:={j:=i,more:=SetTable.runEnd mask i-i,i,perturb,dummy:=none}
def Um(mask:Nat)(a:Nat->Prop)(p:SetTable.Probe)(j:Nat):Prop:=∃k,(Dt mask k p).j=j/\∀m,m<k->a (Dt mask m p).j
abbrev Uo(mask:Nat)(h:Int):SetTable.Probe:=Ul mask (SetTable.bits h%(mask+1)) (SetTable.bits h)
section
variable {t:SetTable}{hA:Nat->Int}{h:Int}
structure o8(t:SetTable)(n:Nat):Prop where
 hs:t.mask+1∈sizes
 dm:t.dummies=#[]
 rise:cK t.place
 le:∀j∈t.place.toList,j<=t.mask
 sz:t.place.size=n
 room:n<=t.mask
end
def bI(b:Bool):Int:=if b then 1 else 0
def bH(a:AG):Int:=nZ (a.map bI)
def Du(h:Heap)(u:Addr)(a:AG):Prop:=a.length<=4/\∃o n,h.get? u=some o/\o.cls=.type "tuple"/\o.data=.seq (a.map .bool).toArray n
structure Up(w:World)(h:Heap)(S:Addr)(us:List (Addr×AG)):Prop where
 ex:∃o es ep t,h.get? S=some o/\o.ExactSet/\o.data=.set es ep t/\es.toList.Perm (us.map λu=>(bH u.2,Value.ref u.1))/\t.fits es.size=true/\o8 t es.size/\Tab (eK w) t/\es.size*5<t.mask*3/\∀q∈es.toList.zip t.place.toList,Um t.mask (·∈t.place.toList) (Uo t.mask q.1.1) q.2
 keys:(us.map (·.2)).Nodup
 tups:∀u∈us,Du h u.1 u.2
 few:us.length<=24
section
variable {n:Nat}{key:Nat->Nat}{cmp:Nat->Nat->(Bool->Shared->Prop)->Shared->Prop}{s:Shared}
variable (hinj:∀i j,i<n->j<n->key i=key j->i=j)(hc:∀i j (C:Bool->Shared->Prop),i<n->j<n->C (decide (key i<key j)) s->cmp i j C s)
include hinj hc
omit hinj hc in
omit hinj hc in
omit hinj hc in
end
section
variable {e:Expr}{f:AU}{p:Pos}
def o9:D->D->Option D
 | .tup a,.tup b=>if a.length+b.length<=aA then some (.tup (a++b))else none
 | _,_=>none
def Dv(K:W7):R2:=λx y H Q=>∃a b c d,x=.ref a/\y=.ref b/\SqT K H a c/\SqT K H b d/\c.length+d.length<=sizeLine/\
 (c=[]->Q (.ref b) H)/\(c≠[]->d=[]->Q (.ref a) H)/\(c≠[]->d≠[]->∀p,H p=none->Q (.ref p) (upd H p (.tup (c++d))))
def Dw:bX X (binaryOp .Add) (Dv X.K):=by
 intro t s J H x y v u Q I A k h;obtain⟨a,b,o,G,rfl,rfl,z,B,R,D,F,M⟩:=h;by_cases d:o=[]
 .cases A
  cases k;obtain⟨L,C,S,_⟩:=I.tuple z;obtain⟨r,U,O,_⟩:=I.tuple B;obtain⟨⟨K,E,m,N⟩,q,l,n,w⟩:=S;obtain⟨⟨p,i,data2,j⟩,f,g,T,e⟩:=O;simp at l w g e;subst l w g e
  exact concat_meets ⟨_,q,rfl⟩ ⟨_,f,rfl⟩ noFill_tuple_add seq_tuple_add PySem.F.slot_tuple_add PySem.F.entry_tuple_add (PySem.F.args_tuple_add_2 _ _)
   (tuple_addW0 a b _ _ n T E i N j (by simp[C.nil_iff.mpr d])) ⟨q,f,⟨.ref b,H,I,rfl,D d⟩⟩
 .exact Ab _ s J H _ _ _ _ Q I A k ⟨a,b,o,G,rfl,rfl,z,B,d,R,F d,M d⟩
@[simp] theorem mm(a b:AN):o9 (.tup a) (.tup b)=if a.length+b.length<=aA then some (.tup (a++b))else none:=C_ rfl
end
structure ZE(X:Cx)(e:Expr)(f:AU):Prop where
 un:ME X e f
structure ZC(X:Cx)(e:Expr)(f:AU):Prop where
 un:MC X e f
structure jo(X:Cx)(es:AK)(f:AV):Prop where
 un:tZ X es f
structure ZF(X:Cx)(e:Expr)(f:AV):Prop where
 un:MF X e f
structure ZT(X:Cx)(e:Expr)(f:AT):Prop where
 un:MT X e f
structure ZW(X:Cx)(e:Expr)(f:AT):Prop where
 un:MW X e f
structure ZA(X:Cx)(es:AK)(f:AV):Prop where
 un:MA X es f
structure ZI(X:Cx)(tg iter:Expr)(f:AV):Prop where
 un:MI X tg iter f
structure ZS(X:Cx)(st:Stmt)(f:AR):Prop where
 un:MS X st f
structure ZB(X:Cx)(sts:List Stmt)(f:AR):Prop where
 un:MB X sts f
structure ZG(X:Cx)(tg:Expr)(gt:AS):Prop where
 un:MG X tg gt
structure gw(X:Cx)(K:W7)(ifs:AK)(f:AT):Prop where
 un:d8 X ifs (tTof K f)
structure ZO(X:Cx)(e:Option Expr)(f:Option AU):Prop where
 un:PO X e (tO X.K f)
structure ZP(X:Cx)(pos:Pos)(keys:List (Option Expr))(values:AK)(ks:AJ)(fs:List AU):Prop where
 un:MP X pos keys values ks fs
section
variable {H0 G0 H G:Hp}{σ:L2.St}{ρ:Ro}{a b c e:Expr}{fb fc f:AU}
def Dx(h:ZE X e f):ZC X e f:=⟨ME.mc h.un⟩
theorem Dy(i:Nat)(n:X.N[i]?=some x:=by rfl)(k:fS X.env.scope x:=by trivial)(l:da x:=by decide)(g:gK x:=by decide):ZE X (.Name x pos) (ab i):=⟨
 PE.imp (g_ n k l g) λc H Q j=>by
  obtain⟨f,d,b,a,G,e,s,h⟩:=j;obtain⟨v,o,m⟩:=s.sh i d (MO e)
  exact⟨v,o,h v H G (.refl s.seen) m⟩⟩
theorem Dz(i:Nat)(r:X.N[i]?=some x:=by rfl)(w:fS X.env.scope x:=by trivial)(z:da x:=by decide)(m:gK x:=by decide):ZC X (.Name x pos) (aa i):=⟨
 PE.imp (g_ r w z m) λD H Q o=>by
  obtain⟨E,d,F,B,G,e,s,h⟩:=o;unfold aa at e
  split at e
  .rename_i C k
   cases e;obtain⟨v,g,j⟩:=s.sh i _ k;exact⟨v,g,h v H G (.refl s.seen) (.of s.seen j)⟩
  .rename_i l n
   cases e;obtain⟨a,c,g,j,y,p,q⟩:=s.ow i l n;exact⟨_,g,h _ H G (.refl s.seen) (⟨a,c,rfl,.inl p,q⟩)⟩
  .rename_i t f b n
   cases e;obtain⟨a,u,A,g,j,y,p,q⟩:=s.od i t f b n;exact⟨_,g,h _ H G (.refl s.seen) (by rw[Ct];grind)⟩
  .cases e⟩
def DA{j}:ZE X (.Constant (.int i) j pos) (aaa i):=⟨A_⟩
def DB{j}:ZE X (.Constant (.bool k) j pos) (kD (.bl k)):=⟨Ba⟩
def DC{j}:ZE X (.Constant .none j pos) (kD .non):=⟨Bb⟩
theorem DE{j}(g:PyData.strOk x=true:=by decide +kernel):ZE X (.Constant (.str x) j pos) (kD (.str x)):=⟨t4 yh (λ_ _ _ q=>q) λ_=>by rw[Rp];grind⟩
def DF(d:ZC X a fa)(c:ZC X b fb):ZE X (.BinOp a .Sub b pos) (b2 fa fb h_):=⟨have d:=d.un;have c:=c.un;lY zg MQ d c⟩
def DG(d:ZC X a fa)(c:ZC X b fb):ZE X (.BinOp a .Mult b pos) (b2 fa fb gi):=⟨have d:=d.un;have c:=c.un;lY zh (t5 λi j h=>by
 simp only[Bool.or_eq_true,Qe,wm]at h
 exact h) d c⟩
def DH(d:ZC X a fa)(c:ZC X b fb):ZE X (.BinOp a .FloorDiv b pos) (b2 fa fb eO):=⟨have d:=d.un;have c:=c.un;lY zi (t5 λi j h=>by
 simp [wm]at h
 exact h) d c⟩
def DI(d:ZC X a fa)(c:ZC X b fb):ZE X (.BinOp a .Mod b pos) (b2 fa fb bF):=⟨have d:=d.un;have c:=c.un;lY zj (t5 λi j h=>wq h) d c⟩
def DJ(d:ZC X a fa)(hb:ZC X b fb):ZE X (.Compare a [.Lt] [b] pos) (mB (b2 fa fb eP)):=⟨have d:=d.un;have hb:=hb.un;gO jQ lZ d hb (fB _)⟩
def DK(ha:ZC X a fa)(hb:ZC X b fb):ZE X (.Compare a [.Gt] [b] pos) (mB (b2 fa fb gP)):=⟨have ha:=ha.un;have hb:=hb.un;gO nA lZ ha hb (fB _)⟩
def DL(d:ZC X a fa)(c:ZC X b fb):ZT X (.Compare a [.Lt] [b] pos) (b2 fa fb eP):=⟨have d:=d.un;have c:=c.un;fD jQ lZ d c (fB _)⟩
def DM(d:ZC X a fa)(c:ZC X b fb):ZT X (.Compare a [.Gt] [b] pos) (b2 fa fb gP):=⟨have d:=d.un;have c:=c.un;fD nA lZ d c (fB _)⟩
def DN(g:X.A.units+64<cLine)(d:ZC X a fa)(c:ZC X b fb):ZE X (.Compare a [.Eq] [b] pos) (mB (b2 fa fb (az false))):=⟨have d:=d.un;have c:=c.un;gO (n8 g) t6 d c (fB _)⟩
def DO(g:X.A.units+64<cLine)(d:ZC X a fa)(c:ZC X b fb):ZE X (.Compare a [.NotEq] [b] pos) (mB (b2 fa fb (az true))):=⟨have d:=d.un;have c:=c.un;gO (n9 g) t6 d c (fB _)⟩
def DP(g:X.A.units+64<cLine)(d:ZC X a fa)(c:ZC X b fb):ZT X (.Compare a [.Eq] [b] pos) (b2 fa fb (az false)):=⟨have d:=d.un;have c:=c.un;fD (n8 g) t6 d c (fB _)⟩
def DR(g:X.A.units+64<cLine)(d:ZC X a fa)(c:ZC X b fb):ZT X (.Compare a [.NotEq] [b] pos) (b2 fa fb (az true)):=⟨have d:=d.un;have c:=c.un;fD (n9 g) t6 d c (fB _)⟩
def DS(g:X.A.units+64<cLine)(d:ZC X a fa)(c:ZC X b fb)(h:behindInMarks .In b=false:=by with_unfolding_all rfl):ZE X (.Compare a [.In] [b] pos) (mB (b2 fa fb (cb false))):=⟨have d:=d.un;have c:=c.un;gO (n_ g) Bi d c h⟩
def DT(g:X.A.units+64<cLine)(d:ZC X a fa)(c:ZC X b fb)(h:behindInMarks .In b=false:=by with_unfolding_all rfl):ZT X (.Compare a [.In] [b] pos) (b2 fa fb (cb false)):=⟨have d:=d.un;have c:=c.un;fD (n_ g) Bi d c h⟩
def DU(g:X.A.units+64<cLine)(d:ZC X a fa)(c:ZC X b fb)(h:behindInMarks .NotIn b=false:=by with_unfolding_all rfl):ZT X (.Compare a [.NotIn] [b] pos) (b2 fa fb (cb true)):=⟨have d:=d.un;have c:=c.un;fD (SK g) Bi d c h⟩
end
section
variable {a b c e:Expr}{fb f fe:AU}{fc:AT}{p:Pos}{x:Str}{id T:String}{r:AM->Hp->VK->Prop}{g:AN->Option D}{gf:AN->Option AN}{N:AJ}{src:List AL}{gt:AS}{P:P7}{w:World}
def DV(j:ZC X a fa)(o:∀i,isTrue a X.env i=(do let v <-i;standAt a.pos;holding [v] (truthy v)):=by intro _;rfl):ZT X a (b1 fa aD):=⟨have j:=j.un;
 PT.imp (zu j o) λc H Q l=>by
  obtain⟨b,k,A,B,G,e,s,h⟩:=l;obtain⟨d,t,u⟩:=eL e
  exact tCof.at t s λv y m n q z=>⟨k,Bj u q,h y m n⟩⟩
def DW(d:ZT X a fc):ZW X (.BoolOp .And [a] pos) fc:=⟨have d:=d.un;yk d⟩
def DX(d:ZT X a fc):ZW X (.BoolOp .Or [a] pos) fc:=⟨have d:=d.un;ym d⟩
def DY(d:ZT X a fc)(c:ZW X (.BoolOp .And (b::rest) pos) fd):ZW X (.BoolOp .And (a::b::rest) pos) (bC fc fd):=⟨have d:=d.un;have c:=c.un;PW.imp (yn d c) λ_ _ _ h=>Bm h⟩
def DZ(d:ZT X a fc)(c:ZW X (.BoolOp .Or (b::rest) pos) fd):ZW X (.BoolOp .Or (a::b::rest) pos) (du fc fd):=⟨have d:=d.un;have c:=c.un;PW.imp (yo d c) λ_ _ _ h=>Bn h⟩
def D0(i:ZT X a fc):ZT X (.UnaryOp .Not a pos) (bu fc):=⟨have i:=i.un;PT.imp (yp i) λc H Q d=>by
 obtain⟨b,k,t,q,G,e,s,h⟩:=d;obtain⟨o,j,rfl⟩:=qc e
 exact tTof.at j s λm n l _=>h m n l⟩
def D1(d:ZE X a fa):ZE X (.BoolOp .And [a] pos) fa:=⟨have d:=d.un;nt d⟩
def D2(d:ZE X a fa):ZE X (.BoolOp .Or [a] pos) fa:=⟨have d:=d.un;nt d⟩
def D4(j:ZE X a fa)(c:ZE X (.BoolOp .And (b::rest) pos) fb):ZE X (.BoolOp .And (a::b::rest) pos) (bO fa fb):=⟨have j:=j.un;have c:=c.un;PE.imp (yu j c) λg H Q i=>by
 obtain⟨f,d,F,I,G,e,s,h⟩:=i;obtain⟨k,A,e⟩:=qa e;obtain⟨E,y,q⟩:=eL A;cases Bp q
 refine tOf.at y s λv C m l t n=>⟨k,t,?_⟩
 cases k with
 | true=>
   exact tOf.at e n λw u B z o _=>h w u B (l.trans z) o
 | false=>
   cases e
   exact h _ C m l (by rw[Rp])⟩
def D5(j:ZE X a fa)(hb:ZE X (.BoolOp .Or (b::rest) pos) fb):ZE X (.BoolOp .Or (a::b::rest) pos) (ig fa fb):=⟨have j:=j.un;have hb:=hb.un;PE.imp (yv j hb) λσ H Q i=>by
 obtain⟨ρ,d,F,I,G,e,s,h⟩:=i;obtain⟨k,A,e⟩:=qa e;obtain⟨E,y,q⟩:=eL A;cases Bp q
 refine tOf.at y s λv C m l t n=>⟨k,t,?_⟩
 cases k with
 | false=>
   exact tOf.at e n λw u B z o _=>h w u B (l.trans z) o
 | true=>
   cases e
   exact h _ C m l (by rw[Rp])⟩
def D6(j:ZE X a fa):ZE X (.UnaryOp .Not a pos) (ij fa):=⟨have j:=j.un;PE.imp (yw j) λc H Q i=>by
 obtain⟨b,d,y,B,G,e,s,h⟩:=i;obtain⟨k,u,rfl⟩:=qc e;obtain⟨A,q,m⟩:=eL u;cases Bp m
 exact tOf.at q s λv t l n o z=>⟨k,o,h _ t l n (by rw[Rp])⟩⟩
def D7(m:ZT X c fc)(i:ZE X a fa)(f:ZE X b fb):ZE X (.IfExp c a b pos) (l4 fc fa fb):=⟨have m:=m.un;have i:=i.un;have f:=f.un;PE.imp (yx m i f) λp H Q q=>by
 obtain⟨g,d,y,B,G,e,s,h⟩:=q;obtain⟨k,v,e⟩:=qa e;refine tTof.at v s λz A u t=>?_
 cases k with
 | true=>
   exact tOf.at e t λw j n o l _=>h w j n (u.trans o) l
 | false=>
   exact tOf.at e t λw j n o l _=>h w j n (u.trans o) l⟩
def D8(d:ZC X a fa)(hb:ZC X b fb):ZE X (.Compare a [.Is] [b] pos) (mB (b2 fa fb (cj false))):=⟨have d:=d.un;have hb:=hb.un;gO nB MV d hb (fB _)⟩
def D9(d:ZC X a fa)(c:ZC X b fb):ZE X (.Compare a [.IsNot] [b] pos) (mB (b2 fa fb (cj true))):=⟨have d:=d.un;have c:=c.un;gO L1 MX d c (fB _)⟩
def D_(d:ZC X a fa)(c:ZC X b fb):ZT X (.Compare a [.Is] [b] pos) (b2 fa fb (cj false)):=⟨have d:=d.un;have c:=c.un;fD nB MV d c (fB _)⟩
def Ea(d:ZC X a fa)(c:ZC X b fb):ZT X (.Compare a [.IsNot] [b] pos) (b2 fa fb (cj true)):=⟨have d:=d.un;have c:=c.un;fD L1 MX d c (fB _)⟩
def Eb(d:ZC X a fa)(hb:ZC X b fb)(hs:nM b:=by intro _ _;rfl):ZE X (.Subscript a b pos) (b2 fa fb ai):=⟨have d:=d.un;have hb:=hb.un;j4 Af Br d hb hs⟩
def Ec :ZO X none none:=⟨Bs⟩
def Ed(h:ZC X e f):ZO X (some e) (some f):=⟨have h:=h.un;z1 h⟩
def o_{g:AV}(h:ZF X e g):ZE X e (lF g):=⟨MF.me h.un⟩
def Ee :ZA X [] ae:=⟨og⟩
def Ef(d:ZE X e f)(h:ZA X es ga)(hs:aab X e es:=by rfl):ZA X (e::es) (Yb f ga):=⟨MY d.un h.un hs⟩
def Eg :jo X [] ae:=⟨i8⟩
def Uq(d:ZC X e f)(h:jo X es ga)(hs:aab X e es:=by rfl):jo X (e::es) (Yb f ga):=⟨i9 d.un h.un hs⟩
theorem Eh{x1}(h:ZA X es ga):ZE X (.Tuple es x1 pos) (av ga):=⟨have h:=h.un;PE.imp (zB h) λb H Q i=>by
 obtain⟨c,d,u,t,G,e,s,h⟩:=i;obtain⟨l,n,e⟩:=qa e
 split at e
 .cases e
  exact tAof.at n s λa q v o j k=>⟨by rw[j.length];exact gj (by assumption),λp m=>h _ _ _ (o.trans (.new k.seen m _)) (⟨p,a,rfl,Yh,j.mono (Gr.new k.seen m _).g⟩)⟩
 .cases e⟩
theorem Ei(h:ZA X es ga):ZF X (.List es pos) (bJ ga):=⟨have h:=h.un;PE.imp (zC h) λσ H Q j=>by
 obtain⟨ρ,d,u,v,G,e,s,h⟩:=j;obtain⟨l,o,e⟩:=qa e
 split at e
 .cases e
  exact tAof.at o s λvs t q k n m=>⟨by rw[n.length];exact gj (by assumption),λp i=>(h p vs _ q (k.trans (.hid m.seen i (.lst vs))) (k.h.free i) (m.seen.free i) Yh n)⟩
 .cases e⟩
theorem Ej(l:dO X (.builtin id) r)(q:ee X.K r g)(m:Gl X x)(n:X.mg x=none)(k:bootBuiltins x=some (.builtin id))(j:jo X (e::es) ga)(o:x≠"__name__":=by decide)(d:da x:=by decide)(s:aab X e es:=by rfl)(i:aac X pos es:=by rfl):ZE X (.Call (.Name x p) (e::es) [] pos) (cC ga g):=⟨have j:=j.un;
 PE.imp (nG l m n k j o d s i) λ_ _ _ h=>oh q h⟩
theorem NM(l:dO X (.builtin id) r)(q:eN X.K r gf)(m:Gl X x)(n:X.mg x=none)(k:bootBuiltins x=some (.builtin id))(j:jo X (e::es) ga)(o:x≠"__name__":=by decide)(d:da x:=by decide)(s:aab X e es:=by rfl)(i:aac X pos es:=by rfl):ZF X (.Call (.Name x p) (e::es) [] pos) (cF ga gf):=⟨have j:=j.un;
 PE.imp (nG l m n k j o d s i) λ_ _ _ h=>MZ q h⟩
theorem Ur(l:dO X (.type T) r)(q:ee X.K r g)(m:Gl X x)(n:X.mg x=none)(k:bootBuiltins x=some (.type T))(j:jo X (e::es) ga)(o:x≠"__name__":=by decide)(d:da x:=by decide)(s:aab X e es:=by rfl)(i:aac X pos es:=by rfl):ZE X (.Call (.Name x p) (e::es) [] pos) (cC ga g):=⟨have j:=j.un;
 PE.imp (i4 l m n k j o d s i) λ_ _ _ h=>oh q h⟩
theorem NO(l:dO X (.type T) r)(q:eN X.K r gf)(m:Gl X x)(n:X.mg x=none)(k:bootBuiltins x=some (.type T))(j:jo X (e::es) ga)(o:x≠"__name__":=by decide)(d:da x:=by decide)(s:aab X e es:=by rfl)(i:aac X pos es:=by rfl):ZF X (.Call (.Name x p) (e::es) [] pos) (cF ga gf):=⟨have j:=j.un;
 PE.imp (i4 l m n k j o d s i) λ_ _ _ h=>MZ q h⟩
def Ek :ZB X [] au:=⟨By⟩
def El(l:ZS X st fs)(m:ZB X sts gs):ZB X (st::sts) (ag fs gs):=⟨have l:=l.un;have m:=m.un;PSs.imp (yC l m) λF r H n=>by
 obtain⟨b,c,i,j,G,e,s,h⟩:=n;obtain⟨o,k,e⟩:=qa e
 cases o with
 | nx a=>exact⟨b,.nx a,i,j,G,k,s,λf q p g=>⟨a,c,i,j,p,e,g,h⟩⟩
 | rt d=>cases e;exact⟨b,.rt d,i,j,G,k,s,h⟩
 | bk a=>cases e;exact⟨b,.bk a,i,j,G,k,s,h⟩
 | ct a=>cases e;exact⟨b,.ct a,i,j,G,k,s,h⟩⟩
def Em(d:ZS X st fs):ZB X [st] fs:=⟨have d:=d.un;yD d⟩
def En(i:AE)(h:ZS X st fs):ZS X st (wF i fs):=⟨have h:=h.un;PS.imp h λF g H d=>by
 obtain⟨b,a,k,j,G,e,s,h⟩:=d;obtain⟨f,c⟩:=SR.frz i s
 exact⟨frz i b,a,k,j,f,e,c,h⟩⟩
theorem Eo(i:Nat)(j:X.N.Nodup)(d:ZE X e f)(k:X.N[i]?=some x:=by rfl)(m:dX X.env.scope x:=by trivial)(hs:swapsWith e (some (.Name x pos')) pos.line X.env=pure false:=by rfl)(l:aae X x:=by trivial):ZS X (.Assign [.Name x pos'] e pos) (ar i f):=⟨have d:=d.un;PS.imp (lS j k m d hs l) λ_ _ _ h=>Bz h⟩
theorem Ep(i:Nat)(j:X.N.Nodup)(d:ZF X e gl)(k:X.N[i]?=some x:=by rfl)(m:dX X.env.scope x:=by trivial)(hs:swapsWith e (some (.Name x pos')) pos.line X.env=pure false:=by rfl)(l:aae X x:=by trivial):ZS X (.Assign [.Name x pos'] e pos) (bc i gl):=⟨have d:=d.un;PS.imp (lS j k m d hs l) λ_ _ _ h=>BA h⟩
def Er(j:ZE X e f):ZS X (.Return (some e) pos) (ah f):=⟨have j:=j.un;PS.imp (yG j) λF c H i=>by
 obtain⟨b,a,q,u,G,e,s,h⟩:=i;obtain⟨d,l,rfl⟩:=qc e
 exact tOf.at l s λv o k t n m=>h v o k m.gr n⟩
def Es{a b:List Stmt}(d:ZT X c fc)(i:ZB X a fs)(g:ZB X b gs):ZS X (.If c a b pos) (aP fc fs gs):=⟨have d:=d.un;have i:=i.un;have g:=g.un;PS.imp (yI d i g) λF r H j=>by
 obtain⟨p,f,l,n,G,e,s,h⟩:=j;obtain⟨k,q,e⟩:=qa e;refine tTof.at q s λt o u m=>?_
 cases k with
 | true=>
   exact⟨p,f,l,n,o,e,m,h⟩
 | false=>
   exact⟨p,f,l,n,o,e,m,h⟩⟩
theorem Et(i:Nat)(d:X.N.Nodup)(a:ZC X e f)(m:X.N[i]?=some x:=by rfl)(w:dX X.env.scope x:=by trivial)(I:X.fn x=true\/X.env.scope.names.lookup x=some .local:=by trivial):ZS X (.AugAssign (.Name x pos') .Add e pos) (j7 i f):=⟨have a:=a.un;PS.imp (yU d m w a yV) λF E H b=>by
 obtain⟨K,A,D,L,G,e,s,h⟩:=b;obtain⟨c,n,e⟩:=qa e;obtain⟨o,C,e⟩:=qa e;obtain⟨y,g,rfl⟩:=qc e;obtain⟨v,j,B⟩:=s.sh i c (MO n);refine⟨v,j,tCof.at C s λu z t J k r=>?_⟩
 have l:∃p q,c=.int p/\o=.int q/\y=.int (p+q):=by
  unfold i2 at g;grind
 obtain⟨p,q,rfl,rfl,rfl⟩:=l
 exact⟨p,q,B,k,h _ z t (r.set_sh i (by rw[Rp]))⟩⟩
abbrev pa(X:Cx)(c:Pos)(l:AK):Prop:=((backTo c (starEach l X.env)).all (λx=>!x.1)&&(backToKw c (keywordEach [] X.env)).all (λx=>x.1.isSome)&&decide (l.length+([]:List Keyword).length+(if ([]:List Keyword).isEmpty then 0 else 1)<30))=true
theorem Us(i:Nat){o k j:Pos}(y:ZE X e f)(W:X.N[i]?=some x:=by rfl)(S:fS X.env.scope x:=by trivial)(Q:da x:=by decide)(A:gK x:=by decide)(z:swapsWith (.Call (.Attribute (.Name x o) "append" k) [e] [] j) none pos.line X.env=pure false:=by rfl)(hs:aad X e:=by rfl)(q:pa X j [e]:=by rfl)(n:(k.endLine==j.line)=true:=by rfl)(m:attributeBase (.Name x o) "append" X.env (eval (.Name x o) X.env)=eval (.Name x o) X.env:=by rfl):ZS X (.Expr (.Call (.Attribute (.Name x o) "append" k) [e] [] j) pos) (cM i f bY):=⟨have y:=y.un;
 PS.imp (tG (nQ PySem.F.plainAttrs_list PySem.F.slot_list_append PySem.F.type_list_append Ml (g_ W S Q A) (fT y gM hs) m q n hs rfl) z) λF g H u=>by
  obtain⟨K,p,D,r,G,e,s,h⟩:=u;obtain⟨l,C,e⟩:=qa e;obtain⟨d,R,e⟩:=qa e;obtain⟨w,t,rfl⟩:=qc e;unfold bY at t
  split at t
  .rename_i U
   cases t;obtain⟨a,c,E,I,B,Y⟩:=t7 s C;refine⟨_,E,.inl ⟨rfl,c,.of I⟩,tOf.at R s λv Z O J M L=>⟨a,c,v,rfl,rfl,J.h _ _ I,?_,h g _ O (L.mut (n4 C) E ((B.mono J.g).append (.one M)))⟩⟩;rw[B.length];exact Qi U (gj (qv _))
  .cases t⟩
theorem Eu(C:ZE X l f):ZI X tg l (b1 f Yc):=⟨have C:=C.un;PI.imp (BD C) λK H R F=>by
 obtain⟨D,N,Q,S,G,e,s,h⟩:=F;obtain⟨c,M,O⟩:=eL e;refine tOf.at M s λv B o z A E=>?_;rcases ic O with rfl|rfl|⟨w,rfl,rfl⟩
 .obtain⟨p,r,rfl,g,j⟩:=A
  refine⟨p,r,rfl,.inr ⟨.inl (.inl (E.seen _ _ g)),λu=>h _ B o z (oj (by rwa [<-j.length]) λi L J a b=>⟨λd n=>?_,λt=>⟨r,.inl (.inl (b _ _ (a _ _ g))),by rwa [j.length]⟩⟩)⟩⟩;obtain⟨x,k,m⟩:=j.get n;refine⟨⟨r,x,.inl (.inl (b _ _ (a _ _ g))),k⟩,λy I q=>⟨q.1,?_⟩⟩;have:=q.2 r (.inl (.inl (b _ _ (a _ _ g))));rw[k]at this;cases this;exact m.mono a
 .obtain⟨p,r,rfl,g,j⟩:=A
  refine⟨p,r,rfl,.inl ⟨.inl (d3 E.seen g),λu=>h _ B o z (oj (by rwa [<-j.length]) λi L J a b=>⟨λd n=>?_,λt=>⟨r,.inl (d3 b (d3 a g)),by rwa [j.length]⟩⟩)⟩⟩;obtain⟨x,k,m⟩:=j.get n;refine⟨⟨r,x,.inl (d3 b (d3 a g)),k⟩,λy I q=>⟨q.1,?_⟩⟩;have:=q.2 r (.inl (d3 b (d3 a g)));rw[k]at this;cases this;exact m.mono a
 .obtain⟨p,rfl,g⟩:=A
  have j:RpL X.K o _ _:=.ints w;refine⟨p,_,rfl,.inl ⟨E.seen.seq g,λu=>h _ B o z (oj (by ext) λi L J a b=>⟨λd n=>?_,λt=>⟨_,b.seq (a.seq g),by ext⟩⟩)⟩⟩;obtain⟨x,k,m⟩:=j.get n;refine⟨⟨_,x,b.seq (a.seq g),k⟩,λy I q=>⟨q.1,?_⟩⟩;have:=q.2 _ (b.seq (a.seq g));rw[k]at this;cases this
  exact m.mono a⟩
theorem Ut(q:Gl X "range")(z:X.mg "range"=none)(i:ZA X [a] ga)(hs:aad X a:=by rfl):ZI X tg (.Call (.Name "range" p) [a] [] pos) (cF ga cU):=⟨have i:=i.un;
 PI.imp (RV q z i hs) λg H R d=>by
  obtain⟨b,c,F,E,G,e,s,h⟩:=d;obtain⟨l,t,y⟩:=qa e;refine tAof.at t s λf k j o u C=>?_;obtain⟨n,rfl,A,B,rfl⟩:=SN y;obtain⟨v,rfl,m⟩:=l6 u;subst m;have:=h _ k j o (om (gj (by unfold aA;ext)))
  ext<;>ac_nf⟩
theorem Uu(v:Gl X "range")(A:X.mg "range"=none)(i:ZA X [a,b] ga)(hs:starEach [a,b] X.env=[(false,eval a X.env),(false,eval b X.env)]:=by rfl)(d:aad X b:=by rfl):ZI X tg (.Call (.Name "range" p) [a,b] [] pos) (cF ga eS):=⟨have i:=i.un;
 PI.imp (RX v A i hs d) λw H R k=>by
  obtain⟨c,f,J,I,G,e,s,h⟩:=k;obtain⟨l,u,m⟩:=qa e;refine tAof.at u s λg o z t j L=>?_;obtain⟨a,n,rfl,E,M,F,C,rfl⟩:=SQ m;obtain⟨x,r,rfl,q,j⟩:=j;obtain⟨y,rfl,B⟩:=l6 j;subst q B
  exact⟨a,n,rfl,⟨by ac_nf,by ac_nf,by ac_nf,by ac_nf⟩,h _ o z t (om (Qg (by ext<;>lia:(n-a).toNat<=2000000) (by decide)))⟩⟩
theorem Ew(i:Nat)(m:X.N.Nodup)(l:X.N[i]?=some x:=by rfl)(n:dX X.env.scope x:=by trivial)(k:aae X x:=by trivial):ZG X (.Name x pos) (aj i):=⟨
 PG.imp (yK m l n k) λv c H Q j=>by
  obtain⟨d,b,a,q,o,G,e,s,r,h⟩:=j;cases e
  exact h _ (s.set_sh i r)⟩
theorem Ex(i j:Nat){x y:Str}{px B:Pos}{k:Nat}(E:X.calm=true)(q:X.N.Nodup)(I:X.N[i]?=some x:=by rfl)(C:X.N[j]?=some y:=by rfl)(z:dX X.env.scope x:=by trivial)(t:dX X.env.scope y:=by trivial)(A:aae X x:=by trivial)(n:aae X y:=by trivial):ZG X (.Tuple [.Name x px,.Name y B] k pos) (fU i j):=⟨
 PG.imp (yP (n:=2) E (LV (yK q I z A) (LV (yK q C t n) yN))) λv M H Q o=>by
  obtain⟨d,f,c,J,L,G,e,s,r,h⟩:=o
  match d,e,r with
  | .tup [a,b],e,r=>
    cases e;obtain⟨p,D,rfl,g,l⟩:=r;obtain⟨u,K,rfl,F,l⟩:=l;obtain⟨w,rfl,m⟩:=l6 l
    exact⟨p,[u,w],rfl,.inl (.inl (s.seen _ _ g)),rfl,u,[w],rfl,w,[],rfl,rfl,h _ ((s.set_sh i F).set_sh j m)⟩⟩
theorem Ey(K:PassesOwn (mZ X.prog X.w) X.A X.env X.xe)(hc:X.calm=true)(O:ZI X tg iter gl)(R:ZG X tg gt)(w:ZB X C fs)(hs:∀x,foldedSetIterable iter X.env x=pure x:=by intro _;rfl):ZS X (.For tg iter C [] pos) (bf gl gt fs):=⟨have O:=O.un;have R:=R.un;have w:=w.un;
 PS.imp (za K hc O R w hs) λF σ H Q=>by
  obtain⟨D,p,H0,G0,G,e,s,h⟩:=Q;obtain⟨c,N,h2⟩:=qa e;refine⟨D,c,H0,G0,G,N,s,λJ H1 E g1 wk=>?_⟩;obtain⟨M,Z,k⟩:=(s.grow g1).rebase;refine⟨λi m b f=>m=c.length-i/\i<=c.length/\∃a g,SR X.K M E b f g a/\forM gt fs (c.drop i) a=some p,⟨_,rfl,Qh _,D,E,Z,h2⟩,?_⟩;rintro i m b f ⟨rfl,O,a,g,r,j⟩;have W:=wk.2 i f g r.gr.g r.seen;by_cases u:i<c.length
  .obtain⟨go,T⟩:=W.1 _ (qr u)
   rw[List.drop_eq_getElem_cons u]at j;obtain⟨L,e1,j⟩:=qa j;obtain⟨o,e2,j⟩:=qa j;refine .inr ⟨go,λb f=>i+1<=c.length/\∃a g,SR X.K M E b f g a/\forM gt fs _ a=some p,λY U q=>⟨c.length-(i+1),by symm,rfl,q.1,q.2⟩,λx U y=>?_⟩;obtain⟨S,g2,r2⟩:=T x U y;refine⟨_,a,L,M,E,S,e1,r.grow g2,r2,λσ3 s3=>⟨L,o,M,E,S,e2,s3,?_⟩⟩
   cases o with
   | nx n=>exact λA B z I=>⟨u,n,z,I,j⟩
   | ct n=>exact λA B z I=>⟨u,n,z,I,j⟩
   | bk n=>
     cases j;exact λA B z I=>h A B z (k _ _ _ _ I)
   | rt d=>
     cases j;refine λv B z g4 V=>h v B z ?_ V;have:=(k [] B z [] (.mkSh g4 rfl (λi d e=>by simp at e) (λi l e=>by simp at e) (λi t ks vs e=>by simp at e))).gr;exact this
  .have ei:i=c.length:=by ac_nf
   subst ei;rw[List.drop_length]at j;cases j
   exact .inl ⟨W.2 (qv _),h b f g (k _ _ _ _ r)⟩⟩
def Uv(n:Nat)(M:PassesOwn (mZ X.prog X.w) X.A X.env X.xe)(u:ZT X c fc)(y:ZB X j fs):ZS X (.While c j [] pos) (dv fc fs n):=⟨have u:=u.un;have y:=y.un;
 PS.imp (yX M u y) λF N H w=>by
  obtain⟨D,i,t,z,G,e,s,h⟩:=w;refine⟨λm b p=>∃a l,SR X.K t z b p l a/\dv fc fs m a=some i,⟨n,D,G,s,e⟩,?_⟩;rintro m b p ⟨a,l,K,f⟩
  cases m with
  | zero=>cases f
  | succ m=>
    obtain⟨k,C,f⟩:=qa f;refine tTof.at C K λJ B O A=>?_
    cases k with
    | false=>
      cases f;exact h b J B A
    | true=>
      obtain⟨o,L,f⟩:=qa f;refine⟨λb p=>∃a l,SR X.K t z b p l a/\dv fc fs m a=some i,λE Q q=>⟨m,Qa m,q⟩,⟨a,o,t,z,B,L,A,?_⟩⟩
      cases o with
      | nx g=>exact λr I x v=>⟨g,x,v,f⟩
      | ct g=>exact λr I x v=>⟨g,x,v,f⟩
      | bk g=>cases f;exact h
      | rt d=>cases f;exact h⟩
def Ez :gw X X.K [] tY:=⟨BF⟩
def EA(S:gg X.N X.env.scope N src scope)(o:X.calm=true)(l:ZI X tg iter gl)(m:∀h C i s H,ZG (cQ X scope N h C i s H) tg gt)(q:∀h C i s H,gw (cQ X scope N h C i s H) X.K ifs fc)(n:∀h C i s H,ZE (cQ X scope N h C i s H) elt fe)(k:∀ρ d j,gt d (ao src ρ)=some j->Le (ao src ρ) j)(hs:∀x,foldedSetIterable iter X.env x=pure x:=by intro _;rfl):ZF X (.ListComp elt [⟨tg,iter,ifs,0⟩] scope pos) (Yv gl src gt fc fe):=⟨BI S o l.un (λh C i s H=>(m h C i s H).un) (λh C i s H=>(q h C i s H).un) (λh C i s H=>(n h C i s H).un) k hs⟩
theorem EB(i:Nat){q k:Pos}(F:X.N.Nodup)(S:gg X.N X.env.scope N src scope)(v:X.calm=true)(n:ZI X tg iter gl)(z:∀j C h s H,ZG (cQ X scope N j C h s H) tg gt)(B:∀j C h s H,gw (cQ X scope N j C h s H) X.K ifs fc)(A:∀j C h s H,ZE (cQ X scope N j C h s H) elt fe)(o:∀ρ d l,gt d (ao src ρ)=some l->Le (ao src ρ) l)(m:swapsWith (.ListComp elt [⟨tg,iter,ifs,0⟩] scope pos) (some (.Name y q)) k.line X.env=pure true:=by rfl)(u:X.N[i]?=some y:=by rfl)(t:dX X.env.scope y:=by trivial)(E:aae X y:=by trivial)(hs:∀x,foldedSetIterable iter X.env x=pure x:=by intro _;rfl):ZS X (.Assign [.Name y q] (.ListComp elt [⟨tg,iter,ifs,0⟩] scope pos) k) (bc i (Yv gl src gt fc fe)):=⟨BJ i F S v n.un (λj C h s H=>(z j C h s H).un) (λj C h s H=>(B j C h s H).un) (λj C h s H=>(A j C h s H).un) o m u t E hs⟩
def NP{f:Addr}{fd:FuncData}{fb:AR}(F:Fun K x i st f fd)(S:gN N ps (aAa st))(l:N.length=n)(o:ps.length=m)(b:∀(h:Value) (A:Around) (d:List Env) (s:Shared) (H:Hp) (E:XK),Room k (A.deeper (envOfC i (aAa st) (~~~s) f h))->ZB (dz dY P w K mg base N i (aAa st) f h A d s H E).nox (aCa st) fb):cB P w K mg base dY (k+1) f fd ps (dh K m (ak m n fb)):=SU F S l o (λh A d s H E j=>(b h A d s H E j).un)
theorem NQ(c:aC X.prog X.w X.K X.mg X.base j n x ps v)(s:Room k X.A)(q:Gl X x)(h:ZA X (e::es) ga)(u:∀ρ l,ga ρ=some l->l.length=n)(o:j<=k:=by first|exact qv _|ac_nf)(d:da x:=by decide)(m:aab X e es:=by rfl)(i:aac X pos es:=by rfl):ZE X (.Call (.Name x p) (e::es) [] pos) (cC ga v):=⟨have h:=h.un;by
 obtain⟨a,g,F,b,t,y⟩:=c
 exact Bt F (s.mono o) q y t b h d m i u⟩
def EC(d:ZC X a fa)(c:ZC X b fb):ZE X (.BinOp a .Add b pos) (b2 fa fb ef):=⟨have d:=d.un;have c:=c.un;lY zf MQ d c⟩
def ED(j:ZC X a fa):ZE X (.UnaryOp .USub a pos) (b1 fa bD):=⟨have j:=j.un;PE.imp (zd zl j) λc H Q i=>by
 obtain⟨b,d,u,y,G,e,s,h⟩:=i;obtain⟨x,o,k⟩:=eL e;refine tCof.at o s λv n l q m t=>?_;cases x<;>simp[bD]at k;subst k
 exact⟨_,m,h _ n l q (by rw[Rp])⟩⟩
def EE(n:ZC X a fa)(c:ZC X b fb):ZF X (.BinOp a .Add b pos) (b2 fa fb cu):=⟨have n:=n.un;have c:=c.un;PE.imp (hV BN n c) λr H Q k=>by
 obtain⟨g,l,W,Z,G,e,s,h⟩:=k;obtain⟨R,S,L,J,d⟩:=n3 e;refine tCof.at L s λv w Y z E A=>tCof.at J A λu U M j B y=>?_;unfold cu at d
 split at d
 .split at d
  .rename_i C
   cases d;obtain⟨p,f,rfl,F,t⟩:=E.grow j;obtain⟨q,O,rfl,I,o⟩:=B;exact⟨p,q,f,O,rfl,rfl,F,I,by rw[t.length,o.length];exact gj C,λm i=>h m _ _ M ((z.trans j).trans (.hid y.seen i _)) (z.h.free (j.h.free i)) (y.seen.free i) Yh (t.append o)⟩
  .cases d
 .cases d⟩
theorem uL(A:ZC X a fa)(J:Gl X "isinstance")(t:Gl X i)(b:X.mg "isinstance"=none)(u:X.mg i=none)(y:bootBuiltins i=some (.type T))(I:l7 T)(S:bootBuiltins "isinstance"=some (.builtin "isinstance"):=by decide +kernel)(o:i≠"__name__":=by decide)(q:(i==("__debug__":Str))=false:=by decide)(hs:starEach [a,.Name i j] X.env=(false,eval a X.env)::starEach [.Name i j] X.env:=by rfl)(B:starEach [.Name i j] X.env=(false,eval (.Name i j) X.env)::starEach [] X.env:=by rfl)(z:(backTo pos (starEach [.Name i j] X.env)).any (·.1)=false:=by rfl):ZE X (.Call (.Name "isinstance" p) [a,.Name i j] [] pos) (mB (b1 fa (bZ T))):=⟨have A:=A.un;
 PE.imp (nG (BS I) J b S (fT A (fT (yi t u y (v:=.ty T) rfl o q) gM B) hs) (by decide) (by decide) hs z) λc H Q n=>by
  obtain⟨f,d,U,Y,G,e,s,h⟩:=n;obtain⟨k,E,rfl⟩:=Bd e;obtain⟨x,O,m⟩:=eL E;unfold bZ at m
  split at m
  .cases m
   exact tCof.at O s λv F C R L W=>⟨v,x,C,rfl,by assumption,L,h _ F C R (by rw[Rp])⟩
  .cases m⟩
theorem Uw(i:Nat){x:Str}{ie:Expr}{p2 p3:Pos}(hb:ZC X ie fb)(he:ZE X e f)(hN:X.N[i]?=some x:=by rfl)(hv:fS X.env.scope x:=by trivial)(hd:da x:=by decide)(hcd:gK x:=by decide)(ha:∀v,assign (.Subscript (.Name x p2) ie p3) X.env v=(do
 let ov <-holding [v] (eval (.Name x p2) X.env)
 let iv <-holding [v,ov] (eval ie X.env)
 standAt p3
 holding [v,ov,iv] (setItem ov iv v)
 release [v,ov,iv] []):=by intro _;rfl)(hs:swapsWithSole [.Subscript (.Name x p2) ie p3] e pos.line X.env=pure false:=by rfl)(hw:swappedStores [.Subscript (.Name x p2) ie p3] e X.env=pure none:=by rfl)(h1:(assignEach [.Subscript (.Name x p2) ie p3] X.env).map (·.2)=[assign (.Subscript (.Name x p2) ie p3) X.env]:=by rfl):ZS X (.Assign [.Subscript (.Name x p2) ie p3] e pos) (j_ i fb f ik):=⟨have hb:=hb.un;have he:=he.un;
 PS.imp (yS he (yR (g_ hN hv hd hcd) hb Ah ha) hs hw h1) λF σ H hx_=>by
  obtain⟨ρ,out,H0,G0,G,e,s,h⟩:=hx_;unfold j_ at e;obtain⟨d,h1,e⟩:=qa e;obtain⟨l,h2,e⟩:=qa e;obtain⟨k,h3,e⟩:=qa e;obtain⟨l',h4,rfl⟩:=qc e;unfold ik at h4;obtain⟨n,h5,h4⟩:=qa h4;obtain⟨j,h6,rfl⟩:=qc h4;refine tOf.at h1 s λv H1 G1 g1 r1 s1=>?_;obtain⟨a,xs,ha,hH,hr,hG⟩:=t7 s1 h2;refine⟨_,ha,tCof.at h3 s1 λu H2 G2 g2 r2 s2=>?_⟩;cases k<;>simp[eh]at h5;subst h5;rw[Ct]at r2;subst r2;refine⟨a,xs,_,j,rfl,rfl,g2.h _ _ hH,by rw[hr.length];exact h6,?_⟩
  exact h σ _ G2 (s2.mut (n4 h2) ha ((hr.mono g2.g).set j (r1.mono g2.g)))⟩
theorem Ux(W:Gl X "enumerate")(D:X.mg "enumerate"=none)(L:ZE X l f)(hs:aad X l:=by rfl):ZI X (.Tuple elts x1 pt) (.Call (.Name "enumerate" p) [l] [] pos) (b1 f gn):=⟨have L:=L.un;
 PI.imp (B6 W D (MY L og hs) hs) λσ H R F=>by
  obtain⟨V,ds,H0,G0,G,e,s,h⟩:=F;obtain⟨c,Y,K⟩:=eL e;obtain⟨l,N,rfl⟩:=qc K;refine tAof.at (show Yb f _ V=some [c] by simp[Yb,ae,Y]) s λvs C B J Z I=>?_;obtain⟨v,rfl,E⟩:=l6 Z;rcases ic N with rfl|rfl|⟨T,rfl,rfl⟩
  .obtain⟨p,r,rfl,g,j⟩:=E
   refine⟨p,r,rfl,.inr ⟨.inl (.inl (I.seen _ _ g)),λo=>h _ C B J ⟨by rw[l9,<-j.length];exact o,λi U O b a=>⟨λd A=>?_,λt=>⟨r,.inl (.inl (a _ _ (b _ _ g))),by rw[j.length,<-l9 l];exact t⟩⟩⟩⟩⟩;obtain⟨w,k,rfl⟩:=B7 A;obtain⟨x,m,u⟩:=j.get k;refine⟨⟨r,x,.inl (.inl (a _ _ (b _ _ g))),m⟩,λy Q q=>?_⟩;obtain⟨M,S,z,n,rfl,rfl⟩:=q;have:=z r (.inl (.inl (a _ _ (b _ _ g))));rw[m]at this;cases this;exact Gr.newTup a n i (u.mono b)
  .obtain⟨p,r,rfl,g,j⟩:=E
   refine⟨p,r,rfl,.inl ⟨.inl (d3 I.seen g),λo=>h _ C B J ⟨by rw[l9,<-j.length];exact o,λi U O b a=>⟨λd A=>?_,λt=>⟨r,.inl (d3 a (d3 b g)),by rw[j.length,<-l9 l];exact t⟩⟩⟩⟩⟩;obtain⟨w,k,rfl⟩:=B7 A;obtain⟨x,m,u⟩:=j.get k;refine⟨⟨r,x,.inl (d3 a (d3 b g)),m⟩,λy Q q=>?_⟩;obtain⟨M,S,z,n,rfl,rfl⟩:=q;have:=z r (.inl (d3 a (d3 b g)));rw[m]at this;cases this;exact Gr.newTup a n i (u.mono b)
  .obtain⟨p,rfl,g⟩:=E
   have j:RpL X.K B _ _:=.ints T;refine⟨p,_,rfl,.inl ⟨I.seen.seq g,λo=>h _ C B J ⟨by rw[l9,<-j.length];exact o,λi U O b a=>⟨λd A=>?_,λt=>⟨_,a.seq (b.seq g),by rw[j.length,<-l9];exact t⟩⟩⟩⟩⟩;obtain⟨w,k,rfl⟩:=B7 A;obtain⟨x,m,u⟩:=j.get k;refine⟨⟨_,x,a.seq (b.seq g),m⟩,λy Q q=>?_⟩;obtain⟨M,S,z,n,rfl,rfl⟩:=q;have:=z _ (a.seq (b.seq g));rw[m]at this;cases this
   exact Gr.newTup a n i (u.mono b)⟩
theorem Uy(u:X.calm=true)(w:Gl X "tuple")(l:X.mg "tuple"=none)(b:Gl X "reversed")(j:X.mg "reversed"=none)(i:ZC X e f)(hs:aad X e:=by rfl)(z:starEach [.Call (.Name "reversed" p2) [e] [] pos2] X.env=[(false,eval (.Call (.Name "reversed" p2) [e] [] pos2) X.env)]:=by rfl):ZE X (.Call (.Name "tuple" p) [.Call (.Name "reversed" p2) [e] [] pos2] [] pos) (λρ=>(kg f ρ).map D.tup):=⟨have i:=i.un;
 PE.imp (Tt u w l b j (i9 i i8 hs) hs z) λJ H Q c=>by
  obtain⟨ρ,I,M,O,G,e,s,h⟩:=c;obtain⟨N,y,rfl⟩:=qc e;obtain⟨F,t,rfl⟩:=qc y;obtain⟨d,A,x⟩:=eL t;refine tCAof.at (show Yb f _ ρ=some [d] by simp[Yb,ae,A]) s λL K E C o k=>?_;obtain⟨v,rfl,n⟩:=fq o;obtain⟨q,r,rfl,g,B⟩:=SM x n
  exact⟨q,r,rfl,g,λm a=>h _ _ _ (C.trans (.new k.seen a _)) (⟨m,_,rfl,Yh,B.reverse.mono (Gr.new k.seen a _).g⟩)⟩⟩
theorem Uz(i:Nat){p2 apos cpos:Pos}(hb:ZE X ie fb)(he:ZE X e f)(hN:X.N[i]?=some x:=by rfl)(hv:fS X.env.scope x:=by trivial)(hd:da x:=by decide)(hcd:gK x:=by decide)(hse:swapsWith (.Call (.Attribute (.Name x p2) "insert" apos) [ie,e] [] cpos) none pos.line X.env=pure false:=by rfl)(hs:starEach [ie,e] X.env=(false,eval ie X.env)::starEach [e] X.env:=by rfl)(hs2:aad X e:=by rfl)(hfew:pa X cpos [ie,e]:=by rfl)(hline:(apos.endLine==cpos.line)=true:=by rfl)(hbase:attributeBase (.Name x p2) "insert" X.env (eval (.Name x p2) X.env)=eval (.Name x p2) X.env:=by rfl)(hpl:(backTo cpos (starEach [e] X.env)).any (·.1)=false:=by rfl):ZS X (.Expr (.Call (.Attribute (.Name x p2) "insert" apos) [ie,e] [] cpos) pos) (j_ i fb f gq):=⟨have hb:=hb.un;have he:=he.un;
 PS.imp (tG (nQ PySem.F.plainAttrs_list PySem.F.slot_list_insert PySem.F.type_list_insert Tu (g_ hN hv hd hcd) (fT hb (fT he gM hs2) hs) hbase hfew hline hs hpl) hse) λF σ H hx_=>by
  obtain⟨ρ,out,H0,G0,G,e,s,h⟩:=hx_;unfold j_ at e;obtain⟨d,h1,e⟩:=qa e;obtain⟨l,h2,e⟩:=qa e;obtain⟨k,h3,e⟩:=qa e;obtain⟨l',h4,rfl⟩:=qc e;unfold gq at h4;obtain⟨n,h5,h4⟩:=qa h4
  split at h4
  .rename_i hc
   cases h4;simp only[Qe,wm]at hc;obtain⟨⟨hc1,hc2⟩,hc3⟩:=hc;obtain⟨a,xs,ha,hH,hr,hG⟩:=t7 s h2;refine⟨_,ha,.inl ⟨rfl,xs,SqL.of hH⟩,tOf.at h3 s λu H1 G1 g1 r1 s1=>tOf.at h1 s1 λv H2 G2 g2 r2 s2=>?_⟩;cases k<;>simp[eh]at h5;subst h5;rw[Rp]at r1;subst r1;have hr2:=(hr.mono g1.g).mono g2.g;refine⟨a,xs,_,v,rfl,rfl,g2.h _ _ (g1.h _ _ hH),hc1,by rw[hr.length];exact hc2,?_,h σ _ G2 (s2.mut (n4 h2) ha ((hr2.take _).append (.cons r2 (hr2.drop _))))⟩;rw[hr.length];exact Qi hc3 (gj (qv _))
  .cases h4⟩
theorem UA(i:Nat){t k j:Pos}(z:ZE X e f)(r:X.N[i]?=some x:=by rfl)(U:fS X.env.scope x:=by trivial)(W:da x:=by decide)(A:gK x:=by decide)(u:swapsWith (.Call (.Attribute (.Name x t) "extend" k) [e] [] j) none pos.line X.env=pure false:=by rfl)(hs:aad X e:=by rfl)(q:pa X j [e]:=by rfl)(n:(k.endLine==j.line)=true:=by rfl)(m:attributeBase (.Name x t) "extend" X.env (eval (.Name x t) X.env)=eval (.Name x t) X.env:=by rfl):ZS X (.Expr (.Call (.Attribute (.Name x t) "extend" k) [e] [] j) pos) (cM i f gu):=⟨have z:=z.un;
 PS.imp (tG (nQ PySem.F.plainAttrs_list PySem.F.slot_list_extend PySem.F.type_list_extend Ce (g_ r U W A) (fT z gM hs) m q n hs rfl) u) λF p H y=>by
  obtain⟨V,w,T,D,G,e,s,h⟩:=y;obtain⟨l,C,e⟩:=qa e;obtain⟨d,Q,e⟩:=qa e;obtain⟨N,o,rfl⟩:=qc e;unfold gu at o
  split at o
  .split at o
   .rename_i Y
    cases o;obtain⟨a,g,L,B,I,K⟩:=t7 s C;refine⟨_,L,.inl ⟨rfl,g,.of B⟩,tOf.at Q s λv H1 S M R J=>?_⟩;obtain⟨b,Z,rfl,O,E⟩:=R;refine⟨a,b,g,Z,rfl,rfl,M.h _ _ B,d3 J.seen O,?_,h p _ S (J.mut (n4 C) L ((I.mono M.g).append E))⟩;rw[I.length,E.length];exact gj Y
   .cases o
  .cases o⟩
theorem UB(g:GD X.K X.w X.mg x j)(J:Gl X x)(z:ZC X ke fk)(hs:nJ ke:=by intro _ _;rfl)(Y:da x:=by decide):ZE X (.Subscript (.Name x px) ke pos) (b1 fk (il j)):=⟨have z:=z.un;by
 obtain⟨p,o,c,M,K,L,A,n,i⟩:=g;intro b s T H Q I ⟨ρ,d,H0,V,G,e,D,h⟩;obtain⟨dk,W,l⟩:=eL e;refine zN PySem.F.slot_dict_getitem.lookup hs (LR I J K (aM (z _ s T H (λR f=>∃k r,R=.str k/\j.lookup k=some r/\Q (.str r) f) I (tCof.at W D λv U O N F s1=>?_)) λiv s2 S=>?_) Y)
 .unfold il at l
  split at l
  .rename_i k
   obtain⟨r,m,rfl⟩:=qc l;exact⟨k,r,F.1,m,h _ U O N (⟨rfl,oB i m⟩)⟩
  .cases l
 .obtain⟨y,Z,C,E,k,r,rfl,m,q⟩:=S
  obtain⟨t,rfl⟩:=E;have B:=C.kIn p o L;obtain⟨e',w,f1,f2⟩:=Nk (P:=X.prog) i m;refine⟨⟨o,B,A.1⟩,wpAny_getItem_of (knd:=PySem.strKind _ X.w) (k:=k) (by simp[PySem.strKind,Value.isStrOf]) ⟨o,c,M,B,A,n,?_,λ_=>rfl⟩ ?_ ⟨.str r,Z,C.tok _,⟨w,rfl⟩,q⟩⟩
  .intro u he
   exact Nl i u ⋯
  .show(c.find? _).map _=_
   ext⟩
def EF(e:X.A.units+64<cLine)(c:ZC X a fa)(d:ZC X b fb)(hs:nM b:=by intro _ _;rfl):ZE X (.Subscript a b pos) (b2 fa fb bU):=⟨have c:=c.un;have d:=d.un;j4 (Cj e) Co c d hs⟩
def EG(e:X.A.units+64<cLine)(c:ZC X a fa)(d:ZC X b fb)(f:behindInMarks .In b=false:=by with_unfolding_all rfl):ZE X (.Compare a [.In] [b] pos) (mB (b2 fa fb (c8 false))):=⟨have c:=c.un;have d:=d.un;gO (oH e) Cp c d f⟩
def EH(e:X.A.units+64<cLine)(c:ZC X a fa)(d:ZC X b fb)(f:behindInMarks .In b=false:=by with_unfolding_all rfl):ZT X (.Compare a [.In] [b] pos) (b2 fa fb (c8 false)):=⟨have c:=c.un;have d:=d.un;fD (oH e) Cp c d f⟩
def EI(e:X.A.units+64<cLine)(c:ZC X a fa)(d:ZC X b fb)(f:behindInMarks .NotIn b=false:=by with_unfolding_all rfl):ZT X (.Compare a [.NotIn] [b] pos) (b2 fa fb (c8 true)):=⟨have c:=c.un;have d:=d.un;fD (Tv e) Cp c d f⟩
theorem EJ(hu:X.A.units+64<cLine)(i:Nat){p2 m:Pos}(E:ZC X ie fb)(L:ZE X e f)(hN:X.N[i]?=some x:=by rfl)(hv:fS X.env.scope x:=by trivial)(hd:da x:=by decide)(N:gK x:=by decide)(A:∀v,assign (.Subscript (.Name x p2) ie m) X.env v=(do
 let w <-holding [v] (eval (.Name x p2) X.env)
 let B <-holding [v,w] (eval ie X.env)
 standAt m
 holding [v,w,B] (setItem w B v)
 release [v,w,B] []):=by intro _;rfl)(hs:swapsWithSole [.Subscript (.Name x p2) ie m] e pos.line X.env=pure false:=by rfl)(S:swappedStores [.Subscript (.Name x p2) ie m] e X.env=pure none:=by rfl)(M:(assignEach [.Subscript (.Name x p2) ie m] X.env).map (·.2)=[assign (.Subscript (.Name x p2) ie m) X.env]:=by rfl):ZS X (.Assign [.Subscript (.Name x p2) ie m] e pos) (iq i fb f):=⟨have E:=E.un;have L:=L.un;
 PS.imp (yS L (yR (g_ hN hv hd N) E (Cn hu) A) hs S M) λF σ H I=>by
  obtain⟨ρ,out,H0,G0,G,e,s,h⟩:=I;obtain⟨d,M,e⟩:=qa e;obtain⟨l,h2,e⟩:=qa e;obtain⟨k,Z,e⟩:=qa e;obtain⟨l',c,rfl⟩:=qc e;obtain⟨kn,h5,c⟩:=qa c;obtain⟨z,O,c⟩:=qa c
  split at c
  case isFalse=>cases c
  rename_i t;have j:=Tx h2;refine tOf.at M s λv H1 G1 g1 r1 Q=>?_;obtain⟨a0,_,_,o,_⟩:=Q.od i _ _ _ j;refine⟨_,o,tCof.at Z Q λu H2 U g2 R D=>?_⟩;obtain⟨a,kxs,vxs,A,hG,hH0,Y,C,J⟩:=D.od i _ _ _ j;rw[o]at A;cases A;obtain⟨g,q,rfl,hk⟩:=kl D.seen Y;obtain⟨b,T,rfl,b1,b2',n⟩:=oD O R;have e:=t9 h5 C hk
  have K:vxs.length<aA:=by rw[J.length];exact t
  refine⟨a0,b,g,vxs,T,z,rfl,rfl,q,b1,n,K,λep=>?_⟩;have r:=r1.mono g2.g;injection c with c;subst e;refine h _ _ U (D.mutd j o (kxs:=(cV g vxs z b v).1.map (λp=>V.ref p.2)) (vxs:=(cV g vxs z b v).2) ?_ ?_ ?_)
  .refine .inr ⟨rfl,(cV g vxs z b v).1,ep,Yh,?_,?_,rfl,?_⟩
   .unfold cV
    split
    .rw[oA];exact q.len
    .simp[q.len]
   .unfold cV
    split
    .exact q.nd
    .rw[wt,List.nodup_append]
     refine⟨q.nd,by simp,λx hx y hy z'=>?_⟩;grind
   .unfold cV
    grind
  .rw[<-c]
   unfold cV
   split
   .exact C
   .rw[wt]
    refine RpL.snoc ?_ C
    cases k with
    | tup l=>
      rw[Ct]at R;rw[Rp]
      ext
    | _=>cases O
  .rw[<-c]
   unfold cV
   split
   .exact t8 z r J
   .exact RpL.snoc r J⟩
theorem EL(O:X.A.units+64<cLine)(i:Nat){pos' dpos:Pos}(U:X.N.Nodup)(l:ZE X ke fk)(g:ZE X ve C)(K:X.N[i]?=some x:=by rfl)(L:dX X.env.scope x:=by trivial)(hs:swapsWith (.Dict [some ke] [ve] dpos) (some (.Name x pos')) pos.line X.env=pure false:=by rfl)(B:aae X x:=by trivial):ZS X (.Assign [.Name x pos'] (.Dict [some ke] [ve] dpos) pos) (ko i fk C):=⟨have l:=l.un;have g:=g.un;
 PS.imp (lS U K L (Cv O (zT l g zS)) hs B) λF V H j=>by
  obtain⟨ρ,Q,H0,G0,G,e,s,h⟩:=j;obtain⟨k,J,e⟩:=qa e;obtain⟨v,N,e⟩:=qa e;obtain⟨n,M,rfl⟩:=qc e;intro p E f;have r:Gr H G (upd H p (d_ p [] [] E)) G:=.hid s.seen f _;refine tOf.at J (s.grow r) λY Z G1 m y A=>tOf.at N A λu R t c z s2=>?_;have o:=A8 (m.trans c) Yh (s.seen.free f);have d:=y.mono c.g;obtain⟨b,D,rfl,b1,S,I⟩:=oD M (.of c.s d);refine⟨(m.trans c).h _ _ Yh,b,D,n,u,rfl,b1,I,λa=>?_⟩;have T:Gr H G (upd R p (d_ p [(n,b)] [u] a)) t:=(r.trans (m.trans c)).updHid f o _;refine h _ _ t (s.set_od i T f o (.inr ⟨rfl,[(n,b)],a,Yh,rfl,by simp,rfl,λq hq=>?_⟩) (.cons d .nil) (.cons z .nil))
  ext⟩
end
section
variable {a b c e:Expr}{fb fc:AU}
theorem UC(N:bX X (compareOp E) r)(J:eM X.K r g)(A:bX X (compareOp i) T)(p:eM X.K T g')(t:ZC X a fa)(l:ZC X b fb)(q:ZC X c fc)(R:lastMarks [E,i] [b,c]=false:=by with_unfolding_all rfl):ZE X (.Compare a [E,i] [b,c] pos) (mB (uA fa fb fc g g')):=⟨have t:=t.un;have l:=l.un;have q:=q.un;
 PE.imp (zr N A t l q R) λσ H Q h=>by
  obtain⟨ρ,d,H0,G0,G,e,s,h⟩:=h;obtain⟨k,U,rfl⟩:=Bd e;obtain⟨x,y,M,Z,f⟩:=Cw U;refine tCof.at M s λv H1 G1 K F L=>tCof.at Z L λu B m j n o=>?_;rcases f with⟨f,rfl⟩|⟨f,z,S,O⟩
  .exact J v u x y _ B m _ f o.seen (F.grow j) n ⟨false,rfl,h _ B m (K.trans j) (by rw[Rp])⟩
  .exact J v u x y _ B m _ f o.seen (F.grow j) n ⟨true,rfl,tCof.at S o λw D I C r3 Y=>p u w y z k D I _ O Y.seen (n.grow C) r3 (h _ D I ((K.trans j).trans C) (by rw[Rp]))⟩⟩
end
section
variable {e a b:Expr}{f fb:AU}{fc:AT}
def EM(b:AE)(h:ZE X e f):ZE X e (oK b f):=⟨have h:=h.un;PE.imp h λp H Q a=>by
 obtain⟨l,d,i,n,G,e,s,h⟩:=a;obtain⟨q,o,e⟩:=qa e;unfold M.scal at e
 split at e
 .rename_i k
  cases e;obtain⟨m,j⟩:=SR.frz b s;exact⟨frz b l,_,i,n,m,o,j,λv c t g r=>h v c G (.back s.seen g) (r.scal k)⟩
 .cases e⟩
theorem UD(c:AE)(h:ZE X e f):ZE X e (gT c f):=⟨have h:=h.un;PE.imp h λC H Q t=>by
 obtain⟨y,d,n,l,G,e,s,h⟩:=t;unfold gT at e;obtain⟨D,p,e⟩:=qa e
 split at e
 case isFalse=>cases e
 rename_i x;cases e;obtain⟨i,m,w⟩:=SR.frzT c s;refine⟨frz c y,_,n,l,i,p,m,λv u j g r=>?_⟩;refine h v u (λa=>if H a=none then j a else G a) ⟨g.h,λa o e=>?_,λa o e=>?_,λa h A=>?_⟩ (r.plain (λb k e=>?_) x)
 .have B:H a≠none:=λz=>by rw[s.seen _ _ e]at z;cases z
  grind
 .by_cases z:H a=none
  .rw[if_pos z]at e;exact g.s _ _ e
  .rw[if_neg z]at e;exact g.h _ _ (s.seen _ _ e)
 .grind
 .show(if H b=none then j b else G b)=some (HO.tup k)
  by_cases z:H b=none
  .grind
  .rw[if_neg z]
   refine w b k ?_
   cases q:i b with
   | none=>exact absurd (g.n b q (by grind)) z
   | some o=>
     have:=g.g _ _ q
     grind⟩
def EN(is:AE)(h:ZT X e fc):ZT X e (ir is fc):=⟨have h:=h.un;PT.imp h λσ H Q hx_=>by
 obtain⟨ρ,d,H0,G0,G,e,s,h⟩:=hx_;obtain⟨G',s'⟩:=SR.frz is s
 exact⟨frz is ρ,d,H0,G0,G',e,s',λH1 G1 g=>h H1 G (.back s.seen g)⟩⟩
def EO(g:X.A.units+64<cLine)(d:ZC X a fa)(c:ZC X b fb)(hs:nM b:=by intro _ _;rfl):ZE X (.Subscript a b pos) (b2 fa fb cN):=⟨have d:=d.un;have c:=c.un;j4 (CD g) CA d c hs⟩
def ER(e:X.A.units+64<cLine)(c:ZC X a fa)(d:ZC X b fb)(f:behindInMarks .In b=false:=by with_unfolding_all rfl):ZE X (.Compare a [.In] [b] pos) (mB (b2 fa fb (dD false))):=⟨have c:=c.un;have d:=d.un;gO (oS e) CB c d f⟩
def ES(e:X.A.units+64<cLine)(c:ZC X a fa)(d:ZC X b fb)(f:behindInMarks .NotIn b=false:=by with_unfolding_all rfl):ZT X (.Compare a [.NotIn] [b] pos) (b2 fa fb (dD true)):=⟨have c:=c.un;have d:=d.un;fD (Nm e) CB c d f⟩
theorem ET(i:Nat){b a:Pos}(k:X.N.Nodup)(l:X.N[i]?=some x:=by rfl)(f:dX X.env.scope x:=by trivial)(hs:swapsWith (.Dict [] [] a) (some (.Name x b)) pos.line X.env=pure false:=by rfl)(g:aae X x:=by trivial):ZS X (.Assign [.Name x b] (.Dict [] [] a) pos) (ma i):=⟨
 PS.imp (lS k l f zQ hs g) λF o H d=>by
  obtain⟨m,j,n,q,G,e,s,h⟩:=d;cases e;intro p c
  exact h _ _ G (s.set_od i (.hid s.seen c _) c (s.seen.free c) (kxs:=[]) (oQ (ns:=[]) Yh .nil rfl) .nil .nil)⟩
theorem EU(hu:X.A.units+64<cLine)(i:Nat){g o:Pos}(E:ZC X m fb)(J:ZE X e f)(hN:X.N[i]?=some x:=by rfl)(hv:fS X.env.scope x:=by trivial)(hd:da x:=by decide)(K:gK x:=by decide)(w:∀v,assign (.Subscript (.Name x g) m o) X.env v=(do
 let z <-holding [v] (eval (.Name x g) X.env)
 let D <-holding [v,z] (eval m X.env)
 standAt o
 holding [v,z,D] (setItem z D v)
 release [v,z,D] []):=by intro _;rfl)(hs:swapsWithSole [.Subscript (.Name x g) m o] e pos.line X.env=pure false:=by rfl)(T:swappedStores [.Subscript (.Name x g) m o] e X.env=pure none:=by rfl)(B:(assignEach [.Subscript (.Name x g) m o] X.env).map (·.2)=[assign (.Subscript (.Name x g) m o) X.env]:=by rfl):ZS X (.Assign [.Subscript (.Name x g) m o] e pos) (oT i fb f):=⟨have E:=E.un;have J:=J.un;
 PS.imp (yS J (yR (g_ hN hv hd K) E (CG hu) w) hs T B) λF σ H C=>by
  obtain⟨ρ,O,H0,G0,G,e,s,h⟩:=C;obtain⟨d,B,e⟩:=qa e;obtain⟨l,h2,e⟩:=qa e;obtain⟨k,h3,e⟩:=qa e;obtain⟨l',b,rfl⟩:=qc e;obtain⟨ns,R,b⟩:=qa b
  obtain⟨j,rfl⟩:∃j,k=.int j:=by
   symm
  dsimp only at b
  split at b
  case isFalse=>cases b
  rename_i p;have c:=Nn h2;refine tOf.at B s λv H1 G1 g1 r1 L=>?_;obtain⟨Y,_,_,n,_⟩:=L.od i _ _ _ c;refine⟨_,n,tCof.at h3 L λu H2 G2 N r2 M=>?_⟩;obtain⟨a,S,t,w,hG,Z,dc,y,A⟩:=M.od i _ _ _ c;rw[n]at w;cases w;obtain⟨Q,e2,r,V⟩:=gU R dc y;subst r2
  have U:t.length<aA:=by rw[A.length];exact p
  have I:(zK ns t).length<sizeLine:=by
   rw[Cy _ _ r,r,jf];have:aA=1000000:=rfl;ac_nf
  refine⟨Y,_,rfl,DPut.k (k:=Sum.inl j) Q I,?_⟩;have q:=r1.mono N.g;injection b with b;rw[oP r e2];refine h _ _ G2 (M.mutd c n (oQ Yh ?_ ?_) ?_ ?_)
  .unfold dC
   symm
  .unfold dC
   split
   .rw[oA];exact r
   .simp[r]
  .rw[<-b]
   unfold dC;rw[V]at y
   split
   .exact y
   .rw[wt]
    exact .snoc (by rw[Rp]) y
  .rw[<-b]
   unfold dC
   split
   .exact t8 j q A
   .exact .snoc q A⟩
theorem UE(hu:X.A.units+64<cLine)(t:ZC X o fa)(B:ZC X e1 fb)(g:ZE X e2 fz)(m:M2 X o "get" n e1 e2 j):ZE X (.Call (.Attribute o "get" n) [e1,e2] [] j) (b3 fa fb fz ji):=⟨have t:=t.un;have B:=B.un;have g:=g.un;
 PE.imp (zX ∅ t B g m) λσ H Q p=>by
  obtain⟨ρ,d,H0,K,G,e,s,h⟩:=p;obtain⟨x,M,e⟩:=qa e;obtain⟨y,Y,e⟩:=qa e;obtain⟨z,T,e⟩:=qa e;obtain⟨ks,f,i,b,rfl,rfl,J,rfl⟩:=TH e;refine tCof.at M s λv H1 G1 V I L=>?_;have q:=I;obtain⟨a,c,D,rfl,O,N,rv⟩:=q;refine⟨a,rfl,.inl ⟨_,.inl (gU J O N).1⟩,tCof.at Y L λu H2 G2 E R P=>tOf.at T P λw W U F Z s3=>?_⟩;subst R;obtain⟨a',C,l,S,r,A,k⟩:=I.grow (E.trans F);cases S;obtain⟨e1,e2,e3,e4⟩:=gU J r A;refine⟨Yn b l i,?_,h _ W U ((V.trans E).trans F) ?_⟩
  .have:=DGet.k (k:=.inl i) e1
   rwa [uB]at this
  .cases g:Yn b f i with
   | none=>
     rwa [(oz i k).2 g]
   | some d=>
     obtain⟨v,f1,f2⟩:=(oz i k).1 d g
     symm⟩
def EV(c:ZC X a fa)(d:ZC X b fb):ZE X (.BinOp a .RShift b pos) (b2 fa fb dQ):=⟨have c:=c.un;have d:=d.un;lY zk (t5 (λ_ _ h=>wq h)) c d⟩
def EW(ha:ZC X a fa)(hb:ZC X b fb):ZE X (.Compare a [.Is] [b] pos) (mB (b2 fa fb (oW false))):=⟨have ha:=ha.un;have hb:=hb.un;gO CL CN ha hb (fB _)⟩
theorem EX(y:X.calm=true)(i:Nat){c t b:Pos}(hN:X.N.Nodup)(U:Gl X "dict")(E:X.mg "dict"=none)(m:ZC X e f)(z:X.N[i]?=some x:=by rfl)(R:dX X.env.scope x:=by trivial)(j:aad X e:=by rfl)(n:(backTo b (starEach [] X.env)).any (·.1)=false:=by rfl)(hs:swapsWith (.Call (.Name "dict" t) [e] [] b) (some (.Name x c)) pos.line X.env=pure false:=by rfl)(K:aae X x:=by trivial):ZS X (.Assign [.Name x c] (.Call (.Name "dict" t) [e] [] b) pos) (fH i f):=⟨have m:=m.un;
 PS.imp (lS hN z R (i4 (Nw y) U E (by decide +kernel) (i9 m i8 j) (by decide) (by decide) j n) hs K) λF σ H q=>by
  obtain⟨Z,Y,H0,G0,G,e,s,h⟩:=q;obtain⟨ps,Q,e⟩:=qa e;obtain⟨d,T,u⟩:=qa Q
  split at e
  case isFalse=>cases e
  rename_i g;cases e;refine tCAof.at (show Yb f _ Z=some [d] by simp[Yb,ae,T]) s λvs H1 S g1 M k=>?_;obtain⟨v,rfl,L⟩:=fq M
  cases d with
  | lst l=>
    obtain⟨a,I,rfl,w,V⟩:=L;obtain⟨O,N,r⟩:=CU k.seen (u) V;refine⟨a,I,O,rfl,.inl w,N,by rw[r.length];exact g,λp o=>?_⟩;obtain⟨C,B,J,A,D⟩:=uE r List.nodup_nil rfl .nil;exact h _ _ S (k.set_od i (.hid k.seen o _) o (k.seen.free o) (oQ (by rw[<-B];exact Yh) J A) (.ints _) D)
  | _=>cases u⟩
def EY(e:X.A.units+64<cLine)(c:ZC X a fa)(d:ZC X b fb)(f:behindInMarks .In b=false:=by with_unfolding_all rfl):ZT X (.Compare a [.In] [b] pos) (b2 fa fb (cO false)):=⟨have c:=c.un;have d:=d.un;fD (CY e) NA c d f⟩
def EZ(g:X.A.units+64<cLine)(d:ZC X a fa)(c:ZC X b fb)(h:behindInMarks .NotIn b=false:=by with_unfolding_all rfl):ZT X (.Compare a [.NotIn] [b] pos) (b2 fa fb (cO true)):=⟨have d:=d.un;have c:=c.un;fD (CZ g) NA d c h⟩
def UF{lo u:Option Expr}(r:ZC X a fa)(m:ZO X lo fl)(t:ZO X u fh):ZE X (.Subscript a (.Slice lo u none O) pos) (jm fa fl fh):=⟨have r:=r.un;have m:=m.un;have t:=t.un;
 PE.imp (z3 (.or Aj (.or z_ C2)) r m t) λY H Q o=>by
  obtain⟨V,d,R,Z,G,e,s,h⟩:=o;obtain⟨M,A,e⟩:=qa e;obtain⟨i,J,e⟩:=qa e;obtain⟨j,C,e⟩:=qa e;refine tCof.at A s λv T S I B z=>oe J z λN U y K=>oe C K λE D x l=>?_;have w:=(B.grow y).grow x;have n:=(I.trans y).trans x;unfold ix at e
  split at e
  .cases e
   obtain⟨p,b,rfl,g,c⟩:=w;refine .inl ⟨p,b,rfl,.inl g,λq f=>h _ _ _ (n.trans (.new l.seen f _)) (⟨q,_,rfl,.inl Yh,?_⟩)⟩;unfold cL fC;rw[c.length];exact((c.drop _).take _).mono (Gr.new l.seen f _).g
  .cases e
   obtain⟨p,b,rfl,⟨g,F⟩,c⟩:=w;by_cases k:HT.sIx b.length 0 i=0/\HT.sIx b.length b.length j=b.length
   .refine .inr (.inr ⟨p,b,rfl,.of g,k.1,k.2,h _ E D n (⟨p,b,rfl,F,?_⟩)⟩)
    unfold cL
    rwa [<-c.length,k.1,k.2,List.drop_zero,Nat.sub_zero,c.length,List.take_length]
   .refine .inr (.inl ⟨p,b,rfl,.of g,k,λq f=>h _ _ _ (n.trans (.new l.seen f _)) (⟨q,_,rfl,Yh,?_⟩)⟩)
    unfold cL fC;rw[c.length];exact((c.drop _).take _).mono (Gr.new l.seen f _).g
  .cases e⟩
end
def E1(h:ZT X c f):gw X X.K [c] f:=⟨have h:=h.un;λb s d H Q I a=>wpAny_tests_one (h _ s d H Q I a)⟩
def E3(h:ZW X e f):ZT X e f:=⟨PW.pt h.un⟩
section
variable {e e2:Expr}{f:AU}{p:Pos}
theorem UG(A:X.calm=true)(V:Gl X "sorted")(E:X.mg "sorted"=none)(k:Gl X "set")(i:X.mg "set"=none)(t:ZC X e f)(hs:aad X e:=by rfl)(y:starEach [.Call (.Name "set" p2) [e] [] pos2] X.env=[(false,eval (.Call (.Name "set" p2) [e] [] pos2) X.env)]:=by rfl)(g:(backTo pos2 (starEach [] X.env)).any (·.1)=false:=by rfl)(a:(backTo pos (starEach [] X.env)).any (·.1)=false:=by rfl):ZF X (.Call (.Name "sorted" p) [.Call (.Name "set" p2) [e] [] pos2] [] pos) (uF f):=⟨have t:=t.un;
 PE.imp (nG (ND A) V E boot_sorted (fT (i4 (C8 A) k i boot_set (i9 t i8 hs) (by decide) (by decide) hs g) gM y) (by decide) (by decide) y a) λZ H Q b=>by
  obtain⟨D,l,S,T,G,e,s,h⟩:=b;obtain⟨R,I,e⟩:=qa e;obtain⟨d,N,P⟩:=eL I;refine tCAof.at (show Yb f _ D=some [d] by simp[Yb,ae,N]) s λY U O B L u=>?_;obtain⟨v,rfl,J⟩:=fq L;obtain⟨q,xs,rfl,F,K⟩:=oi P J;unfold ml at e
  split at e
  .rename_i M n
   split at e
   .rename_i z
    cases e;cases j8 n;cases j9 K;refine⟨q,M,rfl,F,z.1,λm w j C=>?_⟩;have c:=Gr.hid u.seen j (dE X.prog X.w m w);have x:=u.grow c;refine⟨m,w,rfl,Yh,by rw[C.length_eq];exact z.2,λr o=>?_⟩;rw[NF C];refine h r _ _ O ((B.trans c).trans (.hid x.seen o _)) ((B.trans c).h.free o) (x.seen.free o) Yh (.ints _)
   .cases e
  .cases e⟩
theorem UH(B:X.calm=true)(hg:Gl X "sorted")(hm:X.mg "sorted"=none)(o:Gl X "set")(t:X.mg "set"=none)(C:ZC X e f)(g:ZC X e2 f2)(hs:starEach [e] X.env=[(false,eval e X.env)]:=by rfl)(u:starEach [e2] X.env=[(false,eval e2 X.env)]:=by rfl)(W:starEach [.BinOp (.Call (.Name "set" p2) [e] [] pos2) .BitXor (.Call (.Name "set" p3) [e2] [] pos3) pos4] X.env=[(false,eval (.BinOp (.Call (.Name "set" p2) [e] [] pos2) .BitXor (.Call (.Name "set" p3) [e2] [] pos3) pos4) X.env)]:=by rfl)(N:(backTo pos2 (starEach [] X.env)).any (·.1)=false:=by rfl)(i:(backTo pos3 (starEach [] X.env)).any (·.1)=false:=by rfl)(j:(backTo pos (starEach [] X.env)).any (·.1)=false:=by rfl):ZF X (.Call (.Name "sorted" p) [.BinOp (.Call (.Name "set" p2) [e] [] pos2) .BitXor (.Call (.Name "set" p3) [e2] [] pos3) pos4] [] pos) (uK f f2):=⟨have C:=C.un;have g:=g.un;
 PE.imp (nG (ND B) hg hm boot_sorted (fT (hV op_xor (i4 (C8 B) o t boot_set (i9 C i8 hs) (by decide) (by decide) hs N) (i4 (C8 B) o t boot_set (i9 g i8 u) (by decide) (by decide) u i)) gM W) (by decide) (by decide) W j) λσ H Q T=>by
  obtain⟨ρ,l,H0,G0,G,e,s,h⟩:=T;obtain⟨l1,h1,e⟩:=qa e;obtain⟨l2,h2,e⟩:=qa e;obtain⟨d1,i1,j1⟩:=eL h1;obtain⟨d2,i2,j2⟩:=eL h2;obtain⟨a,ea,e⟩:=qa e;obtain⟨b,eb,e⟩:=qa e
  split at e
  case isFalse=>cases e
  rename_i hl;obtain⟨R,S,b3,b4,b5,b6⟩:=hl;cases e;cases j8 ea;cases j8 eb;refine tCAof.at (show Yb f ae ρ=some [d1] by simp[Yb,ae,i1]) s λvs H1 G1 g1 r1 U=>?_;obtain⟨v,rfl,rv⟩:=fq r1;obtain⟨q,xs,rfl,T,rl⟩:=oi j1 rv;cases j9 rl;refine⟨q,a,rfl,T,R,λm ns K hp=>?_⟩;have M:=Gr.hid U.seen K (dE X.prog X.w m ns);have s2:=U.grow M;refine tCAof.at (show Yb f2 ae ρ=some [d2] by simp[Yb,ae,i2]) s2 λvs2 H3 G3 D r3 Y=>?_;obtain⟨v2,rfl,A⟩:=fq r3;obtain⟨q2,xs2,rfl,E,I⟩:=oi j2 A;cases j9 I;refine⟨q2,b,rfl,E,S,λm2 ms n d=>?_⟩;have y:=Gr.hid Y.seen n (dE X.prog X.w m2 ms);have V:=Y.grow y;have O:=y.h _ _ (D.h _ _ Yh);refine⟨m,m2,ns,ms,rfl,rfl,O,Yh,λk hk=>?_,by rw[d.length_eq];exact b4,by rw[hp.length_eq];exact b3,λr Z hr L w=>?_⟩
  .have hk':k∈b:=by
    have:=d.mem_iff.mp hk;rw[eX]at this;grind
   ext
  have F:=Gr.hid V.seen hr (dE X.prog X.w r Z);have s5:=V.grow F
  have c:=(List.perm_ext_iff_of_nodup L (Dq a b)).mpr λx=>by
   rw[w,NL,hp.mem_iff,d.mem_iff,eX,eX];simp
  refine⟨r,Z,rfl,Yh,by rw[c.length_eq];exact b6,λz J=>?_⟩;rw[NF c]
  exact h z _ _ G3 (((((g1.trans M).trans D).trans y).trans F).trans (.hid s5.seen J _)) (((((g1.trans M).trans D).trans y).trans F).h.free J) (s5.seen.free J) Yh (.ints _)⟩
theorem E4(f:ZC X a F)(n:ZC X b fb):ZE X (.BinOp a .Add b pos) (b2 F fb o9):=⟨have f:=f.un;have n:=n.un;PE.imp (hV Dw f n) λS H Q g=>by
 obtain⟨T,l,L,U,G,e,s,h⟩:=g;obtain⟨V,O,J,I,c⟩:=n3 e;refine tCof.at J s λv N R j x w=>tCof.at I w λu M r d z t=>?_;unfold o9 at c
 split at c
 .split at c
  .rename_i y
   cases c;obtain⟨p,E,rfl,C,k⟩:=x.grow d;obtain⟨q,K,rfl,D,i⟩:=z;refine⟨p,q,E,K,rfl,rfl,.of C.1,.of D.1,by rw[k.length,i.length];exact gj y,λA=>?_,λ_ B=>?_,λ_ _ m o=>h _ _ _ ((j.trans d).trans (.new t.seen o _)) ?_⟩
   .subst A
    have:=List.eq_nil_of_length_eq_zero (by rw[<-k.length];rfl);refine h _ _ r (j.trans d) ?_;rw[Rp]
    ext
   .subst B
    have:=List.eq_nil_of_length_eq_zero (by rw[<-i.length];rfl);refine h _ _ r (j.trans d) ?_;rw[Rp]
    ext
   .exact⟨m,_,rfl,Yh,(k.append i).mono (Gr.new t.seen o _).g⟩
  .cases c
 .cases c⟩
end
def E5(K:W7)(j:Nat)(x:Option (Option V))(b a:Hp)(F:fA):i6->Prop
 | .nx d=>∀c e f,SR K b a c e f d->c[j]?=x->F.nx c e
 | .rt _=>False
 | .bk d=>∀c e f,SR K b a c e f d->c[j]?=x->F.bk c e
 | .ct d=>∀c e f,SR K b a c e f d->c[j]?=x->F.ct c e
def pb(K:W7)(j:Nat)(f:AR):TS:=λF d H=>∃e c b a G,f e=some c/\SR K b a d H G e/\E5 K j d[j]? b a F c
structure KS(j:Nat)(X:Cx)(st:Stmt)(f:AR):Prop where
 un:PS X st (pb X.K j f)
structure KB(j:Nat)(X:Cx)(sts:List Stmt)(f:AR):Prop where
 un:PSs X sts (pb X.K j f)
def E6(K:W7)(j r:Nat)(fb:AR):TS:=λF h H=>∃f c l d b a G,fb f=some (.nx c)/\c7 j c=some l/\ab r (frz [r] c)=some d/\SR K b a h H G f/\
 ∀v e g i,SR K b a e g i (frz [r] c)->e[j]?=h[j]?->Rp K i d v->F.rt v g
structure KR(j r:Nat)(X:Cx)(sts:List Stmt)(f:AR):Prop where
 un:PSs X sts (E6 X.K j r f)
def E7(K:W7)(c:AV)(fb:AR):TS:=λF i H=>∃g d l a b G,fb g=some (.nx d)/\c d=some l/\SR K a b i H G g/\
 ∀p h e f,Gr a b e f->a p=none->f p=none->e p=some (.lst h)->RpL K f l h->F.rt (.ref p) e
structure KL(gl:AV)(X:Cx)(sts:List Stmt)(f:AR):Prop where
 un:PSs X sts (E7 X.K gl f)
def kC{us:AC}(h:us.length=1):∃a,us=[a]:=List.length_eq_one_iff.mp h
theorem iA{us:AC}(h:us.length=2):∃c b,us=[c,b]:=by
 cases us with
 | nil=>cases h
 | cons a us=>
   obtain⟨d,rfl⟩:=kC (Nat.succ.inj h);grind
theorem kE{us:AC}(h:us.length=3):∃c b d,us=[c,b,d]:=by
 cases us with
 | nil=>cases h
 | cons a us=>
   obtain⟨e,b1,rfl⟩:=iA (Nat.succ.inj h);grind
theorem kF{us:AC}(h:us.length=4):∃c b e d,us=[c,b,e,d]:=by
 cases us with
 | nil=>cases h
 | cons a us=>
   obtain⟨f,b1,b2,rfl⟩:=kE (Nat.succ.inj h);grind
def kG{us:AC}(h:us.length=5):∃a0 a1 a2 a3 a4,us=[a0,a1,a2,a3,a4]:=by
 cases us with
 | nil=>cases h
 | cons a us=>
   obtain⟨b0,b1,b2,b3,rfl⟩:=kF (Nat.succ.inj h);exact⟨a,b0,b1,b2,b3,rfl⟩
theorem kH{us:AC}(h:us.length=6):∃e d g f b c,us=[e,d,g,f,b,c]:=by
 cases us with
 | nil=>cases h
 | cons a us=>
   obtain⟨j,b1,b2,b3,i,rfl⟩:=kG (Nat.succ.inj h);grind
theorem pd{us:AC}(h:us.length=7):∃c g i f b e d,us=[c,g,i,f,b,e,d]:=by
 cases us with
 | nil=>cases h
 | cons a us=>
   obtain⟨l,b1,b2,b3,k,j,rfl⟩:=kH (Nat.succ.inj h);grind
end M
namespace M
variable {prog:P7}{fp wr:List Addr}{K:W7}{X:Cx}{es rest ifs elts:AK}{fa fk fz f2:AU}{ga gl:AV}{pos pos' pt p2 pos2 px p3 pos3 pos4:Pos}{pins:AB}{fd:AT}{st:Stmt}{sts:List Stmt}{fs gs:AR}{tg elt iter ie ke f':Expr}{scope:Scope}{mg:AD}{base:Heap}{x1:Nat}{ta:TA}
open PySem L2
def nr{c:Sort _}{a b:c}(h:a=b):a=b:=h
section
variable {ρ:Ro}
@[simp] def E8(a fb:AU)(g:D->D->Option b):b2 a fb g ρ=(a ρ).bind λx=>(fb ρ).bind λy=>g x y:=nr rfl
@[simp] def NR(a:AU)(g:D->Option b):b1 a g ρ=(a ρ).bind g:=nr rfl
@[simp] def NS(d:D):kD d ρ=some d:=nr rfl
@[simp] def NT(f:AT):mB f ρ=(f ρ).map D.bl:=nr rfl
@[simp] def uM(f g:AT):bC f g ρ=(f ρ).bind λk=>if k=true then g ρ else some false:=nr rfl
@[simp] def E9(f g:AT):du f g ρ=(f ρ).bind λk=>if k=true then some true else g ρ:=nr rfl
@[simp] def uN(f:AT):bu f ρ=(f ρ).map (!·):=nr rfl
@[simp] def uO(f g:AU):bO f g ρ=((f ρ).bind gR).bind λk=>if k=true then g ρ else some (.bl false):=nr rfl
@[simp] def E_(f g:AU):ig f g ρ=((f ρ).bind gR).bind λk=>if k=true then some (.bl true)else g ρ:=nr rfl
@[simp] def uP(f:AU):ij f ρ=((f ρ).bind gR).map λk=>.bl (!k):=nr rfl
@[simp] def Fb(c:AT)(f g:AU):l4 c f g ρ=(c ρ).bind λk=>if k=true then f ρ else g ρ:=nr rfl
@[simp] def NU(f:AV):lF f ρ=(f ρ).map D.lst:=nr rfl
@[simp] def uQ:ae ρ=some []:=nr rfl
@[simp] def pe(f:AU)(g:AV):Yb f g ρ=(f ρ).bind λd=>(g ρ).map (d::·):=nr rfl
@[simp] def uR(f:AV):av f ρ=(f ρ).bind λl=>if l.length<=aA then some (.tup l)else none:=nr rfl
@[simp] def uS(f:AV):bJ f ρ=(f ρ).bind λl=>if l.length<=aA then some l else none:=nr rfl
@[simp] def NV(f:AV)(g:AN->Option D):cC f g ρ=(f ρ).bind g:=nr rfl
@[simp] def NW(f:AV)(g:AN->Option AN):cF f g ρ=(f ρ).bind g:=nr rfl
@[simp] def uT:eQ none ρ=some none:=nr rfl
@[simp] def uU(f:AU):eQ (some f) ρ=((f ρ).bind eh).map some:=nr rfl
@[simp] def uV:au ρ=some (.nx ρ):=nr rfl
@[simp] def Fc(i:Nat)(f:AU):ar i f ρ=(f ρ).map λd=>.nx (ρ.set i (↑d)):=nr rfl
@[simp] def uW(i:Nat)(f:AV):bc i f ρ=(f ρ).map λl=>.nx (ρ.set i (some (.ow l))):=nr rfl
@[simp] def NX(f:AU):ah f ρ=(f ρ).map .rt:=nr rfl
@[simp] def Fd(c:AT)(f g:AR):aP c f g ρ=(c ρ).bind λk=>if k=true then f ρ else g ρ:=nr rfl
@[simp] def Fe(i:Nat)(f:AU)(g:AN->D->Option AN):cM i f g ρ=(c7 i ρ).bind λl=>(f ρ).bind λd=>(g l d).map λa=>.nx (ρ.set i (some (.ow a))):=nr rfl
@[simp] def uX(a:AV)(gt:AS)(fb:AR):bf a gt fb ρ=(a ρ).bind λb=>forM gt fb b ρ:=nr rfl
@[simp] def pf(a:AV)(b:List AL)(gt:AS)(fc:AT)(fe:AU):Yv a b gt fc fe ρ=(a ρ).bind λc=>dB gt fc fe (ao b ρ) c:=nr rfl
@[simp] def kI(a:AE)(f:AR):wF a f ρ=f (frz a ρ):=nr rfl
@[simp] def Ff(i:Nat)(d:D):aj i d ρ=some (ρ.set i (↑d)):=nr rfl
noncomputable def kJ(g:AR):i6->Option i6
 | .nx a=>g a
 | o=>some o
@[simp] def mn(g:AR)(ρ':Ro):kJ g (.nx ρ')=g ρ':=nr rfl
@[simp] def pj(g:AR)(d:D):kJ g (.rt d)=some (.rt d):=nr rfl
@[simp] def iB(f g:AR):ag f g ρ=(f ρ).bind (kJ g):=nr rfl
noncomputable def endB:i6->Option D
 | .rt d=>some d
 | .nx _=>some .non
 | _=>none
@[simp] def uY(d:D):endB (.rt d)=some d:=nr rfl
def Ye(h:a.length=k):ak k n fb a=(fb (Yd n a)).bind endB:=by
 unfold ak;rw[if_pos h];rfl
@[simp] def pk(a:AE)(f:AU):oK a f ρ=(f (frz a ρ)).bind scal:=nr rfl
@[simp] def pq(is:AE)(f:AT):ir is f ρ=f (frz is ρ):=nr rfl
@[simp] def Fg(b fb fc:AU)(g a:D->D->Option Bool):uA b fb fc g a ρ=(b ρ).bind λx=>(fb ρ).bind λy=>(g x y).bind λk=>if k=true then (fc ρ).bind λz=>a y z else some false:=nr rfl
@[simp] def pv(i:Int):scal (.int i)=some (.int i):=nr rfl
@[simp] def pz:scal .non=some .non:=nr rfl
@[simp] def uZ:frz [] ρ=ρ:=nr rfl
@[simp] def pA(i:Nat)(a:AE):frz (i::a) ρ=frz a (frz1 i ρ):=nr rfl
end
@[simp] def Fh(C:Int->Int->Bool)(g:Int->Int->Int)(i j:Int):i2 C g (.int i) (.int j)=if C i j=true then some (.int (g i j))else none:=nr rfl
@[simp] def pB(i j:Int):ef (.int i) (.int j)=some (.int (i+j)):=nr rfl
@[simp] def pC(i j:Int):h_ (.int i) (.int j)=some (.int (i-j)):=nr rfl
def Fi(h:-(2^64)<i/\i<2^64):gi (.int i) (.int j)=some (.int (i*j)):=by
 simp only[gi,i2];rw[if_pos];simp only[Bool.or_eq_true,Qe,wm];exact .inl h
@[simp] theorem Fj(h:0<j)(a:j<1073741824):eO (.int i) (.int j)=some (.int (i/j)):=by
 simp only[eO,i2];rw[if_pos];simp [wm];exact⟨h,a⟩
@[simp] theorem NY(h:0<j):bF (.int i) (.int j)=some (.int (i%j)):=by
 simp only[bF,i2];rw[if_pos];simp [wm];exact h
@[simp] def u7(i j:Int):eP (.int i) (.int j)=some (decide (i<j)):=nr rfl
@[simp] def u9(i j:Int):MR (.int i) (.int j)=some (decide (i<=j)):=nr rfl
@[simp] def u_(i j:Int):gP (.int i) (.int j)=some (decide (j<i)):=nr rfl
@[simp] def Fl(b:Bool):gR (.bl b)=some b:=nr rfl
@[simp] def vc(b:Bool):aD (.bl b)=some b:=nr rfl
@[simp] def pD(l:AN):aD (.lst l)=some (!l.isEmpty):=nr rfl
@[simp] def pE(l:AN):aD (.tup l)=some (!l.isEmpty):=nr rfl
@[simp] def jq(l:AN):Yc (.tup l)=some l:=nr rfl
@[simp] def jr(l:AN):Yc (.lst l)=some l:=nr rfl
@[simp] def jt(ns:AF):Yc (.scr ns)=some (ns.map D.int):=nr rfl
@[simp] def pF(c:D):bw [c]=(Yc c).map λl=>.int l.length:=nr rfl
@[simp] def pG(c:D):cc [c]=(Yc c).map D.tup:=nr rfl
@[simp] def mq(c:D):eR [c]=Yc c:=nr rfl
@[simp] def Fm(c:D)(i:Int):ai c (.int i)=(Yc c).bind λl=>aY l i:=nr rfl
@[simp] def pH(i:Int):eh (.int i)=some i:=nr rfl
@[simp] def pI(i:Int):bD (.int i)=some (.int (-i)):=nr rfl
@[simp] theorem Fn(i j:Int):bp (.int i) (.int j)=(i==j):=by simp[bp,aG,PyData.eqv]
@[simp] theorem pJ(i j:Bool):bp (.bl i) (.bl j)=(i==j):=by simp[bp,aG,PyData.eqv]
@[simp] theorem NZ(i j:Str):bp (.str i) (.str j)=(i==j):=by simp[bp,aG,PyData.eqv]
@[simp] theorem Fo(l m:AN):bp (.tup l) (.tup m)=d9 l m:=by simp[bp,d9,aG,PyData.eqv]
@[simp] theorem vf(l m:AN):bp (.lst l) (.lst m)=d9 l m:=by simp[bp,d9,aG,PyData.eqv]
@[simp] theorem vg:d9 [] []=true:=by simp[d9,dt,PyData.eqvAll]
@[simp] theorem N0(a b:D)(l m:AN):d9 (a::l) (b::m)=(bp a b&&d9 l m):=by simp[d9,bp,dt,PyData.eqvAll]
@[simp] theorem Fp(b:D)(m:AN):d9 [] (b::m)=false:=by simp[d9,dt,PyData.eqvAll]
@[simp] theorem Ft(b:D)(m:AN):d9 (b::m) []=false:=by simp[d9,dt,PyData.eqvAll]
@[simp] theorem vh(i:Int):bB (.int i)=0:=by simp[bB]
@[simp] theorem Fu(i:Bool):bB (.bl i)=0:=by simp[bB]
@[simp] theorem vi(i:Str):bB (.str i)=0:=by simp[bB]
@[simp] theorem vj:bB .non=0:=by simp[bB]
@[simp] theorem vk(l:AN):bB (.tup l)=bG l+1:=by simp[bB]
@[simp] theorem vl(l:AN):bB (.lst l)=bG l+1:=by simp[bB]
@[simp] theorem pK:bG []=0:=by simp[bG]
@[simp] theorem mu(d:D)(l:AN):bG (d::l)=max (bB d) (bG l):=by simp[bG]
theorem fI(h:bB d<=60)(b:bB e<=60):az a d e=some (if a then !bp d e else bp d e):=by
 unfold az;grind
theorem vm(b:Yc c=some l)(h:bB d<=60)(e:bG l<=60):cb a d c=some (if a then !gQ d l else gQ d l):=by
 unfold cb
 ext
theorem vn{d:Type}(enc:d->D)(p:d->Bool)(f:d->D):∀(l:List d),(∀a∈l,∃c,gt (enc a) ρ=some c/\fc c=some (p a)/\(p a=true->fe c=some (f a)))->
 dB gt fc fe ρ (l.map enc)=some ((l.filter p).map f)
 | [],_=>rfl
 | a::l,h=>by
   obtain⟨c,e,i,g⟩:=h a qh;have j:=vn enc p f l λb k=>h b (qg _ k);rw[Qd,dB];grind
@[simp] theorem pL(a:b)(l:List b):aY (a::l) 0=some a:=by
 have:=lV (xs:=a::l) (j:=0) rfl;simpa using this
@[simp] theorem vo(a b:c)(l:List c):aY (a::b::l) 1=some b:=by
 have:=lV (xs:=a::b::l) (j:=1) rfl;simpa using this
def Fv{j:Nat}(a:i=(j:Int))(h:l[j]?=some v):aY l i=some v:=by
 subst a;exact lV h
theorem fJ{g:Type}(enc:g->D)(I:List g->Ro->Prop):∀(l c:List g) (ρ:Ro),I c ρ->
 (∀q a r ρ,c++l=q++a::r->I q ρ->∃f d,gt (enc a) ρ=some f/\fb f=some (.nx d)/\I (q++[a]) d)->∃ρ',M.forM gt fb (l.map enc) ρ=some (.nx ρ')/\I (c++l) ρ'
 | [],c,ρ,n,_=>⟨ρ,rfl,by ext⟩
 | a::l,c,ρ,n,m=>by
   obtain⟨f,d,o,p,j⟩:=m c a l ρ rfl n;obtain⟨ρ',h,k⟩:=fJ enc I l _ d j λq b r ρ e i=>m q b r ρ (by ext) i;refine⟨ρ',?_,by ext⟩
   rwa [Qd,M.forM,o,qd,p]
def N3{gt:AS}{fb:AR}{α:Type}(enc:α->D)(p:α->Bool)(d:D)(I:Ro->Prop):∀(l:List α) (ρ:Ro),I ρ->
 (∀a∈l,∀ρ,I ρ->∃ρ1,gt (enc a) ρ=some ρ1/\((p a=true/\∃ρ2,fb ρ1=some (.nx ρ2)/\I ρ2)\/(p a=false/\fb ρ1=some (.rt d))))->
 (l.all p=true/\∃ρ',M.forM gt fb (l.map enc) ρ=some (.nx ρ')/\I ρ')\/(l.all p=false/\M.forM gt fb (l.map enc) ρ=some (.rt d))
 | [],ρ,h0,_=>.inl ⟨rfl,ρ,rfl,h0⟩
 | a::l,ρ,h0,hs=>by
   obtain⟨ρ1,e1,h⟩:=hs a qh ρ h0;rw[Qd,M.forM,e1,qd,List.all_cons];rcases h with⟨hp,ρ2,e2,h2⟩|⟨hp,e2⟩
   .rw[e2,qd,hp,Bool.true_and]
    exact N3 enc p d I l ρ2 h2 λb hb=>hs b (qg _ hb)
   .rw[e2,qd,hp,Bool.false_and]
    exact .inr ⟨rfl,rfl⟩
def pM(a n:Int):di a n=(List.range (n-a).toNat).map λi=>D.int (a+(i:Nat)):=rfl
theorem Fw(h:-1000000<=n)(b:n<=1000000):cU [.int n]=some (di 0 n):=by
 have a:aA=1000000:=by decide
 simp only[cU];rw[if_pos];simp only[Qe]
 ext
theorem N4(h:-1000000<=n)(e:n<=1000000)(d:-1000000<=a)(c:a<=1000000):eS [.int a,.int n]=some (di a n):=by
 have b:aA=1000000:=by decide
 simp only[eS]
 ext
def kK{i:Nat}(h:i<l.length):aY l (i:Int)=some l[i]:=lV (qr h)
theorem gW(f:a->b)(l:List a)(i:Int):aY (l.map f) i=(aY l i).map f:=by
 unfold aY;rw[qf]
 cases dM _ i with
 | none=>rfl
 | some j=>
   ext
@[simp] theorem kL(x b:Nat):((x:Int)=(b:Int))↔x=b:=by ac_nf
@[simp] theorem vp(a:Bool)(i j:Int):az a (.int i) (.int j)=some (if a then !decide (i=j)else decide (i=j)):=by
 rfl
@[simp] theorem Fx(a:Bool)(i j:Bool):az a (.bl i) (.bl j)=some (if a then !(i==j)else i==j):=by
 rw[fI nofun nofun,pJ]
@[simp] theorem vq(a:Bool):cj a .non .non=some (if a then false else true):=by cases a<;>rfl
@[simp] theorem vt(a:Bool)(i:Int):cj a (.int i) .non=some (if a then true else false):=by cases a<;>rfl
@[simp] theorem vu(a:Bool)(l:AN):cj a (.tup l) .non=some (if a then true else false):=by cases a<;>rfl
@[simp] theorem Fy(a:Bool)(l:Bool):cj a (.bl l) .non=some (if a then true else false):=by cases a<;>rfl
@[simp] theorem fY{b:Type}(f:b->Bool):∀l:List b,bx (l.map λa=>.bl (f a))=some (l.map f)
 | []=>rfl
 | a::l=>by rw[Qd,bx,fY f l];rfl
@[simp] theorem pN{b:Type}(f:b->Int):∀l:List b,intsD (l.map λa=>.int (f a))=some (l.map f)
 | []=>rfl
 | a::l=>by rw[Qd,intsD,pN f l];rfl
@[simp] theorem mv(l:AF):intsD (l.map D.int)=some l:=by simpa using pN id l
@[simp] def pO(l:AN):eV [.lst l]=(bx l).map λa=>.bl (a.any id):=nr rfl
@[simp] def pP(l:AN):cm [.lst l]=(bx l).map λa=>.bl (a.all id):=nr rfl
@[simp] def pQ(i:Nat)(fi f:AU)(g:AN->D->D->Option AN):j_ i fi f g ρ=(f ρ).bind λd=>(c7 i ρ).bind λl=>(fi ρ).bind λk=>(g l k d).map λl'=>.nx (ρ.set i (some (.ow l'))):=nr rfl
@[simp] def vv(i:Nat)(f:AU):j7 i f ρ=(ab i ρ).bind λx=>(f ρ).bind λy=>(i2 (λ_ _=>true) (λa b=>a+b) x y).map λz=>.nx (ρ.set i (↑z)):=nr rfl
@[simp] def pR(c:D):gn c=(Yc c).map fW:=nr rfl
@[simp] def Fz:aA=1000000:=nr rfl
@[simp] def gV0(d:D)(r:Ro):ab 0 (some (.sh d)::r)=some d:=nr rfl
@[simp] def UI(d:D)(r:Ro):aa 0 (some (.sh d)::r)=some d:=nr rfl
@[simp] def UJ(l:AN)(r:Ro):aa 0 (some (.ow l)::r)=some (.lst l):=nr rfl
@[simp] def gO0(l:AN)(r:Ro):c7 0 (some (.ow l)::r)=some l:=nr rfl
@[simp] theorem gVs(n:Nat)(b:AQ)(r:Ro):ab (n+1) (b::r)=ab n r:=by simp[ab]
@[simp] theorem UK(n:Nat)(b:AQ)(r:Ro):aa (n+1) (b::r)=aa n r:=by simp[aa]
@[simp] theorem gOs(n:Nat)(b:AQ)(r:Ro):c7 (n+1) (b::r)=c7 n r:=by simp[c7]
@[simp] def N5(l:AN)(r:Ro):frz1 0 (some (.ow l)::r)=some (.sh (.lst l))::r:=nr rfl
@[simp] def N6(d:D)(r:Ro):frz1 0 (some (.sh d)::r)=some (.sh d)::r:=nr rfl
@[simp] theorem N7(n:Nat)(b:AQ)(r:Ro):frz1 (n+1) (b::r)=b::frz1 n r:=by
 unfold frz1;rw[List.getElem?_cons_succ]
 cases h:r[n]? with
 | none=>rfl
 | some o=>
   cases o with
   | none=>rfl
   | some b=>cases b<;>rfl
def kM(h:a.length+b.length<=1000000):cu (.lst a) (.lst b)=some (a++b):=if_pos h
def iC(h:l.length<1000000):bY l d=some (l++[d]):=if_pos h
def bV{r:Ro}{b:Type}{enc:b->D}(f:b->D){l:List b}(h:∀a∈l,fe (some (.sh (enc a))::r)=some (f a)):dB (aj 0) tY fe (none::r) (l.map enc)=some (l.map f):=by
 have:=vn (gt:=aj 0) (fc:=tY) (ρ:=none::r) enc _ f l λa c=>⟨_,rfl,rfl,λ_=>h a c⟩
 rwa [List.filter_eq_self.mpr (λ_ _=>rfl)]at this
def gX{r:Ro}{b:Type}{enc:b->D}(p:b->Bool)(f:b->D){l:List b}(e:∀a∈l,fc (some (.sh (enc a))::r)=some (p a))(d:∀a∈l,p a=true->fe (some (.sh (enc a))::r)=some (f a)):
 dB (aj 0) fc fe (none::r) (l.map enc)=some ((l.filter p).map f):=
 vn enc p f l λa c=>⟨_,rfl,e a c,d a c⟩
def FC{fc:AT}{fe:AU}{r:Ro}{b:Type}{e1 e2:b->D}(p:b->Bool)(f:b->D){l:List b}(e:∀a∈l,fc (some (.sh (e1 a))::some (.sh (e2 a))::r)=some (p a))(d:∀a∈l,p a=true->fe (some (.sh (e1 a))::some (.sh (e2 a))::r)=some (f a)):
 dB (fU 0 1) fc fe (none::none::r) (l.map λa=>.tup [e1 a,e2 a])=some ((l.filter p).map f):=
 vn _ p f l λa c=>⟨_,rfl,e a c,d a c⟩
def N8{a:Type}(enc:a->D)(d:a)(l:List a):fW (l.map enc)=(List.range l.length).map λi=>.tup [.int i,enc (l.getD i d)]:=by
 unfold fW;rw[qf];refine Qq λi b=>?_;simp[Qb b]
end M
namespace Bk
open PySem L2 M
abbrev aH:=Nat×Bool
abbrev AX:=List aH
abbrev AW:=List AX
inductive Kd where
 | e|s|i|n
 deriving DecidableEq
inductive Rl where
 | ei (l:AX)
 | su (b:AE) (o:Bool)
 | im (b:AE) (h:AL)
 deriving DecidableEq
noncomputable def kS:Kd->Str
 | .e=>.ofString "eithers"
 | .s=>.ofString "sums"
 | .i=>.ofString "ifs"
 | .n=>.ofString "nots"
def aW(k:Kd):D:=.str (kS k)
noncomputable abbrev nD(n:Nat):D:=.int n
noncomputable def af(s:aH):D:=.tup [.int s.1,.bl s.2]
noncomputable def aq:AL->D
 | none=>.non
 | some n=>.int n
def aO:Rl->D
 | .ei l=>.tup (l.map af)
 | .su b o=>.tup [.tup (b.map nD),.bl o]
 | .im b h=>.tup [.tup (b.map nD),aq h]
def bq(k:Kd)(R:List Rl):D:=.tup [aW k,.tup (R.map aO)]
@[simp] theorem FD(k:Kd):bB (aW k)=0:=by simp[aW]
@[simp] theorem vw(s:aH):bB (af s)=1:=by simp[af]
@[simp] theorem vy(h:AL):bB (aq h)=0:=by cases h<;>simp[aq]
def FE:∀{k j:Kd},kS k=kS j->k=j:=by
 intro k j
 cases k<;>cases j<;>first|(intro _;rfl)|(exact λh=>absurd h (by decide +kernel))
@[simp] theorem FG(k j:Kd):bp (aW k) (aW j)=decide (k=j):=by
 rw[aW,aW];by_cases h:k=j
 .simp[h]
 .have a:¬_:=λe=>h (FE e)
  simp[h,a]
def vz(a:Bool)(k j:Kd):az a (aW k) (aW j)=some (if a then !decide (k=j)else decide (k=j)):=by
 rw[fI nofun nofun,FG]
@[simp] theorem N9(a:Bool)(k:Kd):az a (aW k) (.str (Str.ofString "eithers"))=some (if a then !decide (k=.e)else decide (k=.e)):=vz a k .e
@[simp] theorem N_(a:Bool)(k:Kd):az a (aW k) (.str (Str.ofString "sums"))=some (if a then !decide (k=.s)else decide (k=.s)):=vz a k .s
@[simp] theorem Oa(a:Bool)(k:Kd):az a (aW k) (.str (Str.ofString "ifs"))=some (if a then !decide (k=.i)else decide (k=.i)):=vz a k .i
@[simp] theorem Ob(a:Bool)(k:Kd):az a (aW k) (.str (Str.ofString "nots"))=some (if a then !decide (k=.n)else decide (k=.n)):=vz a k .n
@[simp] theorem mw(a b:Nat):bp (nD a) (nD b)=decide (a=b):=by
 rw[Fn];grind
@[simp] theorem Oc(s t:aH):bp (af s) (af t)=decide (s=t):=by
 obtain⟨a,p⟩:=s;obtain⟨b,q⟩:=t;have:=mw a b;simp [af,this];by_cases d:a=b<;>by_cases c:p=q<;>simp[c]
theorem vA{c:Type}[DecidableEq c]{enc:c->D}(e:∀a b,bp (enc a) (enc b)=decide (a=b))(s:c):∀l:List c,gQ (enc s) (l.map enc)=decide (s∈l)
 | []=>by simp[gQ]
 | t::l=>by
   have d:=vA e s l;unfold gQ at d ⊢;grind
theorem vB:∀{l:AN},(∀d∈l,bB d<=n)->bG l<=n
 | [],_=>by simp
 | d::l,h=>Nat.max_le.mpr ⟨h d qh,vB λe a=>h e (qg _ a)⟩
theorem vC{c:Type}[DecidableEq c]{enc:c->D}(d:∀a b,bp (enc a) (enc b)=decide (a=b)):∀l m:List c,d9 (l.map enc) (m.map enc)=decide (l=m)
 | [],[]=>by simp
 | [],b::m=>by simp
 | a::l,[]=>by simp
 | a::l,b::m=>by
   rw[Qd,Qd,N0,d,vC d l m];by_cases e:a=b<;>by_cases f:l=m<;>simp[e]
def vD{b:Type}{enc:b->D}{n:Nat}(h:∀a,bB (enc a)<=n)(l:List b):bG (l.map enc)<=n:=vB λd c=>by
 obtain⟨x,_,rfl⟩:=qy c;exact h x
theorem pS(s:aH)(l:AX)(a:Bool)(e:Yc c=some (l.map af)):cb a (af s) c=some (if a then !decide (s∈l)else decide (s∈l)):=by
 rw[vm e nofun (vB λd b=>by obtain⟨x,_,rfl⟩:=qy b;simp),vA Oc];symm
def cG(s:Nat)(l:AE)(a:Bool)(e:Yc c=some (l.map nD)):cb a (nD s) c=some (if a then !decide (s∈l)else decide (s∈l)):=by
 rw[vm e nofun (vB λd b=>by obtain⟨x,_,rfl⟩:=qy b;simp),vA mw]
@[simp] theorem FH(s:aH):(Yc (af s)).bind (λl=>aY l 0)=some (.int s.1):=by simp[af]
@[simp] theorem vE(s:aH):(Yc (af s)).bind (λl=>aY l 1)=some (.bl s.2):=by simp[af]
@[simp] def pT(l:AX):Yc (aO (.ei l))=some (l.map af):=nr rfl
@[simp] def pU(b:AE)(o:Bool):Yc (aO (.su b o))=some [.tup (b.map nD),.bl o]:=nr rfl
@[simp] def pV(b:AE)(h:AL):Yc (aO (.im b h))=some [.tup (b.map nD),aq h]:=nr rfl
@[simp] def kO(k:Kd)(R:List Rl):Yc (bq k R)=some [aW k,.tup (R.map aO)]:=nr rfl
noncomputable def at'(ev:AG)(n:Nat):Bool:=ev.getD n false
def iD{ev:AG}(h:n<ev.length):aY (ev.map D.bl) (n:Int)=some (.bl (at' ev n)):=by
 rw[gW,kK h];simp[at',h]
def In(k:Kd)(n:Nat):Rl->Prop
 | .ei l=>k=.e/\∀s∈l,s.1<n
 | .su b _=>k=.s/\∀x∈b,x<n
 | .im b h=>(k=.i\/k=.n)/\(∀x∈b,x<n)/\∀x,h=some x->x<n
def mx(s t:aH):Prop:=s.1<t.1\/(s.1=t.1/\s.2=false/\t.2=true)
def eB:Rl->Prop
 | .ei l=>l.length<=2/\l.Pairwise mx
 | .su b _=>b.Pairwise (·<·)
 | .im b _=>b.Pairwise (·<·)
def hd(ev:AG)(w:Bool):AL->Bool
 | none=>false
 | some x=>at' ev x==w
noncomputable def kP(R:List Rl)(i:Nat):Rl:=R.getD i (.ei [])
def Od{R:List Rl}{i:Nat}(h:i<R.length):kP R i∈R:=by simp[kP,h]
def FI(R:List Rl):fW (R.map aO)=(List.range R.length).map λi:Nat=>.tup [.int (i:Int),aO (kP R i)]:=N8 aO _ R
def so(k:Kd)(ev:AG):Rl->Bool
 | .ei l=>l.any λs=>at' ev s.1==s.2
 | .su b o=>decide ((b.filter (at' ev)).length%2=1)==o
 | .im b h=>(b.any λx=>at' ev x != decide (k=.i))||hd ev (decide (k=.i)) h
end Bk
namespace Bk
def brk(k:Kd)(ev:AG)(R:List Rl):AE:=(List.range R.length).filter λi=>!so k ev (kP R i)
end Bk
namespace Bk
open PySem L2 M
def FJ(l:AX):D.tup (l.map af)=aO (.ei l):=rfl
noncomputable def sz:Rl->Nat
 | .ei l=>l.length
 | .su b _=>b.length
 | .im b _=>b.length
theorem Oe{n:Nat}:∀{l:AE}{a:Nat},l.Pairwise (·<·)->(∀x∈l,a<=x/\x<n)->l.length<=n-a
 | [],_,_,_=>Qh _
 | x::l,a,h,d=>by
   have e:=d x qh;have c:=List.pairwise_cons.mp h
   have f:=Oe c.2 λy b=>⟨c.1 y b,(d y (qg _ b)).2⟩
   rw[qt];ac_nf
def FK{n:Nat}{l:AE}(h:l.Pairwise (·<·))(a:∀x∈l,x<n):l.length<=n:=Oe h λx b=>⟨Qh _,a x b⟩
theorem FL{k:Kd}{n:Nat}{r:Rl}(a:In k n r)(hs:eB r):sz r<=n+2:=by
 cases r with
 | ei l=>exact Qg hs.1 (by lia)
 | su b o=>exact Qg (FK hs a.2) (by lia)
 | im b o=>exact Qg (FK hs a.2.1) (by lia)
end Bk
namespace Bk
noncomputable def fL:Rl->AE
 | .ei l=>l.map (·.1)
 | .su b _=>b
 | .im b none=>b
 | .im b (some x)=>b++[x]
end Bk
namespace Bk
open PySem L2 M
noncomputable def vd:Kd->Rl
 | .e=>.ei []
 | .s=>.su [] true
 | _=>.im [] none
end Bk
namespace M
variable {prog:P7}{fp wr:List Addr}{K:W7}{X:Cx}{es rest ifs elts:AK}{fa fk fz f2:AU}{ga gl:AV}{pos pos' pt p2 pos2 px p3 pos3 pos4:Pos}{pins:AB}{fd:AT}{st:Stmt}{sts:List Stmt}{fs gs:AR}{tg elt iter ie ke f':Expr}{scope:Scope}{mg:AD}{base:Heap}{x1:Nat}{ta:TA}
open PySem PySem.Spec PyProof.Rows L2
section
variable {w:World}{A:Around}{E:AA}{s:Shared}{a e:Expr}{f:AU}
theorem UL(u:s.heap.IsList l vs.toArray)(b:IntsAre vs ns)(x:ns.length<=2^24)(o:k∈ns)(h:Q (.int (ns.idxOf k:Nat) s.toks) {s with toks:=s.toks+1}):
 wpAny (mZ prog w) A (call (.builtin "list.index") [.ref l,.int k t]) Q E s:=by
 obtain⟨⟨v,q,d,r⟩,g,f,n,e⟩:=id u;simp at f e;subst f e;have i:=b.length;have p:=List.idxOf_lt_length_iff.mpr o
 refine call_meets PySem.F.slot_list_index ⟨_,g,rfl⟩ PySem.F.entry_list_index (PySem.F.args_list_index_2 _ _)
  (PySem.SeqAt.list_indexAt l _ n q r _ _ _ (by ext) (by lia) ?_ ?_) ⟨g,λy z=>(eq_isInt k t b y (by grind)).at _ _,h⟩
 .show isInt k vs[ns.idxOf k]=true
  rw[isInt_at k b _ (by ext) p];grind
 .intro j m c
  show isInt k vs[j]=_;rw[isInt_at k b j (by omega) (by ext)];exact ne_of_lt_idxOf c _
def FM(K:W7):V->AM->Hp->VK->Prop:=λx b H Q=>∃(l:Addr) (a:AF) (k:Int),x=.ref l/\b=[.int k]/\SqL K H l (a.map .int)/\k∈a/\Q (.int (a.idxOf k)) H
def FN:nR X "list.index" (FM X.K):=by
 intro a s m H x n v o Q I i f h;obtain⟨l,j,k,rfl,rfl,d,b,q⟩:=h;cases i;obtain⟨u,rfl,⟨t,rfl⟩⟩:=ez f;obtain⟨g,r,e,c⟩:=I.list d;exact UL e.isList (tR r) (by rwa [qf]at c) b ⟨.int _,H,I.tok _,⟨_,rfl⟩,q⟩
def iE:D->D->Option D
 | .lst l,.int k=>(intsD l).bind λa=>if k∈a then some (.int (a.idxOf k))else none
 | _,_=>none
theorem UM{i b:Pos}(w:ZC X a fa)(t:ZE X e f)(hs:aad X e:=by rfl)(m:pa X b [e]:=by rfl)(l:(i.endLine==b.line)=true:=by rfl)(j:attributeBase a "index" X.env (eval a X.env)=eval a X.env:=by rfl):
 ZE X (.Call (.Attribute a "index" i) [e] [] b) (b2 fa f iE):=⟨have w:=w.un;have t:=t.un;
 PE.imp (nQ PySem.F.plainAttrs_list PySem.F.slot_list_index PySem.F.type_list_index FN w (fT t gM hs) j m l hs rfl) λU H Q n=>by
  obtain⟨Z,d,S,G0,G,e,s,h⟩:=n;obtain⟨C,L,e⟩:=qa e;obtain⟨E,O,y⟩:=qa e
  cases C<;>try cases y
  cases E<;>try cases y
  rename_i k;obtain⟨B,M,A⟩:=qa y;by_cases z:k∈B
  .rw[if_pos z]at A
   cases A;have:=j8 M;subst this;refine tCof.at L s λv T Y N K R=>?_;obtain⟨p,V,rfl,g,J⟩:=K;have:=j9 J;subst this;refine⟨.inl ⟨rfl,_,.inl g⟩,tOf.at O R λu I D r F s2=>?_⟩;subst F;exact⟨p,B,k,rfl,rfl,.inl (g.imp (r.h _ _) λq=>q.imp λo q=>r.h _ _ q),z,h _ I D (N.trans r) (by rw[Rp])⟩
  ext⟩
noncomputable def pW(f g:AU):AU:=λa=>(f a).or (g a)
def FO(i:ZE X e f)(b:ZE X e g):ZE X e (pW f g):=⟨have i:=i.un;have b:=b.un;λl s n H Q I h=>by
 obtain⟨j,d,m,k,G,a,o,q⟩:=h;unfold pW at a
 cases c:f j with
 | some p=>
   rw[c]at a;cases a;exact i _ s n H Q I ⟨j,_,m,k,G,c,o,q⟩
 | none=>
   rw[c]at a
   exact b _ s n H Q I ⟨j,d,m,k,G,a,o,q⟩⟩
@[simp] theorem FP(f g:AU):pW f g ρ=(f ρ).or (g ρ):=dj rfl
@[simp] theorem FQ(l:AF)(k:Int):iE (.lst (l.map D.int)) (.int k)=if k∈l then some (.int (l.idxOf k:Nat))else none:=by
 show(intsD _).bind _=_;rw[mv];rfl
end
section
variable {w:World}{A:Around}{E:AA}{s:Shared}
abbrev kQ:=List Int×Addr×Value
def FR(h:Heap)(u:Value)(p:kQ):Prop:=∃t o n,u=.ref t/\h.get? t=some o/\o.cls=.type "tuple"/\o.data=.seq #[.ref p.2.1,p.2.2] n
def vF(h:Heap):AC->List kQ->Prop
 | [],[]=>True
 | u::us,p::ps=>FR h u p/\vF h us ps
 | _,_=>False
def FS{xs:List kQ}(h:k∉xs.map (·.1)):atKey xs k=none:=atKey_none_of_get λj p e=>h (List.mem_map.mpr ⟨(k,p),List.mem_of_getElem? e,rfl⟩)
theorem FT{a:AC}(hu:A.units+8<cLine)(hh:A.handled=none)(hd0:h0.get? d=none)(V:h0.get? it=none)(C:d≠it)(hL:h0.IsList L a.toArray):
 ∀(ps:List kQ) (i:Nat) (c:Int) (f:List kQ) (s:Shared),vF h0 (a.drop i) ps->f.length+ps.length<=sizeLine->((f++ps).map (·.1)).Nodup->(∀h',OldH h0 h'->∀x∈f++ps,(tupleKind (dP prog w)).is h' x.1 x.2.1)->
 s.heap.IsListIter it L i->OldH h0 s.heap->s.heap.DictOfH (tupleKind (dP prog w)) d f->
 (∀h' tk,OldH h0 h'->h'.DictOfH (tupleKind (dP prog w)) d (f++ps)->R (.ok (.ret .none)) {s with heap:=h',toks:=tk})->
 codeAny (mZ prog w) A (.builtin "dict.update.loop" ⟨[.ref d,.ref it,.int c 0,.none],[]⟩) R s:=by
 intro ps
 induction ps with
 | nil=>
   intro i c f s k hz hnd h B D hd O;have v:s.heap.IsList L a.toArray:=let ⟨o,e,r⟩:=hL;⟨o,D _ _ e,r⟩
   have y:a.toArray[i]?=none:=by
    cases g:a.drop i with
    | nil=>simpa using g
    | cons u us=>rw[g]at k;exact k.elim
   refine wy uC ?_;rw[jc mi _];show wpAny _ A.in1 (pyNext (.ref it)>>=_) _ _ s;refine wa (wpAny_pyNext_list_end (A:=A.in1) hh B v y λh' hs=>?_);show wpAny _ A.in1 (Builtin.Dict.addKeywords d []>>=_) _ _ _;have l:OldH h0 h':=λb N q=>hs b N (λz=>by grind) (D b N q);obtain⟨o,S,Z,g1,g2,g3,Q,g5,g6⟩:=hd;rw[w6]at O h;refine wa (wb (wb (O h' s.toks l ⟨o,S,Z,hs _ _ C g1,g2,g3,Q,λx y=>h h' l x y,g6⟩)))
 | cons p ps ih=>
   intro i c f s k hz hnd h B D hd O;have v:s.heap.IsList L a.toArray:=let ⟨o,e,r⟩:=hL;⟨o,D _ _ e,r⟩
   cases g:a.drop i with
   | nil=>rw[g]at k;exact k.elim
   | cons u us=>
     rw[g]at k;obtain⟨⟨t,N,n,rfl,ht,hc,F⟩,k⟩:=k
     have y:a.toArray[i]?=some (.ref t):=by
      have:=congrArg List.head? g;simpa [List.head?_drop]using this
     have hus:us=a.drop (i+1):=by
      have:=congrArg List.tail g;simpa using this.symm
     refine wy uC ?_;rw[jc mi _];show wpAny _ A.in1 (pyNext (.ref it)>>=_) _ _ s;refine wa (wpAny_pyNext_list_item B v y λI Y J=>?_);have j:=OldH.but V D J;obtain⟨o,S,Z,g1,g2,g3,Q,g5,g6⟩:=hd
     have T:I.DictOfH (tupleKind (dP prog w)) d f:=⟨o,S,Z,by rw[J.2 d C];exact g1,g2,g3,Q,λx y=>h I j x (List.mem_append.mpr (.inl y)),g6⟩
     have H:=j _ _ ht
     have hT:(Shared.TypeIs {s with heap:=I} (.ref t) "tuple"):=⟨N,H,hc⟩
     refine wa (wc (wa (wpAny_tryCatch ?_)));unfold Builtin.Dict.pairItems;refine wa (wpAny_typeOf hT ?_);rw[if_pos (by decide)];refine wa (wpAny_seqItems H F (wb ?_));have hlen:=qt (a:=p) (as:=ps)
     have K:p.1∉f.map (·.1):=λz=>by
      grind
     refine wc (wpAny_dictSet_heap (s:={s with heap:=I}) (knd:=tupleKind (dP prog w)) (k:=p.1) (a:=p.2.1) (xs:=f) (hsz:=by lia) (by show A.in1.units<cLine;grind) (h I j p nofun) T λh2 G M=>?_);rw[storedH_new (FS K)]at G;refine wb ⟨jb mi _,?_⟩;refine ih (i+1) (c+1) _ _ (by grind) (by ext<;>lia) (by ext) (λh' o'=>by grind) (IsListIter.but Y M (Ne.symm C)) (OldH.but hd0 j M) G λh' U o' d'=>O h' U o' (by ext)
theorem UN(hu:A.units+64<cLine)(z:A.handled=none)(K:PlainL s.heap L its.toArray)(hp:vF s.heap its ps)(Y:ps.length<=sizeLine)(C:(ps.map (·.1)).Nodup)(D:∀h',OldH s.heap h'->∀x∈ps,(tupleKind (dP prog w)).is h' x.1 x.2.1)(hQ:∀h' tk,OldH s.heap h'->h'.DictOfH (tupleKind (dP prog w)) (~~~s) ps->Q (.ref (~~~s)) {s with heap:=h',toks:=tk}):
 wpAny (mZ prog w) A (call (.type "dict") [.ref L]) Q E s:=by
 generalize u:({cls:=.type "dict",data:=.dict #[]}:Obj)=l;refine callType_codes (Q₁:=λi d=>i=.ref _/\d={s with heap:=s.heap.push l}) F.kt_called_dict (F.kt_typeCall_dict_1 _) F.entry_dict_init (kt_code_dict_new _ ⟨rfl,by rw[u]⟩) ?_;rintro i d ⟨rfl,rfl⟩
 have a:(s.heap.push l).DictOfH (tupleKind (dP prog w)) (~~~s) []:=by rw[<-u];exact .new s.heap
 refine⟨a.typeIs,F.args_dict_init_2 _ _,?_⟩;refine wa ?_;refine wa (wpAny_notOrdered_dict a.typeIs ?_);refine wb ?_;show wpAny _ _ (Builtin.Dict.updateFrom "dict.__init__" _ (.ref L) [] .none) _ _ _;obtain⟨o,n,e,k,B,m⟩:=K;have t:(s.heap.push l).get? L=some o:=qe _ e
 have N:Shared.TypeIs {s with heap:=s.heap.push l} (.ref L) "list":=⟨o,t,k⟩
 refine wa (wpAny_typeOf N ?_);refine wa (Nt t k B m (by simp[z]) λh' tk c=>?_);refine wa (wpAny_rule (wa ?_))
 have r:h'.IsList L its.toArray:=⟨o,c _ _ t,k,n,m⟩
 refine wpAny_pyIter_list (s:={s with heap:=h',toks:=tk}) r ?_;have j:OldH s.heap h':=λb v q=>c _ _ (qe _ q);obtain⟨T,R,I,p,f⟩:=id a;have h:=c _ _ p;have g:=ql h;generalize y:({cls:=.type "list_iterator",data:=.fields _}:Obj)=G;refine wb ⟨jb mi _,?_⟩;refine FT (h0:=s.heap) ?_ (by simp[z]) (Heap.get?_none_of_le (qv _)) (Heap.get?_none_of_le (Nat.le_of_lt g)) (qm g) ⟨o,e,k,n,m⟩ ps 0 0 [] _ (by grind) (by ext) (by grind) (by grind) ?_ (λb v q=>qe _ (j b v q)) ?_ λB O V Z=>?_
 .grind
 .exact⟨G,qp _ (by rw[<-y];rfl),by rw[<-y],by grind⟩
 .obtain⟨J,H,U,_,M⟩:=f
  exact⟨T,R,I,qe _ h,J,H,U,λx S=>(nomatch S),M⟩
 grind
end
abbrev vG:=(List Int×Addr)×V
def vH(H:Hp):AM->List vG->Prop
 | [],[]=>True
 | x::xs,q::qs=>(∃b ys,x=.ref b/\H b=some (.tup [.ref q.1.2,q.2])/\H q.1.2=some (.tup ys)/\dZ ys=some q.1.1)/\vH H xs qs
 | _,_=>False
theorem pX:∀{a:List vG}{ps:List kQ},ps.map (λp=>(p.1,p.2.1))=a.map (·.1)->bK (a.map (·.1)) (ps.map (·.2.2))=ps
 | [],[],_=>rfl
 | q::a,p::ps,h=>by
   rw[Qd,Qd]at h;injection h with c d;have b:=pX d;unfold bK at b ⊢;rw[Qd,Qd,List.zip_cons_cons,Qd,b,<-c]
 | [],_::_,h=>by cases h
 | _::_,[],h=>by cases h
theorem Of{σ:L2.St}(I:Inv X pins σ H s):∀{ys:AM}{its:AC}{a:List vG},vH H ys a->Vals ys its->∃ps:List kQ,vF s.heap its ps/\ps.map (λp=>(p.1,p.2.1))=a.map (·.1)/\Vals (a.map (·.2)) (ps.map (·.2.2))/\∀p∈ps,∃c,H p.2.1=some (.tup c)/\dZ c=some p.1
 | [],its,[],_,r=>by
   cases r;exact⟨[],trivial,rfl,.nil,λp f=>nomatch f⟩
 | y::ys,its,q::a,h,r=>by
   obtain⟨⟨b,c,rfl,v,D,A⟩,h⟩:=h
   cases r with
   | cons j z=>
     cases j;obtain⟨ps,m,B,g,C⟩:=Of I h z;obtain⟨d,w,⟨o,e,k,n,u⟩,_⟩:=I.tuple (.of v)
     cases w with
     | cons t x=>
       cases x with
       | cons l i=>
         cases i;cases t;refine⟨(q.1.1,q.1.2,_)::ps,⟨⟨b,o,n,rfl,e,k,u⟩,m⟩,by ext,.cons l g,λp f=>?_⟩;grind
 | [],_,_::_,h,_=>h.elim
 | _::_,_,[],h,_=>h.elim
def FU(K:W7):AM->Hp->VK->Prop:=λe H Q=>∃a d b,e=[.ref a]/\SqL K H a d/\vH H d b/\b.length<aA/\(b.map (·.1.1)).Nodup/\∀p f,H p=none->Q (.ref p) (upd H p (d_ p (b.map (·.1)) (b.map (·.2)) f))
theorem UO(E:X.A.units+64<cLine)(t:X.calm=true):dO X (.type "dict") (FU X.K):=by
 intro l s T H U Z Q I r h;obtain⟨a,N,k,rfl,A,z,O,C,q⟩:=h;obtain⟨u,rfl,y⟩:=ez r;cases y;obtain⟨M,p,v,R⟩:=I.list A;obtain⟨f,F,g,G,D⟩:=Of I z p;have m:aA=1000000:=rfl
 have n:f.length=k.length:=by
  have:=congrArg List.length g;grind
 have i:f.length<=sizeLine:=by rw[jf];lia
 have Y:f.map (·.1)=k.map (·.1.1):=by
  have:=congrArg (List.map Prod.fst) g
  rwa [Qf,Qf]at this
 refine UN E (I.ok.hd t) v F i (by grind) (λw c x L=>?_) λw S c j=>?_
 .obtain⟨V,J,K⟩:=D x L
  exact kc (I.kept (t':=s.toks) λb o e=>c b o e).hok J K
 .rw[<-pX g]at j
  obtain⟨B,d⟩:=oI (beq_eq_false_iff_ne.mpr (.symm (qm I.big))) G j;exact⟨.ref _,_,I.laid (λb o e=>c b o e) (qv _) (d _),rfl,q _ B (I.hok.fresh (qv _))⟩
noncomputable def my:AN->Option (List (D×D))
 | []=>some []
 | .tup [k,v]::l=>(my l).map ((k,v)::·)
 | _=>none
def FV:D->Option (List (D×D))
 | .lst l=>my l
 | _=>none
theorem Og(s:Same G H):∀{l:AN}{ps:List (D×D)}{g:List AF}{xs:AM},my l=some ps->fF (ps.map (·.1))=some g->RpL K G l xs->
 ∃a:List vG,vH H xs a/\a.map (·.1.1)=g/\RpL K G (ps.map (·.1)) (a.map λq=>V.ref q.1.2)/\RpL K G (ps.map (·.2)) (a.map (·.2))/\a.length=ps.length/\∀q∈a,∃ys,G q.1.2=some (.tup ys)/\dZ ys=some q.1.1
 | [],ps,g,xs,e,f,r=>by
   cases e;cases f;subst r;exact⟨[],trivial,rfl,.nil,.nil,rfl,λq k=>nomatch k⟩
 | d::l,ps,g,xs,e,f,r=>by
   unfold my at e
   split at e
   case h_1 he=>cases he
   case h_2 k v l' he=>
    injection he with j i;subst j i;obtain⟨o,y,rfl⟩:=qc e;obtain⟨x,R,rfl,p,t⟩:=r;obtain⟨n,L,f⟩:=qa f;obtain⟨A,h,rfl⟩:=qc f;obtain⟨a,F,Q,u,J,N,T⟩:=Og s y h t;obtain⟨b,ys,rfl,I,c⟩:=p;obtain⟨O,v,rfl,m,c⟩:=c;obtain⟨C,v,rfl,B,c⟩:=c;subst c;obtain⟨z,M,rfl,E,S,w⟩:=oD L (.of s m);refine⟨((n,z),C)::a,⟨⟨b,M,rfl,s _ _ I,E,w⟩,F⟩,by grind,.cons m u,.cons B J,by ext,λq k=>?_⟩;grind
   ext
section
variable {e:Expr}{f:AU}
def iF(i:Nat)(f:AU):AR:=λb=>((f b).bind FV).bind λa=>(fF (a.map (·.1))).bind λc=>if a.length<aA/\c.Nodup then some (.nx (b.set i (some (.od true (a.map (·.1)) (a.map (·.2))))))else none
@[simp] theorem Oh(i:Nat):iF i f ρ=((f ρ).bind FV).bind λps=>(fF (ps.map (·.1))).bind λa=>if ps.length<aA/\a.Nodup then some (.nx (ρ.set i (some (.od true (ps.map (·.1)) (ps.map (·.2))))))else none:=dj rfl
theorem FW(T:X.A.units+64<cLine)(J:X.calm=true)(i:Nat){c w b:Pos}(Y:X.N.Nodup)(U:Gl X "dict")(I:X.mg "dict"=none)(k:ZC X e f)(R:X.N[i]?=some x:=by rfl)(z:dX X.env.scope x:=by trivial)(g:starEach [e] X.env=[(false,eval e X.env)]:=by rfl)(o:(backTo b (starEach [] X.env)).any (·.1)=false:=by rfl)(hs:swapsWith (.Call (.Name "dict" w) [e] [] b) (some (.Name x c)) pos.line X.env=pure false:=by rfl)(K:X.fn x=true\/X.env.scope.names.lookup x=some .local:=by trivial):ZS X (.Assign [.Name x c] (.Call (.Name "dict" w) [e] [] b) pos) (iF i f):=⟨have k:=k.un;
 PS.imp (lS Y R z (i4 (UO T J) U I (by decide +kernel) (i9 k i8 g) (by decide) (by decide) g o) hs K) λF σ H m=>by
  obtain⟨V,O,Z,G0,G,e,s,h⟩:=m;obtain⟨ps,Q,e⟩:=qa e;obtain⟨kn,n,e⟩:=qa e;obtain⟨d,h2,y⟩:=qa Q
  split at e
  case isFalse=>cases e
  cases e;refine tCAof.at (show Yb f _ V=some [d] by ext) s λvs H1 A g1 N j=>?_;obtain⟨v,rfl,L⟩:=fq N
  cases d with
  | lst l=>
    obtain⟨a,E,rfl,t,S⟩:=L;obtain⟨u,D,k2,C,B,k5,k6⟩:=Og j.seen (y) n S;refine⟨a,E,u,rfl,.inl t,D,by ext,by symm,λp M r=>h _ _ A (j.set_od i (.hid j.seen r _) r (j.seen.free r) (.inr ⟨rfl,u.map _,M,Yh,by simp,by symm,by ext,λq t=>?_⟩) C B)⟩;symm
  | _=>cases y⟩
end
section
variable {w:World}{A:Around}{E:AA}{s:Shared}
def DRaw(h:Heap)(d:Addr)(b:Array DictEntry)(a:Nat):Prop:=∃o,h.get? d=some o/\o.ExactDict/\o.data=.dict b a
def DRaw.typeIs(b:DRaw s.heap d f e):s.TypeIs (.ref d) "dict":=by
 obtain⟨o,a,c,_⟩:=b;exact⟨o,a,c.1⟩
theorem Oi(j:(d==sysModules)=false)(e:DRaw s.heap d f h)(g:Q (.ref (~~~s)) {s with heap:=s.heap.push {cls:=.type "dict_keyiterator",data:=.fields #[.ref d,.int 0 0,.int f.size 0,.int h 0]} }):wpAny (mZ prog w) A (pyIter (.ref d)) Q E s:=by
 have b:=e.typeIs;obtain⟨o,c,i,a⟩:=e;refine wpAny_pyIter_slot b F.slot_dict_iter (we F.slot_dict_iter b F.entry_dict_iter (wa (wa (wpAny_notOrdered_dict b ?_))) (F.args_dict_iter_1 _));show wpAny _ _ (pure (Value.ref d)) _ _ s;refine wb ?_;show wpAny _ _ (Builtin.Dict.showsAll d>>=_) _ _ s;unfold Builtin.Dict.showsAll;rw[if_neg (by grind)];refine wa (wb (wa (wpAny_dictEntries c a (wa (wpAny_dictEpoch c a (wa (wg (wb ⟨_,rfl,"dict_keyiterator",_,⟨_,qp _ rfl,rfl⟩,F.slot_dict_keyiterator_next.lookup,?_⟩))))))));simpa [rawInt]using g
theorem Oj(a:s.heap.IsKeyIter c d i f.size k)(q:DRaw s.heap d f k)(n:i<f.size)(m:∀h':Heap,h'.IsKeyIter c d (i+1) f.size k->Heap.SameBut c s.heap h'->Q (some f[i].key) {s with heap:=h' }):wpAny (mZ prog w) A (pyNext (.ref c)) Q E s:=by
 obtain⟨o,j,r,h⟩:=id a;obtain⟨t,g,p,e⟩:=q;unfold pyNext
 refine wa (je (wpAny_callSpecial?_slot a.typeIs F.slot_dict_keyiterator_next
  (we F.slot_dict_keyiterator_next a.typeIs F.entry_dict_keyiterator_next ?_ (F.args_dict_keyiterator_next_1 _))))
 refine wa (wb ?_);refine wa ?_;refine wa ?_
 first|refine wa (wpAny_typeNameOfWhole_keyiter a.typeIs (wb ?_))|refine wa (wpAny_typeNameOf_keyiter a.typeIs (wb ?_))
 refine wa (wpAny_fieldsOf j h ?_)
 have l:Builtin.Dict_items.ownsTuple "dict_keyiterator"=false:=by decide
 show wpAny _ _ _ _ _ s;refine wa (wb ?_);refine wa (wpAny_dictEntries g e ?_);rw[if_neg nofun];refine wa (wb ?_);refine wa (wpAny_dictEpoch g e ?_);rw[if_neg nofun];refine wb ?_;simp only[if_false,w5,Array.getElem?_eq_getElem n];refine wa ?_
 first|refine wa (wpAny_typeNameOfWhole_keyiter a.typeIs (wb ?_))|refine wa (wpAny_typeNameOf_keyiter a.typeIs (wb ?_))
 refine wa (wpAny_isOneOf_keyiter a.typeIs ?_);show wpAny _ _ (setField (.ref c) 1 _>>=_) _ _ s;refine wa (wpAny_setField j h nofun ?_)
 have b:(s.heap.update c (Obj.mapFields (·.setIfInBounds 1 (rawInt ((i:Int)+1))))).IsKeyIter c d (i+1) f.size k:=
  ⟨_,wx _ j (Obj.isFreed_of_fields (jd h _)),(Obj.cls_mapFields ..).trans r,by rw[jd h];simp[rawInt]⟩
 refine wa (wc ?_);refine wa (wpAny_isOneOf_keyiter b.typeIs ?_);exact wb (wb ⟨_,rfl,wb (m _ b (wv ..))⟩)
theorem Ol(p:A.handled=none)(a:s.heap.IsKeyIter e d i h.size n)(q:DRaw s.heap d h n)(f:h.size<=i)(m:∀h',Heap.ExtBut e s.heap h'->Q none {s with heap:=h' }):wpAny (mZ prog w) A (pyNext (.ref e)) Q E s:=by
 obtain⟨o,k,r,j⟩:=id a;obtain⟨t,c,l,b⟩:=q;unfold pyNext
 refine wa (je (wpAny_callSpecial?_slot a.typeIs F.slot_dict_keyiterator_next
  (we F.slot_dict_keyiterator_next a.typeIs F.entry_dict_keyiterator_next ?_ (F.args_dict_keyiterator_next_1 _))))
 refine wa (wb ?_);refine wa ?_;refine wa ?_
 first|refine wa (wpAny_typeNameOfWhole_keyiter a.typeIs (wb ?_))|refine wa (wpAny_typeNameOf_keyiter a.typeIs (wb ?_))
 refine wa (wpAny_fieldsOf k j ?_)
 have g:Builtin.Dict_items.ownsTuple "dict_keyiterator"=false:=by decide
 show _;refine wa (wb ?_);refine wa (wpAny_dictEntries c b ?_);rw[if_neg nofun];refine wa (wb ?_);refine wa (wpAny_dictEpoch c b ?_);rw[if_neg nofun];refine wb ?_;simp only[show ¬((i:Int)<0) from by lia,if_false,w5,Array.getElem?_eq_none f];refine wa ?_
 first|refine wa (wpAny_typeNameOfWhole_keyiter a.typeIs (wb ?_))|refine wa (wpAny_typeNameOf_keyiter a.typeIs (wb ?_))
 show wpAny _ _ (setField (.ref e) 0 .none>>=_) _ _ s;refine wa (wpAny_setField k j nofun ?_);refine wa ?_;refine wa (m:=firstArgMember _ _) (wpAny_of_eq (a:=Value.none) (by first|rfl|(rfl)) ?_);refine wg ?_ (by size_fits);simp only[raiseNew];refine wa (wpAny_handled ?_);rw[p];refine wa (wb (wpAny_throw ?_));refine wa (wpAny_isInstance (T:="StopIteration") (b:=true) ⟨_,qp _ rfl,rfl⟩ isSubtype_stop ?_);exact wb (m _ (((wv ..).extBut.push _).push _))
end
def Om(a:Addr)(nks:List (List Int×Addr))(vxs:AM)(b:Nat):It:=
 ⟨λi H=>H a=some (d_ a nks vxs b)/\i<nks.length,λi H x c=>c=H/\∃p,nks[i]?=some p/\x=.ref p.2,λi H=>H a=some (d_ a nks vxs b)/\nks.length<=i⟩
theorem vI(g:HOk P w H h)(e:H a=some (d_ a nks vxs n))(s:nks.length=vxs.length):
 (a==sysModules)=false/\∃b:Array DictEntry,DRaw h a b n/\b.size=nks.length/\∀(i:Nat) (d:i<b.size) p,nks[i]?=some p->b[i].key=.ref p.2:=by
 obtain⟨⟨j,k,o,b,r,q,f,m,l⟩,_⟩:=g a _ e
 have t:k.length=nks.length:=by rw[s,r.length]
 have c:b.size=nks.length:=by
  have:=congrArg List.length l;grind
 refine⟨j,b,⟨o,q,f,m⟩,c,λi d p u=>?_⟩
 have v:b.toList[i]?=some b[i]:=by simp[d]
 grind
theorem FX{K:W7}(L:nks.length=vxs.length)(a l:Addr):d7 P w K Z (Om a nks vxs O) [l] l (λi h=>h.IsKeyIter l a i nks.length O) where
 mem:=by simp
 obj:=λi h st b m=>by
  obtain⟨o,e,c,d⟩:=st
  ext
 keep:=λi h J st k=>by
  obtain⟨o,e,r⟩:=st;exact⟨o,k l nofun o e,r⟩
 item:=by
  intro X S V Q F i n s R H E I p st y;obtain⟨x,G⟩:=y;obtain⟨u,U,C,f,g⟩:=vI I.hok x L;obtain⟨q,t,Y,v,A,z⟩:=p l nofun;have D:=qr G;rw[<-f]at st;refine Oj st C ∅ λJ j M=>?_;have T:=I.turned (t':=s.toks) (λb o m e=>(M.2 b m).trans e) q t v A z;obtain⟨o,e,c,d⟩:=id j;rw[g i ∅ _ D];rw[f]at j;exact⟨.ref _,rfl,hP e c d (by decide) ⟨.ref _,H,T,rfl,⟨rfl,_,D,rfl⟩,j,λb m=>(p b m).1⟩⟩
 done:=by
  intro X S V Q F i n s R H E I p st y;obtain⟨x,G⟩:=y;obtain⟨u,U,C,f,g⟩:=vI I.hok x L;obtain⟨q,t,Y,v,A,z⟩:=p l nofun;rw[<-f]at st
  exact Ol (I.ok.hd F) st C (by ext) λJ N=>⟨rfl,I.turned (λb o m e=>N b o m e) q t v A z⟩
 self:=λ_ _ _ _ _ st h=>wpAny_pyIter_keyiter st h
def FY(g:TE):TI:=λf H R=>g f H λx e=>∃a c b d,x=.ref a/\e a=some (d_ a c b d)/\c.length=b.length/\R (Om a c b d) e
theorem FZ(r:PE X l u):PI X tg l (FY u):=by
 intro m s B H R I h;refine aM (r _ s B H _ I h) λv j g=>?_;obtain⟨x,w,d,y,n⟩:=g;obtain⟨a,z,t,C,e,A,c,q⟩:=n;subst e;cases y;obtain⟨i,E,p,f,k⟩:=vI d.hok A c;refine Oi i p ?_;rw[f];refine⟨j.heap.objs.size,[j.heap.objs.size],_,_,w,rfl,d.kept λb o e=>qe _ e,FX c a _,⟨_,qp _ rfl,rfl,rfl⟩,λb D=>?_,q⟩
 have e:b=j.heap.objs.size:=by symm
 subst e;exact d.fpOk (qv _) (d.hok.fresh (qv _))
def pY:D->Option AN
 | .dct true a _=>if a.length<=aA then some a else none
 | _=>none
section
variable {f:AU}
theorem F0(o:ZE X l f):ZI X tg l (b1 f pY):=⟨have o:=o.un;PI.imp (FZ o) λσ H R n=>by
 obtain⟨ρ,S,Z,G0,G,e,s,h⟩:=n;obtain⟨c,D,b⟩:=eL e;refine tOf.at D s λv F N O K L=>?_;unfold pY at b
 split at b
 case h_2=>cases b
 split at b
 case isFalse=>cases b
 rename_i g;cases b;obtain⟨a,I,t,rfl,Q,A,T⟩:=K;rcases Q with⟨z,_⟩|⟨_,j,J,r,M,Y,rfl,V⟩
 .cases z
 refine⟨a,j,t,J,rfl,L.seen _ _ r,M,h _ F N O (oj (gj g) λi H2 U m u=>⟨λd C=>?_,λhi=>⟨u _ _ (m _ _ r),?_⟩⟩)⟩
 .obtain⟨x,w,E⟩:=A.get C
  have k:i<j.length:=by
   grind
  refine⟨⟨u _ _ (m _ _ r),k⟩,λy H3 q=>⟨q.1,?_⟩⟩;obtain⟨p,B,rfl⟩:=q.2;rw[Qm,B]at w;cases w;exact E.mono m
 .have:=A.length
  ext⟩
@[simp] theorem UP(ks vs:AN):pY (.dct true ks vs)=if ks.length<=aA then some ks else none:=dj rfl
end
section
variable {w:World}{A:Around}{E:AA}{s:Shared}
def DRaw.keep(e:DRaw h d b c)(k:∀o,h.get? d=some o->h'.get? d=some o):DRaw h' d b c:=by
 obtain⟨o,a,r⟩:=e;exact⟨o,k o a,r⟩
def UQ{h h':Heap}(b:h.IsKeyIter a d i n c)(k:∀o,h.get? a=some o->h'.get? a=some o):h'.IsKeyIter a d i n c:=by
 obtain⟨o,e,r⟩:=b;exact⟨o,k o e,r⟩
theorem UR(q:A.handled=none)(I d:Addr)(c:d≠I)(a:Array DictEntry)(p:Nat):
 Walks prog w A I [I,d] [I] a.size (λi v=>∃k:i<a.size,v=a[i].key) (λi h=>h.IsKeyIter I d i a.size p/\DRaw h d a p) where
 sub:=λb n=>by symm
 frame:=λ_ _ _ st l=>⟨UQ st.1 λo e=>l I nofun o e,st.2.keep λo e=>l d nofun o e⟩
 item:=λi s Q E k st g=>Oj st.1 st.2 k λj f m=>g _ j _ ⟨k,rfl⟩ ⟨f,st.2.keep λo e=>(m.2 d c).trans e⟩ λb o n e=>(m.2 b ⋯).trans e
 done:=λs Q E st g=>Ol q st.1 st.2 (qv _) λj r=>g j _ λb o n e=>r b o ⋯ e
 self:=λi s Q E st h=>wpAny_pyIter_keyiter st.1 h
def F3(lo:(d==sysModules)=false):W.KdlSrc prog w "dict" d d f.size (λi v=>∃m:i<f.size,v=f[i].key) (λh=>DRaw h d f j) where
 type:=λ_ a=>a.typeIs
 there:=λ_ a=>⟨let ⟨_,c,_⟩:=a;ql c,let ⟨_,c,_⟩:=a;ql c⟩
 keep:=λ_ _ a k=>a.keep λo e=>k d (.inl rfl) o e
 notList:=by decide
 notTuple:=by decide
 hint:=λ_ _ _ _ a g=>W.kdl_hint_dict a.typeIs g
 iter:=λ_ s l a=>⟨_,_,λ_ _ g=>Oi lo a g,UR l _ d (by obtain⟨_,c,_⟩:=a;exact qm (ql c)) f j,⟨⟨_,qp _ rfl,rfl,rfl⟩,a.keep λo e=>qe _ e⟩⟩
def pZ:AM->Hp->VK->Prop:=λd H Q=>∃a b c e,d=[.ref a]/\H a=some (d_ a b c e)/\b.length=c.length/\b.length<=sizeLine/\∀l,H l=none->Q (.ref l) (upd H l (.lst (b.map λp=>.ref p.2)))
theorem US(D:X.calm=true):dO X (.type "list") pZ:=by
 intro v s J H K L Q I r h;obtain⟨a,b,w,N,rfl,t,o,B,q⟩:=h;obtain⟨u,rfl,E⟩:=ez r;cases E;obtain⟨k,F,z,m,j⟩:=vI I.hok t o;refine W.kdl_call (F3 k) (I.ok.hd D) z (by ext) λC O d c y e g=>?_
 have A:Vals (b.map λp=>.ref p.2) d.toList:=by
  have f:d.toList=b.map λp=>.ref p.2:=by
   refine List.ext_getElem? λi=>?_;by_cases G:i<F.size
   .have l:i<d.size:=by rwa [g.1]
    obtain⟨_,M⟩:=g.2 i _ (Array.getElem?_eq_getElem l)
    ext
   .rw[List.getElem?_eq_none (by rw[qj,g.1];ext),List.getElem?_eq_none (by ext)]
  rw[f];clear f j t o B m q
  induction b with
  | nil=>exact .nil
  | cons p b x=>exact .cons rfl x
 exact⟨.ref _,_,I.laid y (qv _) (show ObjOk _ X.w _ C _ (.lst _) from⟨by ext,d.toList,c,A,by simpa using e⟩),rfl,q _ (I.hok.fresh (qv _))⟩
def iG:AN->Option AN
 | [.dct true a _]=>if a.length<=aA then some a else none
 | _=>none
def F4:eN X.K pZ iG:=by
 intro t w l H G Q h s r q;unfold iG at h
 split at h
 case h_2=>cases h
 split at h
 case isFalse=>cases h
 rename_i c;cases h;obtain⟨v,rfl,i⟩:=fq r;obtain⟨a,o,e,rfl,n,g,i⟩:=i;rcases n with⟨z,_⟩|⟨_,d,j,p,k,u,rfl,x⟩
 .cases z
 have b:=g.length;simp at b;exact⟨a,d,e,j,rfl,p,k,by rw[b];exact gj c,λm f=>q m _ _ G (.hid s f _) f (s.free f) Yh g⟩
@[simp] theorem UT(ks vs:AN):iG [.dct true ks vs]=if ks.length<=aA then some ks else none:=dj rfl
end
theorem On:∀{c:AF}{d:AM}{b:List (bW×Value)}{a:List (bW×V)}{vs:List (bW×Value)},c.length=d.length->KV (zK c d) b->KV a vs->KV (fG a (c.zip d)) (merged vs b)
 | [],[],b,a,vs,_,h,r=>by
   cases h;exact r
 | m::c,x::d,b,a,vs,j,h,r=>by
   cases h with
   | cons g f=>
     rename_i q b;obtain⟨e,i⟩:=g;show KV (fG _ (c.zip d)) (merged (stored vs q.1 q.2) b);rw[e.symm];exact On (by ext) f (r.put _ i)
 | [],_::_,_,_,_,h,_,_=>by simp at h
 | _::_,[],_,_,_,h,_,_=>by simp at h
def F5:V->AM->Hp->VK->Prop:=λx e H Q=>∃(d o:Addr) (a:List _) (c:AF) (b:AM),x=.ref d/\e=[.ref o]/\d≠o/\H d=some (.dK a)/\H o=some (.dK (zK c b))/\c.length=b.length/\a.length+b.length<aA/\Q .non (upd H d (.dK (fG a (c.zip b))))
theorem F6:nR X "dict.update" F5:=by
 intro k s J H x S v O Q I D A h;obtain⟨d,o,g,i,c,rfl,rfl,f,m,C,p,L,q⟩:=h;cases D;obtain⟨u,rfl,z⟩:=ez A;cases z;obtain⟨K,lo1,B,n,r⟩:=I.hok d _ m;obtain⟨M,e,t,l,y⟩:=I.hok o _ C;have N:=n.length.symm
 have G:t.length=c.length:=by
  have:=l.length;rw[Cy _ _ p]at this;lia
 have j:aA=1000000:=rfl
 have E:(i.zip c).length=c.length:=by grind
 refine call_meetsIn PySem.F.slot_dict_update r.typeIs PySem.F.entry_dict_update (PySem.F.args_dict_update_2 _ _) (meets_dict_update _ d o f e) ⟨B,t,r,y,by rw[jf];ext<;>lia,λR b _ same=>?_⟩;have F:=CQ (i.zip c) g;refine⟨.non,_,nI I (by rw[m];exact .intro) same (let ⟨q,_,_,w,_⟩:=b;⟨q,w⟩) (zM (by rw[jf];lia) lo1 (On p l n) b),rfl,q⟩
theorem p_:∀{b:AF}{ds:AN}{a:AM},b.length=a.length->RpL K G ds a->DQ K G (b.zip ds) (b.zip a)
 | [],ds,a,c,r=>trivial
 | m::b,ds,a,c,r=>by
   cases a with
   | nil=>simp at c
   | cons x a=>
     cases ds with
     | nil=>
       cases r
     | cons d ds=>
       obtain⟨y,q,e,i,f⟩:=r;injection e with g h;subst g h;exact⟨⟨rfl,i⟩,p_ ⋯ f⟩
section
variable {e:Expr}{f:AU}
def iH(l:List D×AN):D->Option (List D×AN)
 | .dct false d a=>(intsD l.1).bind λb=>(intsD d).bind λc=>if l.2.length+a.length<aA then some ((aB b l.2 (c.zip a)).1.map .int,(aB b l.2 (c.zip a)).2)else none
 | _=>none
def gy(i:Nat)(f:AU):AR:=λa=>(fX i a).bind λl=>(f a).bind λd=>(iH l d).map λb=>.nx (a.set i (some (.od false b.1 b.2)))
theorem UU(i:Nat){t g c:Pos}(I:ZE X e f)(hN:X.N[i]?=some x:=by rfl)(hv:fS X.env.scope x:=by trivial)(hd:da x:=by decide)(E:gK x:=by decide)(A:swapsWith (.Call (.Attribute (.Name x t) "update" g) [e] [] c) none pos.line X.env=pure false:=by rfl)(hs:starEach [e] X.env=[(false,eval e X.env)]:=by rfl)(r:pa X c [e]:=by rfl)(p:(g.endLine==c.line)=true:=by rfl)(o:attributeBase (.Name x t) "update" X.env (eval (.Name x t) X.env)=eval (.Name x t) X.env:=by rfl):
 ZS X (.Expr (.Call (.Attribute (.Name x t) "update" g) [e] [] c) pos) (gy i f):=⟨have I:=I.un;
 PS.imp (tG (nQ PySem.F.plainAttrs_dict PySem.F.slot_dict_update PySem.F.type_dict_update F6 (g_ hN hv hd E) (fT I gM hs) o r p hs rfl) A) λF σ H w=>by
  obtain⟨ρ,out,H0,G0,G,e,s,h⟩:=w;obtain⟨l,h1,e⟩:=qa e;obtain⟨d,h2,e⟩:=qa e;obtain⟨l',k,rfl⟩:=qc e;unfold iH at k
  split at k
  case h_2=>cases k
  obtain⟨ns,O,k⟩:=qa k;obtain⟨ms,h5,k⟩:=qa k
  split at k
  case isFalse=>cases k
  cases k;have m:=Nn h1;obtain⟨a0,kx0,vx0,n,_,_,J,D,_⟩:=s.od i _ _ _ m;obtain⟨q1,_,_,_⟩:=gU O J D;refine⟨_,n,.inr (.inr (.inl ⟨rfl,.inl ⟨_,q1⟩⟩)),tOf.at h2 s λv H1 U g1 r1 u=>?_⟩;obtain⟨a,kxs,K,Q,hG,hH0,dc,rk,L⟩:=u.od i _ _ _ m;rw[n]at Q;cases Q;obtain⟨e1,Z,N,e4⟩:=gU O dc rk;obtain⟨b,kx2,y,rfl,C,B,q⟩:=r1;obtain⟨T,f2,M,f4⟩:=gU h5 C B;have hl1:=L.length;have hl2:=q.length;obtain⟨Y,S,k2,R,V⟩:=uE (p_ M q) Z N L
  exact⟨a0,b,zK ns K,ms,y,rfl,rfl,λz=>by grind,e1,u.seen _ _ T,M,by rw[Cy _ _ N];ext,h σ _ U (u.mutd m n (oQ (by rw[<-S];exact Yh) k2 R) (.ints _) V)⟩⟩
@[simp] theorem qb(i:Nat):gy i f ρ=(fX i ρ).bind λl=>(f ρ).bind λd=>(iH l d).map λa=>.nx (ρ.set i (some (.od false a.1 a.2))):=dj rfl
end
section
open Sem (wp)
end
structure UV(K:W7)(x:Str)(st:Stmt)(f:Addr)(fd:FuncData)(T:Addr):Prop where
 ex:∃(oc:Value) (od:Option Addr) (kV doc pm:Value) (an:Option Addr) (cdv ct:Value) (osl:Array (Option Value)),
  fd=W.fnOf x x (aDa st) (aCa st) (aAa st) (.ref T) kV doc pm an cdv ct/\K.lookup f=some ⟨oc,od,.func fd,osl⟩/\W.codeIn K cdv x=true
 kp:W.keepIn K (.ref f)=true
 df:∃(oc:Value) (od:Option Addr) (i:Int) (t n:Nat) (osl:Array (Option Value)),K.lookup T=some ⟨oc,od,.seq #[.int i t] n,osl⟩
structure kR(K:W7)(x:Str)(st:Stmt)(f:Addr)(fd:FuncData)(T:Addr)(t:Tok):Prop where
 ex:∃(oc:Value) (od:Option Addr) (kV doc pm:Value) (an:Option Addr) (cdv ct:Value) (osl:Array (Option Value)),
  fd=W.fnOf x x (aDa st) (aCa st) (aAa st) (.ref T) kV doc pm an cdv ct/\K.lookup f=some ⟨oc,od,.func fd,osl⟩/\W.codeIn K cdv x=true
 kp:W.keepIn K (.ref f)=true
 df:∃(oc:Value) (od:Option Addr) (n:Nat) (osl:Array (Option Value)),K.lookup T=some ⟨oc,od,.seq #[.int 0 t] n,osl⟩
def vJ(P:P7)(w:World)(K:W7)(mg:AD)(base:Heap)(k n:Nat)(x:Str)(ps:AJ)(fn:AN->Option D):Prop:=
 ∃a fd t,cB P w K mg base dY k a fd ps (dh K (n+1) fn)/\Binds K fd ps [.int 0 t]/\W.keepIn K (.ref a)=true/\mg x=some (.ref a)
section
variable {P:P7}{w:World}
theorem F7{x:Str}{st:Stmt}{f:Addr}{fd:FuncData}{T:Addr}{t:Tok}{N ps:AJ}{k n m:Nat}{fb:AR}(F:kR K x st f fd T t)(hg:mg x=some (.ref f))(S:gN N ps (aAa st))(hn:N.length=n)(hm:ps.length=m+1)(hbd:∀(kV doc pm:Value) (an:Option Addr) (cdv ct:Value) (us:AC),us.length=m->∃c:Option (Array Value)->Sem (List (Str×Value)),bindArgs (W.fnOf x x (aDa st) (aCa st) (aAa st) (.ref T) kV doc pm an cdv ct) ⟨us,[]⟩=seqItems? (.ref T)>>=c/\c (some #[.int 0 t])=pure (ps.zip (us++[.int 0 t])))(hb:∀(cdv:Value) (A:Around) (outer:List Env) (s:Shared) (H:Hp) (E:XK),Room k (A.deeper (envOfC x (aAa st) (~~~s) f cdv))->ZB (dz dY P w K mg base N x (aAa st) f cdv A outer s H E).nox (aCa st) fb):vJ P w K mg base (k+1) m x ps (ak (m+1) n fb):=by
 obtain⟨oc,od,kV,doc,pm,an,cdv,ct,osl,rfl,lk,hcd⟩:=F.ex;refine⟨f,_,t,nF lk hcd S (λvs H Q E h=>by rw[h.1,hm]) λA outer s H vs Q E hr h=>?_,λs us hK hl=>?_,F.kp,hg⟩
 .obtain⟨hl,ds,d,G,sm,r,e,q⟩:=h
  refine⟨_,((hb cdv A outer s H E hr).un).nox,?_⟩;unfold ak at e
  split at e
  .rename_i hds
   obtain⟨o,h1,h2⟩:=qa e;refine⟨Yd n ds,o,H,G,G,h1,by rw[<-hn];exact SR.start sm r,?_⟩
   cases o with
   | rt d'=>cases h2;exact λv H' G' g r'=>q v H' G' g r'
   | nx ρ=>cases h2;exact λσ' H' G' s'=>q .non H' G' s'.gr (by rw[Rp])
   | bk ρ=>cases h2
   | ct ρ=>cases h2
  .cases e
 .rw[hm,qz,ja]at hl
  obtain⟨_,_,_,_,ho⟩:=F.df;obtain⟨c,h1,h2⟩:=hbd kV doc pm an cdv ct us ∅;exact BindsTo.of_defaults (T:=T) rfl (hK _ _ ho) rfl h1 h2
end
def gD(ga:AV):AV:=λρ=>(ga ρ).map (·++[.int 0])
@[simp] theorem Oo(ga:AV)(ρ:Ro):gD ga ρ=(ga ρ).map (·++[.int 0]):=dj rfl
section
variable {e:Expr}
theorem F8{j k n:Nat}{x:Str}{p:Pos}{ps:AJ}{fn:AN->Option D}(c:vJ X.prog X.w X.K X.mg X.base j n x ps fn)(hr:Room k X.A)(hg:Gl X x)(ha:ZA X (e::es) ga)(hl:∀ρ l,ga ρ=some l->l.length=n)(hj:j<=k:=by first|exact qv _|ac_nf)(hdb:da x:=by decide)(he:aab X e es:=by rfl)(hpl:aac X pos es:=by rfl):ZE X (.Call (.Name x p) (e::es) [] pos) (cC (gD ga) fn):=by
 obtain⟨a,fd,t,F,hb,hk,hm⟩:=c;refine⟨PE.imp (L5 (E:=E0) F (hr.mono hj) hg hm hk hb (.cons ⟨t,rfl⟩ .nil:Vals [V.int 0] _) nT ha.un hdb he hpl) λσ H Q hx_=>?_⟩;obtain⟨ρ,d,H0,G0,G,e,s,h⟩:=hx_;unfold cC gD at e;obtain⟨l',h1,h2⟩:=qa e;obtain⟨l,h0,rfl⟩:=qc h1;refine tAof.at h0 s λvs H1 G1 g1 r1 s1=>?_;exact⟨by rw[qz,r1.length,hl ρ l h0];rfl,l++[.int 0],d,G1,s1.seen,r1.append (.cons (by rw[Rp]) .nil),h2,λv H' G' g2 r2=>h v H' G' (g1.trans g2) r2⟩
end
section
variable {e:Expr}{f:AU}
def eY(f:AU):AU:=λb=>((f b).bind bN).bind λa=>if a.length<aA then some (.dct false ((aB [] [] a).1.map .int) (aB [] [] a).2)else none
@[simp] theorem qq:eY f ρ=((f ρ).bind bN).bind λa=>if a.length<aA then some (.dct false ((aB [] [] a).1.map D.int) (aB [] [] a).2)else none:=dj rfl
end
section
variable {e:Expr}{f:AU}
theorem F9(B:X.calm=true){E b:Pos}(C:Gl X "dict")(w:X.mg "dict"=none)(j:ZC X e f)(g:aad X e:=by rfl)(n:(backTo b (starEach [] X.env)).any (·.1)=false:=by rfl):
 ZE X (.Call (.Name "dict" E) [e] [] b) (eY f):=⟨have j:=j.un;
 PE.imp (i4 (Nw B) C w (by decide +kernel) (i9 j i8 g) (by decide) (by decide) g n) λσ H Q k=>by
  obtain⟨i,V,P,S,G,e,s,h⟩:=k;obtain⟨Y,O,e⟩:=qa e;obtain⟨d,T,o⟩:=qa O
  split at e
  case isFalse=>cases e
  rename_i c;cases e;refine tCAof.at (show Yb f _ i=some [d] by ext) s λZ U R K y u=>?_;obtain⟨v,rfl,x⟩:=fq y
  cases d with
  | lst l=>
    obtain⟨a,D,rfl,J,I⟩:=x;obtain⟨r,L,t⟩:=CU u.seen (o) I;refine⟨a,D,r,rfl,.inl J,L,by rwa [t.length],λp M=>?_⟩;obtain⟨m,z,A,N,F⟩:=uE t List.nodup_nil rfl .nil;have q:=Gr.new u.seen M (.dK (fG [] r));exact h _ _ _ (K.trans q) (⟨p,(aB [] [] Y).1.map _,m,rfl,oQ (by rw[<-z];exact Yh) A N,.ints _,F.mono q.g⟩)
  | _=>cases o⟩
end
end M
namespace Lw
open PySem PySem.Spec PyProof.Rows L2 M
noncomputable def top(i:Nat):Stmt:=PySem.Challenge.pw_duskbook_k50_great_chains.main.body.getD i (.Pass ⟨0,0,0,0⟩)
noncomputable def gt_EXCHANGED_KINDS:List (Str×Str):=[((.ofString "eithers"),.ofString "eithers"),((.ofString "sums"),.ofString "sums"),((.ofString "ifs"),.ofString "nots"),((.ofString "nots"),.ofString "ifs")]
set_option maxHeartbeats 4000000
def Fq(K:W7)(c:AD)(x:Str)(i:Nat):Prop:=∃a d,Fun K x x (top i) a d/\c x=some (.ref a)
def Fk(K:W7)(x:Str)(i:Nat):Prop:=∃a c,W.nsIn K mainGlobals x=some (some (.ref a))/\Fun K x x (top i) a c
def Fk.on{K:W7}(F:Fk K x i)(X:K.In h)(G:h.Ns mainGlobals c):Fq K c x i:=by
 obtain⟨a,d,n,f⟩:=F;exact⟨a,d,f,W.mg_of X G n⟩
def fk_mk{K:W7}{kV e h d j:Value}(a:W.nsIn K mainGlobals x=some (some (.ref f)))(l:K.lookup f=some ⟨m,n,.func (W.fnOf x x (aDa (top i)) (aCa (top i)) (aAa (top i)) .none kV e h o d j),g⟩)(c:W.codeIn K d x=true)(k:W.keepIn K (.ref f)=true):Fk K x i:=⟨_,_,a,nU l c k⟩
def F_(K:W7)(mg:AD)(x:Str)(i:Nat):Prop:=∃a fd T t,kR K x (top i) a fd T t/\mg x=some (.ref a)
def FkD(K:W7)(x:Str)(i:Nat):Prop:=∃a fd T t,W.nsIn K mainGlobals x=some (some (.ref a))/\kR K x (top i) a fd T t
def FkD.on{K:W7}(F:FkD K x i)(X:K.In h)(G:h.Ns mainGlobals mg):F_ K mg x i:=by
 obtain⟨a,fd,T,t,n,f⟩:=F;exact⟨a,fd,T,t,f,W.mg_of X G n⟩
def fkd_mk{K:W7}{x:Str}{i:Nat}{f T:Addr}{oc oc':Value}{od od' an:Option Addr}{osl osl':Array (Option Value)}{kV doc pm cdv ct:Value}{t:Tok}{n:Nat}(a:W.nsIn K mainGlobals x=some (some (.ref f)))(l:K.lookup f=some ⟨oc,od,.func (W.fnOf x x (aDa (top i)) (aCa (top i)) (aAa (top i)) (.ref T) kV doc pm an cdv ct),osl⟩)(c:W.codeIn K cdv x=true)(k:W.keepIn K (.ref f)=true)(t:K.lookup T=some ⟨oc',od',.seq #[.int 0 t] n,osl'⟩):FkD K x i:=⟨_,_,_,_,a,⟨_,_,_,_,_,_,_,_,_,rfl,l,c⟩,k,_,_,_,_,t⟩
abbrev Fs(n i:Nat)(N:AJ):Prop:=gN N (N.take n) (aAa (top i))
noncomputable abbrev kq:Nat->NameKind
 | 0=>.local
 | 1=>.free
 | 2=>.globalImplicit
 | _=>.cell
abbrev Cs(A:AJ)(i:Nat)(L:AJ)(s:List AL)(n:List (Str×Nat)):Prop:=gg A (aAa (top i)) L s (lQ ((".0",.local)::n.map λp=>(p.1,kq p.2)))
def bA{A:AJ}{i:Nat}{L:AJ}{s:List AL}{n:List (Str×Nat)}(h:jW A (aAa (top i)) L s (lQ ((".0",.local)::n.map λp=>(p.1,kq p.2)))=true:=by decide +kernel):Cs A i L s n:=Mo h
theorem aI{N h:AJ}{i:Scope}(a:i.kind=.function:=by rfl)(b:i.isCoroutine=false:=by rfl)(c:i.isGenerator=false:=by rfl)(d:N.Nodup:=by decide +kernel)(e:N.take h.length=h:=by rfl)(f:∀x∈h,i.names.lookup x=some .local\/i.names.lookup x=some .cell:=by decide +kernel)(g:∀y∈i.names,y.2≠.free:=by decide +kernel):gN N h i:=⟨a,b,c,d,e,f,g⟩
def Oq(x:Str)(i:Nat)(h:AJ):Prop:=∀(kV a e:Value) (d:Option _) (c f:Value) (b:List _),b.length=h.length->bindArgs (W.fnOf x x (aDa (top i)) (aCa (top i)) (aAa (top i)) .none kV a e d c f) ⟨b,[]⟩=pure (h.zip b)
theorem cw{K:W7}{i k n m:Nat}(F:Fq K j x i)(S:gN N r (aAa (top i)))(t:∀{f:Addr}{e:Value}{A:Around}{c:List Env}{s:Shared}{H:Hp}{E:XK},Room k (A.deeper (envOfC x (aAa (top i)) (~~~s) f e))->ZB (dz dY P w K j d N x (aAa (top i)) f e A c s H E).nox (aCa (top i)) fb)(o:N.length=n:=by rfl)(l:r.length=m:=by rfl)(B:Oq x i r:=by and_intros):aC P w K j d (k+1) m x r (ak m n fb):=by
 obtain⟨a,q,f,h⟩:=F;exact BK f (f.binds B) h (NP f S o l λ_ _ _ _ _ _ p=>t p)
def Ga{K:W7}(F:F_ K mg "outcome" i)(S:gN N ["book","hands","start"] (aAa (top i)))(hb:∀{f:Addr}{cdv:Value}{A:Around}{outer:List Env}{s:Shared}{H:Hp}{E:XK},Room k (A.deeper (envOfC "outcome" (aAa (top i)) (~~~s) f cdv))->ZB (dz dY P w K mg base N "outcome" (aAa (top i)) f cdv A outer s H E).nox (aCa (top i)) fb)(hn:N.length=n:=by rfl)(hB:i=88:=by rfl):vJ P w K mg base (k+1) 2 "outcome" ["book","hands","start"] (ak 3 n fb):=by
 subst hB;obtain⟨a,fd,T,t,f,h⟩:=F;refine F7 f h S hn rfl (λ_ _ _ _ _ _ us hl=>?_) λ_ _ _ _ _ _ hr=>hb hr;obtain⟨_,_,rfl⟩:=iA hl;exact⟨_,rfl,rfl⟩
theorem iI{P:P7}{w:World}{K:W7}{d:AD}{b:Heap}{x:Str}{i m L:Nat}{ps:AJ}{mr:Nat->AN->Option D}(F:Fq K d x i)(h0:mr 0=λ_=>none)(hs:∀{k j:Nat},aC P w K d b k m x ps (mr j)->L<=k->aC P w K d b (k+1) m x ps (mr (j+1)))(g:ps.length=m:=by rfl)(B:Oq x i ps:=by and_intros):∀j,aC P w K d b (L+j) m x ps (mr j)
 | 0=>by
   obtain⟨a,l,f,h⟩:=F;rw[h0];exact BY f (f.binds B) h g
 | j+1=>hs (iI F h0 hs g B j) (Nat.le_add_right _ _)
def Os:∀ρ l,Yb a ae ρ=some l->l.length=1:=l5 λ_ _ h=>Bu h
def Ot:∀ρ l,Yb a (Yb b ae) ρ=some l->l.length=2:=l5 Os
def Ou:∀ρ l,Yb a (Yb c (Yb b ae)) ρ=some l->l.length=3:=l5 Ot
def Ov:∀ρ l,Yb a (Yb d (Yb b (Yb c ae))) ρ=some l->l.length=4:=l5 Ou
def Ow:∀ρ l,Yb a (Yb e (Yb b (Yb d (Yb c ae)))) ρ=some l->l.length=5:=l5 Ov
def UW:∀ρ l,Yb a (Yb f (Yb b (Yb d (Yb c (Yb e ae))))) ρ=some l->l.length=6:=l5 Ow
structure Bl(K:W7)(w:World)(mg:AD):Prop where
 Len:mg "len"=none
 Range:mg "range"=none
 List:mg "list"=none
 Tuple:mg "tuple"=none
 Int:mg "int"=none
 Bool:mg "bool"=none
 Str:mg "str"=none
 Sorted:mg "sorted"=none
 Any:mg "any"=none
 All:mg "all"=none
 Isinstance:mg "isinstance"=none
 Enumerate:mg "enumerate"=none
 Reversed:mg "reversed"=none
 Set:mg "set"=none
 Dict:mg "dict"=none
 g_EXCHANGED_KINDS:GD K w mg "EXCHANGED_KINDS" gt_EXCHANGED_KINDS
 f1:Fq K mg "contrary" 1
 f2:Fq K mg "led_to" 2
 f3:Fq K mg "is_road" 3
 f4:Fq K mg "traced" 4
 f5:Fq K mg "ways_from" 5
 f8:Fq K mg "exchanged_rule" 8
 f9:Fq K mg "exchanged" 9
 f11:Fq K mg "beacons_with" 11
 f12:Fq K mg "is_rising" 12
 f14:Fq K mg "both_added" 14
 f15:Fq K mg "added" 15
 f16:Fq K mg "pairs_added" 16
 f17:Fq K mg "cleared" 17
 f18:Fq K mg "reduced" 18
 f20:Fq K mg "either_holds" 20
 f21:Fq K mg "sum_holds" 21
 f22:Fq K mg "if_holds" 22
 f23:Fq K mg "rule_holds" 23
 f24:Fq K mg "broken_rules" 24
 f25:Fq K mg "holds" 25
 f26:Fq K mg "beacons_in" 26
 f27:Fq K mg "is_void" 27
 f28:Fq K mg "without" 28
 f30:Fq K mg "is_place" 30
 f31:Fq K mg "body_is_known" 31
 f32:Fq K mg "is_step" 32
 f33:Fq K mg "is_derivation" 33
 f34:Fq K mg "derived" 34
 f35:Fq K mg "step_to_more" 35
 f36:Fq K mg "derived_in_full" 36
 f38:Fq K mg "is_broken" 38
 f39:Fq K mg "lead_there_and_back" 39
 f40:Fq K mg "clash_good" 40
 f41:Fq K mg "cross_good" 41
 f42:Fq K mg "late_good" 42
 f43:Fq K mg "odd_good" 43
 f44:Fq K mg "first_ones" 44
 f45:Fq K mg "is_first_part" 45
 f46:Fq K mg "is_last_part" 46
 f47:Fq K mg "lone_good" 47
 f48:Fq K mg "either_paper_good" 48
 f49:Fq K mg "storm_good" 49
 f51:Fq K mg "sayings_of" 51
 f52:Fq K mg "lead_to_one_another" 52
 f53:Fq K mg "clash_found" 53
 f54:Fq K mg "cross_found" 54
 f55:Fq K mg "late_found" 55
 f56:Fq K mg "storms_paper" 56
 f57:Fq K mg "free_saying" 57
 f58:Fq K mg "truths_made" 58
 f59:Fq K mg "plan_row" 59
 f60:Fq K mg "either_outcome" 60
 f62:Fq K mg "rows_by_beacon" 62
 f63:Fq K mg "is_plan_row" 63
 f64:Fq K mg "come_to" 64
 f65:Fq K mg "either_is_kept" 65
 f66:Fq K mg "plan_good" 66
 f67:Fq K mg "is_sum_row" 67
 f68:Fq K mg "replaced" 68
 f69:Fq K mg "sums_good" 69
 f70:Fq K mg "are_some_of" 70
 f71:Fq K mg "ahead_of" 71
 f72:Fq K mg "is_row" 72
 f73:Fq K mg "holds_where_lit" 73
 f74:Fq K mg "rows_good" 74
 f75:Fq K mg "keeper_good" 75
 f77:Fq K mg "places_to_none" 77
 f78:Fq K mg "places_to_beacon" 78
 f79:Fq K mg "some_of" 79
 f80:Fq K mg "facts_beside" 80
 f81:Fq K mg "if_outcome" 81
 f83:Fq K mg "last_beacon" 83
 f84:Fq K mg "storms_places" 84
 f85:Fq K mg "sum_rows" 85
 f86:Fq K mg "sum_outcome" 86
 f88:F_ K mg "outcome" 88
 f90:Fq K mg "good" 90
 f92:Fq K mg "_law_cell" 92
 f93:Fq K mg "_law_mixed" 93
 f94:Fq K mg "_law_hands" 94
 f96:Fq K mg "_law_plain" 96
 f97:Fq K mg "_law_truths" 97
 f98:Fq K mg "_law_good" 98
 f99:Fq K mg "_law_order" 99
 f100:Fq K mg "_law_few" 100
 f101:Fq K mg "_law_chain" 101
section
variable {P:P7}{w:World}{K:W7}{mg:AD}{base:Heap}
def UX:Fs 1 1 ["saying"]:=aI
def Ox:AR:=ah (av (Yb (b2 (aa 0) (aaa 0) ai) (Yb (ij (b2 (aa 0) (aaa 1) ai)) ae)))
def fZ:AN->Option D:=ak 1 1 Ox
open Lean in
abbrev tUU:=TSyntax `Lean.Parser.Tactic.tacticSeq
open Lean in
def tVV(n:String):=mkIdent n.toName
open Lean in
def tA(h:Array Term)(s:List String):MacroM (Array tUU):=do
 let go (l:List String) (x:Term):MacroM tUU:=do
  let a <-l.tail.toArray.mapM λn=>if n=="q" then `(?_)else if n=="u" then `(_)else if n=="f" then `(λ_ _ _ _ _=>?_)else if n=="h" then pure x else pure (tVV n)
  `(tacticSeq| refine $(tVV l.head!) $a*)
 return (<-s.toArray.mapM λs=>do
  let l:=s.splitOn " "
  if l.contains "h" then h.mapM (go l)else return #[<-go l (<-`(_))]).flatten
set_option hygiene false in
open Lean in
local macro_rules | `(tactic| exists $xs,*)=>do
 let h:=xs.getElems
 let t <-("ZC/1 Name|Dz u/0 u|Dx q;ZA/0 u|Ef q q|Ee;ZE/3 lF|o_ q/4 gT|UD u q/4 oK|EM u q/4 pW|FO q q/1 Name|Dy u/1 Constant|DA|DE|DB|DC/1 Subscript|Eb q q|EF hr.units q q|EO hr.units q q|UF q q q|UB bl.g_EXCHANGED_KINDS rfl q/1 Call|F8 h hr rfl q q|NQ h hr rfl q q|Ej Sj Bv rfl bl.Len PySem.boot_len q|Ur Sl Bx rfl bl.Tuple boot_tuple q|Ej q B4 rfl bl.All boot_all q|Ej q B0 rfl bl.Any boot_any q|NQ rc hr rfl q q|F9 rfl rfl bl.Dict q|uL q rfl rfl bl.Isinstance bl.Tuple boot_tuple SV|UE hr.units q q q q|uL q rfl rfl bl.Isinstance bl.Bool boot_bool BQ|Uy rfl rfl bl.Tuple rfl bl.Reversed q|UM q q|uL q rfl rfl bl.Isinstance bl.Str boot_str BR|uL q rfl rfl bl.Isinstance bl.Int boot_int BP/1 Tuple|Eh q/1 Compare|DN hr.units q q|DS hr.units q q|DO hr.units q q|DJ q q|D9 q q|EG hr.units q q|D8 q q|DK q q|UC zm lZ jQ lZ q q q|ER hr.units q q|EW q q/1 UnaryOp|ED q|D6 q/1 BoolOp|D4 q q|D1 q|D5 q q|D2 q/1 BinOp|DI q q|EC q q|EV q q|DF q q|DH q q|E4 q q|DG q q/1 IfExp|D7 q q q/0 u|o_ q;ZB/0 u|Em q|El q q|Ek;ZS/4 wF|En u q/1 Return|Er q/1 If|Es q q q/1 Assign|EB u q h rfl q f f f q|Eo u q q|Ep u q q|ET u q|EU hr.units u q q|EX rfl u q rfl bl.Dict q|EL hr.units u q q q|EJ hr.units u q q|FW hr.units rfl u q rfl bl.Dict q|Uw u q q/1 For|Ey PassesOwn.never rfl q q q/1 Expr|Us u q|UU u q|UA u q|Uz u q q/1 While|Uv u PassesOwn.never q q/1 AugAssign|Et u q q;ZG/1 Name|Ew u q/1 Tuple|Ex u u rfl q;jo/0 u|Eg|Uq q q;ZI/0 u|Eu q|Ut rfl bl.Range q|Ux rfl bl.Enumerate q|Uu rfl bl.Range q|F0 q;ZF/1 ListComp|EA h rfl q f f f q/1 List|Ei q/1 Call|NO Sk Bw rfl bl.List boot_list q|NM S0 S3 rfl bl.Sorted boot_sorted q|UG rfl rfl bl.Sorted rfl bl.Set q|UH rfl rfl bl.Sorted rfl bl.Set q q|NM q TQ rfl bl.Sorted boot_sorted q|NO q F4 rfl bl.List boot_list q/1 BinOp|EE q q;ZT/4 ir|EN u q/1 Compare|DP hr.units q q|DR hr.units q q|Ea q q|DT hr.units q q|DL q q|D_ q q|DM q q|DU hr.units q q|EZ hr.units q q|EH hr.units q q|EI hr.units q q|EY hr.units q q|ES hr.units q q/1 UnaryOp|D0 q/0 u|DV q|E3 q;gw/0 u|Ez|E1 q;ZW/1 BoolOp|DY q q|DZ q q|DW q|DX q;ZO/0 u|Ec|Ed q".splitOn ";").toArray.mapM λj=>do
  let g:=j.splitOn "/"
  let J:=tVV g.head!
  let s <-g.tail.toArray.mapM λg=>do
   let r:=g.splitOn "|"
   let w:=r.head!.splitOn " "
   let c:=tVV w.tail.head!
   let k:=w.head!.toNat!
   let a <-tA h r.tail
   if k==0 then `(tacticSeq| first $[| $a]*)else if k==1 then `(tacticSeq| (with_reducible show $J _ (.$c ..) ..);first $[| $a]*)else
    let u <-(List.replicate (k-2) J).toArray.mapM λ_=>`(_)
    `(tacticSeq| (with_reducible show $J _ _ ($c $u*));first $[| $a]*)
  `(tacticSeq| (with_reducible show $J ..);first $[| $s]*)
 let r:Array Term:=("Ot Ou Os Ov Ow UW".splitOn " ").toArray.map λn=>tVV n
 let b <-tA h ("BG rfl|BH rfl rfl|S7 rfl|S6 rfl|TN rfl|US rfl".splitOn "|")
 `(tactic| ((try refine cw $(h[0]!) $(h[1]?.getD h[0]!) λhr=>?_);repeat' first $[| $t]* $[| with_reducible exact $r]* $[| exact($h).nd]* | exact⟨rfl,rfl,rfl,rfl⟩ $[| $b]* $[| exact $h]* | fail))
variable (bl:Bl K w mg)
def mz:aC P w K mg base 1 1 "contrary" ["saying"] fZ:=by
 exists bl.f1,UX
def Oy:Fs 2 2 ["book","saying","against","led","rule","others"]:=aI
def UY:Cs ["book","saying","against","led","rule","others"] 2 ["other","against"] [none,some 2] [("other",0),("against",1)]:=bA
def Gb:AT:=b2 (aa 0) (aa 1) (az true)
def Gc:AU:=ab 0
def qA:AR:=aP (b2 (aa 2) (aa 4) (cb false)) (ag (bc 5 (Yv (b1 (ab 4) Yc) [none,some 2] (aj 0) (Gb) (Gc))) (cM 3 (l4 (b1 (aa 5) aD) (b2 (aa 5) (aaa 0) ai) (ab 2)) bY)) au
@[simp] def Oz:AR:=(wF [3] (ah (ab 3)))
@[simp] def OA:AR:=ag (bf (b1 (b2 (aa 0) (aaa 1) ai) Yc) (aj 4) qA) Oz
@[simp] def OB:AR:=ag (bc 3 (bJ ae)) OA
def Gd:AR:=ag (ar 2 (cC (Yb (ab 1) ae) fZ)) OB
def qB:AN->Option D:=ak 2 6 Gd
def OC:aC P w K mg base 2 2 "led_to" ["book","saying"] qB:=by
 refine cw bl.f2 Oy λhr=>?_;unfold Gd OB OA Oz
 exists Oy,mz bl,UY
def UZ:Fs 2 3 ["book","road","place"]:=aI
def vK:AR:=(aP (b2 (b2 (aa 1) (aa 2) ai) (cC (Yb (ab 0) (Yb (b2 (aa 1) (b2 (aa 2) (aaa 1) h_) ai) ae)) qB) (cb true)) (ah (kD (.bl false))) au)
def Ge:AR:=(ag (bf (cF (Yb (aaa 1) (Yb (cC (Yb (aa 1) ae) bw) ae)) eS) (aj 2) vK) (ah (mB (b2 (cC (Yb (aa 1) ae) bw) (aaa 0) gP))))
def mC:AN->Option D:=ak 2 3 Ge
def OD:aC P w K mg base 3 2 "is_road" ["book","road"] mC:=by
 exists bl.f3,UZ,OC bl
def Gf:Fs 2 4 ["ahead","last","road","saying"]:=aI
def vL:AR:=ag (cM 2 (ab 3) bY) (ar 3 (b2 (aa 0) (aa 3) bU))
@[simp] def U1:AR:=ah (λa=>(kg (aa 2) a).map .tup)
@[simp] def U2:AR:=ag (dv (b2 (aa 3) (kD .non) (cj true)) vL 4000) U1
@[simp] def U3:AR:=ag (ar 3 (ab 1)) U2
def OE:AR:=ag (bc 2 (bJ ae)) U3
def ju:AN->Option D:=ak 2 4 OE
def Gg:aC P w K mg base 1 2 "traced" ["ahead","last"] ju:=by
 exists bl.f4,Gf
def OF:Fs 2 5 ["book","saying","ahead","reached","place","led"]:=aI
def mD:AR:=aP (b2 (aa 5) (aa 2) (c8 true)) (ag (iq 2 (aa 5) (b2 (aa 3) (aa 4) ai)) (cM 3 (ab 5) bY)) au
def qC:AR:=ag (bf (b1 (cC (Yb (ab 0) (Yb (b2 (aa 3) (aa 4) ai) ae)) qB) Yc) (aj 5) mD) (j7 4 (aaa 1))
@[simp] def vM:AR:=(wF [2] (ah (ab 2)))
@[simp] def OG:AR:=ag (dv (b2 (aa 4) (cC (Yb (aa 3) ae) bw) eP) qC 4000) vM
@[simp] def OH:AR:=ag (ar 4 (aaa 0)) OG
@[simp] def OI:AR:=ag (bc 3 (bJ (Yb (ab 1) ae))) OH
def Gh:AR:=ag (ko 2 (ab 1) (kD .non)) OI
def mE:AN->Option D:=ak 2 6 Gh
def U4:aC P w K mg base 3 2 "ways_from" ["book","saying"] mE:=by
 refine cw bl.f5 OF λhr=>?_;unfold Gh OI OH OG vM
 exists OF,OC bl
def U5:Fs 2 8 ["kind","rule"]:=aI
def U6:Cs ["kind","rule"] 8 ["saying"] [none] [("saying",0),("contrary",2)]:=bA
def Gi:AU:=cC (Yb (ab 0) ae) fZ
@[simp] def U7:AR:=ah (ab 1)
@[simp] def U8:AR:=ag (aP (b2 (aa 0) (kD (.str "sums")) (az false)) (ah (av (Yb (b2 (aa 1) (aaa 0) ai) (Yb (mB (b2 (b2 (aa 1) (aaa 1) ai) (mB (b2 (b2 (cC (Yb (b2 (aa 1) (aaa 0) ai) ae) bw) (aaa 2) bF) (aaa 1) (az false))) (az true))) ae)))) au) U7
def vN:AR:=ag (aP (b2 (aa 0) (kD (.str "eithers")) (az false)) (ah (cC (Yb (lF (cF (Yb (lF (Yv (b1 (ab 1) Yc) [none] (aj 0) tY (Gi))) ae) fV)) ae) cc)) au) U8
def vO:AN->Option D:=ak 2 2 vN
def U9:aC P w K mg base 2 2 "exchanged_rule" ["kind","rule"] vO:=by
 exists bl.f8,U5,U6,mz bl
def U_:Fs 1 9 ["book","kind"]:=aI
def Va:Cs ["book","kind"] 9 ["rule","kind"] [none,some 1] [("rule",0),("exchanged_rule",2),("kind",1)]:=bA
def Gj:AU:=cC (Yb (ab 1) (Yb (ab 0) ae)) vO
def OJ:AR:=ag (ar 1 (b2 (aa 0) (aaa 0) ai)) (ah (av (Yb (b1 (aa 1) (il gt_EXCHANGED_KINDS)) (Yb (cC (Yb (lF (Yv (b1 (b2 (aa 0) (aaa 1) ai) Yc) [none,some 1] (aj 0) tY (Gj))) ae) cc) ae))))
def iJ:AN->Option D:=ak 1 2 OJ
def Gk:aC P w K mg base 3 1 "exchanged" ["book"] iJ:=by
 exists bl.f9,U_,Va,U9 bl
def Vb:Fs 3 11 ["hands","start","hand"]:=aI
def Vc:Cs ["hands","start","hand"] 11 ["beacon","hands","hand"] [none,some 0,some 2] [("beacon",0),("hand",1),("hands",1)]:=bA
def Gm:AT:=b2 (b2 (aa 1) (aa 0) ai) (aa 2) (az false)
def Gn:AU:=ab 0
def OK:AR:=ah (lF (Yv (cF (Yb (ab 1) (Yb (cC (Yb (aa 0) ae) bw) ae)) eS) [none,some 0,some 2] (aj 0) (Gm) (Gn)))
def Yq:AN->Option D:=ak 3 3 OK
def qD:aC P w K mg base 1 3 "beacons_with" ["hands","start","hand"] Yq:=by
 exists bl.f11,Vb,Vc
def Vd:Fs 1 12 ["numbers"]:=aI
def OL:AR:=(ah (mB (b2 (lF (cF (Yb (aa 0) ae) eR)) (lF (uF (aa 0))) (az false))))
def mF:AN->Option D:=ak 1 1 OL
def Gp:aC P w K mg base 1 1 "is_rising" ["numbers"] mF:=by
 exists bl.f12,Vd
def Ve:Fs 2 14 ["rule","other"]:=aI
def OM:AR:=ah (av (Yb (cC (Yb (lF (uK (b2 (aa 0) (aaa 0) ai) (b2 (aa 1) (aaa 0) ai))) ae) cc) (Yb (mB (b2 (b2 (aa 0) (aaa 1) ai) (b2 (aa 1) (aaa 1) ai) (az true))) ae)))
def jv:AN->Option D:=ak 2 2 OM
def Gq:aC P w K mg base 1 2 "both_added" ["rule","other"] jv:=by
 exists bl.f14,Ve
def Gs:Fs 2 15 ["book","places","whole","place"]:=aI
def Gu:AR:=(ar 2 (cC (Yb (ab 2) (Yb (b2 (b2 (aa 0) (aaa 1) ai) (aa 3) ai) ae)) jv))
@[simp] def Gv:AR:=(ah (ab 2))
@[simp] def Gw:AR:=(ag (bf (b1 (ab 1) Yc) (aj 3) Gu) Gv)
def qE:AR:=(ag (ar 2 (av (Yb (av ae) (Yb (kD (.bl false)) ae)))) Gw)
def qF:AN->Option D:=ak 2 4 qE
def Gx:aC P w K mg base 2 2 "added" ["book","places"] qF:=by
 exists bl.f15,Gs,Gq bl
def Vf:Fs 2 16 ["pair","other"]:=aI
def ON:AR:=ah (av (Yb (cC (Yb (lF (uK (b2 (aa 0) (aaa 0) ai) (b2 (aa 1) (aaa 0) ai))) ae) cc) (Yb (cC (Yb (b2 (aa 0) (aaa 1) ai) (Yb (b2 (aa 1) (aaa 1) ai) ae)) jv) ae)))
def vP:AN->Option D:=ak 2 2 ON
def Vg:aC P w K mg base 2 2 "pairs_added" ["pair","other"] vP:=by
 exists bl.f16,Vf,Gq bl
def Vh:Fs 2 17 ["pair","by_last","left"]:=aI
def Gy:AR:=ar 2 (cC (Yb (ab 2) (Yb (b2 (aa 1) (b2 (b2 (b2 (aa 2) (aaa 1) ai) (aaa 0) ai) (b1 (aaa 1) bD) ai) cN) ae)) vP)
@[simp] def Vi:AR:=ah (ab 2)
@[simp] def Vj:AR:=ag (dv (bC (b1 (b2 (b2 (aa 2) (aaa 1) ai) (aaa 0) ai) aD) (b2 (b2 (b2 (b2 (aa 2) (aaa 1) ai) (aaa 0) ai) (b1 (aaa 1) bD) ai) (aa 1) (cO false))) Gy 4000) Vi
def OP:AR:=ag (ar 2 (ab 0)) Vj
def mG:AN->Option D:=ak 2 3 OP
def Vk:aC P w K mg base 3 2 "cleared" ["pair","by_last"] mG:=by
 exists bl.f17,Vh,Vg bl
def OQ:Fs 1 18 ["book","by_last","void","place","rule","pair","beacons"]:=aI
def Vl:Cs ["book","by_last","void","place","rule","pair","beacons"] 18 ["last","by_last"] [none,some 1] [("last",0),("by_last",1)]:=bA
def qG:AR:=ag (ar 5 (gT [1] (cC (Yb (av (Yb (av (Yb (ab 3) ae)) (Yb (ab 4) ae))) (Yb (ab 1) ae)) mG))) (ag (ar 6 (b2 (b2 (aa 5) (aaa 1) ai) (aaa 0) ai)) (aP (b1 (aa 6) aD) (oT 1 (b2 (aa 6) (b1 (aaa 1) bD) ai) (ab 5)) (aP (bC (b1 (b2 (b2 (aa 5) (aaa 1) ai) (aaa 1) ai) aD) (b2 (aa 2) (kD .non) (cj false))) (ar 2 (b2 (aa 5) (aaa 0) ai)) au)))
def Gz:AU:=b2 (aa 1) (aa 0) cN
@[simp] def GA:AR:=(wF [1] (ah (av (Yb (lF (Yv (b1 (lF (cF (Yb (aa 1) ae) ku)) Yc) [none,some 1] (aj 0) tY (Gz))) (Yb (ab 2) ae)))))
@[simp] def GB:AR:=ag (bf (b1 (b2 (aa 0) (aaa 1) ai) gn) (fU 3 4) qG) GA
@[simp] def GC:AR:=ag (ar 2 (kD .non)) GB
def GE:AR:=ag (ma 1) GC
def qH:AN->Option D:=ak 1 7 GE
def Vm:aC P w K mg base 4 1 "reduced" ["book"] qH:=by
 refine cw bl.f18 OQ λhr=>?_;unfold GE GC GB GA
 exists OQ,Vk bl,Vl
def Vn:Fs 2 20 ["rule","evening"]:=aI
def Vo:Cs ["rule","evening"] 20 ["saying","evening"] [none,some 1] [("saying",0),("evening",1)]:=bA
def GF:AU:=mB (b2 (b2 (aa 1) (b2 (aa 0) (aaa 0) ai) ai) (b2 (aa 0) (aaa 1) ai) (az false))
def OR:AR:=ah (cC (Yb (lF (Yv (b1 (ab 0) Yc) [none,some 1] (aj 0) tY (GF))) ae) eV)
def vQ:AN->Option D:=ak 2 2 OR
def Vp:aC P w K mg base 1 2 "either_holds" ["rule","evening"] vQ:=by
 exists bl.f20,Vn,Vo
def Vq:Fs 2 21 ["rule","evening","lit_ones"]:=aI
def Vr:Cs ["rule","evening","lit_ones"] 21 ["beacon","evening"] [none,some 1] [("beacon",0),("evening",1)]:=bA
def GH:AT:=b1 (b2 (aa 1) (aa 0) ai) aD
def GI:AU:=ab 0
def OS:AR:=ag (bc 2 (Yv (b1 (b2 (aa 0) (aaa 0) ai) Yc) [none,some 1] (aj 0) (GH) (GI))) (ah (mB (b2 (mB (b2 (b2 (cC (Yb (aa 2) ae) bw) (aaa 2) bF) (aaa 1) (az false))) (b2 (aa 0) (aaa 1) ai) (az false))))
def vR:AN->Option D:=ak 2 3 OS
def Vs:aC P w K mg base 1 2 "sum_holds" ["rule","evening"] vR:=by
 exists bl.f21,Vq,Vr
def Vt:Fs 3 22 ["rule","evening","lit"]:=aI
def Vu:Cs ["rule","evening","lit"] 22 ["beacon","evening","lit"] [none,some 1,some 2] [("beacon",0),("evening",1),("lit",1)]:=bA
def GJ:AU:=mB (b2 (b2 (aa 1) (aa 0) ai) (aa 2) (az true))
def vS:AR:=ag (aP (b1 (cC (Yb (lF (Yv (b1 (b2 (aa 0) (aaa 0) ai) Yc) [none,some 1,some 2] (aj 0) tY (GJ))) ae) eV) aD) (ah (kD (.bl true))) au) (ah (bO (mB (b2 (b2 (aa 0) (aaa 1) ai) (kD .non) (cj true))) (mB (b2 (b2 (aa 1) (b2 (aa 0) (aaa 1) ai) ai) (aa 2) (az false)))))
def vT:AN->Option D:=ak 3 3 vS
def Vv:aC P w K mg base 1 3 "if_holds" ["rule","evening","lit"] vT:=by
 exists bl.f22,Vt,Vu
def Vw:Fs 3 23 ["kind","rule","evening"]:=aI
@[simp] def Vx:AR:=ah (cC (Yb (ab 1) (Yb (ab 2) (Yb (mB (b2 (aa 0) (kD (.str "ifs")) (az false))) ae))) vT)
@[simp] def Vy:AR:=ag (aP (b2 (aa 0) (kD (.str "sums")) (az false)) (ah (cC (Yb (ab 1) (Yb (ab 2) ae)) vR)) au) Vx
def qI:AR:=ag (aP (b2 (aa 0) (kD (.str "eithers")) (az false)) (ah (cC (Yb (ab 1) (Yb (ab 2) ae)) vQ)) au) Vy
def qJ:AN->Option D:=ak 3 3 qI
def OT:aC P w K mg base 2 3 "rule_holds" ["kind","rule","evening"] qJ:=by
 exists bl.f23,Vw,Vp bl,Vs bl,Vv bl
def Vz:Fs 2 24 ["book","evening"]:=aI
def VA:Cs ["book","evening"] 24 ["place","rule","book","evening"] [none,none,some 0,some 1] [("place",0),("rule",0),("rule_holds",2),("book",1),("evening",1)]:=bA
def GK:AT:=bu (b1 (cC (Yb (b2 (aa 2) (aaa 0) ai) (Yb (ab 1) (Yb (ab 3) ae))) qJ) aD)
def GL:AU:=ab 0
def OU:AR:=ah (lF (Yv (b1 (b2 (aa 0) (aaa 1) ai) gn) [none,none,some 0,some 1] (fU 0 1) (GK) (GL)))
def vU:AN->Option D:=ak 2 2 OU
def VB:aC P w K mg base 3 2 "broken_rules" ["book","evening"] vU:=by
 exists bl.f24,Vz,VA,OT bl
def GM:Fs 2 25 ["book","evening"]:=aI
def qK:AR:=ah (mB (b2 (cC (Yb (cC (Yb (ab 0) (Yb (ab 1) ae)) vU) ae) bw) (aaa 0) (az false)))
def vV:AN->Option D:=ak 2 2 qK
def GN:aC P w K mg base 4 2 "holds" ["book","evening"] vV:=by
 exists bl.f25,GM,VB bl
def VC:Fs 2 26 ["kind","rule"]:=aI
def VD:Cs ["kind","rule"] 26 ["saying"] [none] [("saying",0)]:=bA
def GO:AU:=b2 (aa 0) (aaa 0) ai
@[simp] def VE:AR:=ah (lF (b2 (lF (cF (Yb (b2 (aa 1) (aaa 0) ai) ae) eR)) (lF (bJ (Yb (b2 (aa 1) (aaa 1) ai) ae))) cu))
@[simp] def VF:AR:=ag (aP (du (b2 (aa 0) (kD (.str "sums")) (az false)) (b2 (b2 (aa 1) (aaa 1) ai) (kD .non) (cj false))) (ah (lF (cF (Yb (b2 (aa 1) (aaa 0) ai) ae) eR))) au) VE
def vW:AR:=ag (aP (b2 (aa 0) (kD (.str "eithers")) (az false)) (ah (lF (Yv (b1 (ab 1) Yc) [none] (aj 0) tY (GO)))) au) VF
def vX:AN->Option D:=ak 2 2 vW
def VG:aC P w K mg base 1 2 "beacons_in" ["kind","rule"] vX:=by
 exists bl.f26,VC,VD
def VH:Fs 2 27 ["kind","rule"]:=aI
def GP:AR:=ah (bO (mB (b2 (cC (Yb (cC (Yb (ab 0) (Yb (ab 1) ae)) vX) ae) bw) (aaa 0) (az false))) (ij (cC (Yb (ab 0) (Yb (ab 1) (Yb (av ae) ae))) qJ)))
def qL:AN->Option D:=ak 2 2 GP
def OV:aC P w K mg base 3 2 "is_void" ["kind","rule"] qL:=by
 exists bl.f27,VH,VG bl,OT bl
def VI:Fs 2 28 ["beacons","beacon"]:=aI
def VJ:Cs ["beacons","beacon"] 28 ["other","beacon"] [none,some 1] [("other",0),("beacon",1)]:=bA
def qM:AT:=b2 (aa 0) (aa 1) (az true)
def qN:AU:=ab 0
def GQ:AR:=ah (cC (Yb (lF (Yv (b1 (ab 0) Yc) [none,some 1] (aj 0) (qM) (qN))) ae) cc)
def jw:AN->Option D:=ak 2 2 GQ
def GR:aC P w K mg base 1 2 "without" ["beacons","beacon"] jw:=by
 exists bl.f28,VI,VJ
def VL:Fs 2 30 ["book","place"]:=aI
def GS:AR:=ah (mB (uA (aaa 0) (aa 1) (cC (Yb (b2 (aa 0) (aaa 1) ai) ae) bw) MR eP))
def jx:AN->Option D:=ak 2 2 GS
def GT:aC P w K mg base 1 2 "is_place" ["book","place"] jx:=by
 exists bl.f30,VL
def VM:Fs 2 31 ["rule","known"]:=aI
def VN:Cs ["rule","known"] 31 ["beacon","known"] [none,some 1] [("beacon",0),("known",1)]:=bA
def mH:AU:=pW (mB (b2 (aa 0) (aa 1) (cb false))) (mB (b2 (aa 0) (aa 1) (dD false)))
def vY:AR:=ah (cC (Yb (lF (Yv (b1 (b2 (aa 0) (aaa 0) ai) Yc) [none,some 1] (aj 0) tY (mH))) ae) cm)
def jy:AN->Option D:=ak 2 2 vY
def GU:aC P w K mg base 1 2 "body_is_known" ["rule","known"] jy:=by
 refine cw bl.f31 VM λhr=>?_;unfold vY mH
 exists VN
def VO:Fs 3 32 ["book","known","place","rule"]:=aI
@[simp] def VP:AR:=ah (bO (mB (b2 (b2 (aa 3) (aaa 1) ai) (kD .non) (cj true))) (cC (Yb (ab 3) (Yb (ab 1) ae)) jy))
@[simp] def VQ:AR:=ag (ar 3 (b2 (b2 (aa 0) (aaa 1) ai) (aa 2) ai)) VP
def mI:AR:=ag (aP (bu (b1 (cC (Yb (ab 0) (Yb (ab 2) ae)) jx) aD)) (ah (kD (.bl false))) au) VQ
def kT:AN->Option D:=ak 3 4 mI
def OW:aC P w K mg base 2 3 "is_step" ["book","known","place"] kT:=by
 exists bl.f32,VO,GT bl,GU bl
def VR:Fs 3 33 ["book","facts","places","known","place"]:=aI
def mJ:AR:=(ag (aP (ir [3] (bu (b1 (cC (Yb (ab 0) (Yb (ab 3) (Yb (ab 4) ae))) kT) aD))) (ah (kD (.bl false))) au) (cM 3 (b2 (b2 (b2 (aa 0) (aaa 1) ai) (aa 4) ai) (aaa 1) ai) bY))
@[simp] def VS:AR:=(ah (kD (.bl true)))
@[simp] def VT:AR:=(ag (bf (b1 (ab 2) Yc) (aj 4) mJ) VS)
def GV:AR:=(ag (bc 3 (cF (Yb (aa 1) ae) eR)) VT)
def qO:AN->Option D:=ak 3 5 GV
def OX:aC P w K mg base 3 3 "is_derivation" ["book","facts","places"] qO:=by
 exists bl.f33,VR,OW bl
def VW:Fs 3 34 ["book","facts","places","heads"]:=aI
def VY:Cs ["book","facts","places","heads"] 34 ["place","book"] [none,some 0] [("place",0),("book",1)]:=bA
def GW:AU:=(b2 (b2 (b2 (aa 1) (aaa 1) ai) (aa 0) ai) (aaa 1) ai)
def OY:AR:=(ag (bc 3 (Yv (b1 (ab 2) Yc) [none,some 0] (aj 0) tY (GW))) (ah (lF (uF (lF (b2 (lF (cF (Yb (aa 1) ae) eR)) (aa 3) cu))))))
def vZ:AN->Option D:=ak 3 4 OY
def VZ:aC P w K mg base 1 3 "derived" ["book","facts","places"] vZ:=by
 exists bl.f34,VW,VY
def V0:Fs 2 35 ["book","known","place","rule"]:=aI
def mK:AR:=aP (bC (b2 (b2 (aa 3) (aaa 1) ai) (aa 1) (cO true)) (b1 (cC (Yb (ab 0) (Yb (ab 1) (Yb (ab 2) ae))) kT) aD)) (ah (ab 2)) au
def OZ:AR:=ag (bf (b1 (b2 (aa 0) (aaa 1) ai) gn) (fU 2 3) mK) (ah (kD .non))
def qP:AN->Option D:=ak 2 4 OZ
def V3:aC P w K mg base 3 2 "step_to_more" ["book","known"] qP:=by
 exists bl.f35,V0,OW bl
def V4:Fs 2 36 ["book","facts","known","places","place"]:=aI
def V5:Cs ["book","facts","known","places","place"] 36 ["fact"] [none] [("fact",0)]:=bA
def GX:AU:=av (Yb (ab 0) (Yb (kD (.bl true)) ae))
def v5:AR:=ag (cM 3 (ab 4) bY) (ag (oT 2 (b2 (b2 (b2 (aa 0) (aaa 1) ai) (aa 4) ai) (aaa 1) ai) (kD (.bl true))) (ar 4 (oK [2] (cC (Yb (ab 0) (Yb (ab 2) ae)) qP))))
@[simp] def V6:AR:=ah (av (Yb (lF (cF (Yb (aa 2) ae) ku)) (Yb (cC (Yb (aa 3) ae) cc) ae)))
@[simp] def V7:AR:=ag (dv (b2 (aa 4) (kD .non) (cj true)) v5 4000) V6
@[simp] def V8:AR:=ag (ar 4 (oK [2] (cC (Yb (ab 0) (Yb (ab 2) ae)) qP))) V7
@[simp] def V9:AR:=ag (bc 3 (bJ ae)) V8
def O0:AR:=ag (fH 2 (lF (Yv (b1 (ab 1) Yc) [none] (aj 0) tY (GX)))) V9
def kU:AN->Option D:=ak 2 5 O0
def V_:aC P w K mg base 4 2 "derived_in_full" ["book","facts"] kU:=by
 exists bl.f36,V4,V5,V3 bl
def Wa:Fs 1 38 ["book"]:=aI
def Wb:Cs ["book"] 38 ["rule","book"] [none,some 0] [("rule",0),("is_void",2),("book",1)]:=bA
def GY:AU:=cC (Yb (b2 (aa 1) (aaa 0) ai) (Yb (ab 0) ae)) qL
def O1:AR:=ah (cC (Yb (lF (Yv (b1 (b2 (aa 0) (aaa 1) ai) Yc) [none,some 0] (aj 0) tY (GY))) ae) eV)
def mL:AN->Option D:=ak 1 1 O1
def O2:aC P w K mg base 4 1 "is_broken" ["book"] mL:=by
 exists bl.f38,Wa,Wb,OV bl
def Wc:Fs 3 39 ["book","road","other"]:=aI
def qQ:AR:=(ag (aP (du (bu (b1 (cC (Yb (ab 0) (Yb (ab 1) ae)) mC) aD)) (bu (b1 (cC (Yb (ab 0) (Yb (ab 2) ae)) mC) aD))) (ah (kD (.bl false))) au) (ah (bO (mB (b2 (b2 (aa 1) (b1 (aaa 1) bD) ai) (b2 (aa 2) (aaa 0) ai) (az false))) (mB (b2 (b2 (aa 2) (b1 (aaa 1) bD) ai) (b2 (aa 1) (aaa 0) ai) (az false))))))
def Yx:AN->Option D:=ak 3 3 qQ
def O3:aC P w K mg base 4 3 "lead_there_and_back" ["book","road","other"] Yx:=by
 exists bl.f39,Wc,OD bl
def Wd:Fs 3 40 ["road","other","book"]:=aI
def O4:AR:=(ah (bO (cC (Yb (ab 2) (Yb (ab 0) (Yb (ab 1) ae))) Yx) (mB (b2 (b2 (aa 0) (b1 (aaa 1) bD) ai) (cC (Yb (b2 (aa 0) (aaa 0) ai) ae) fZ) (az false)))))
def v7:AN->Option D:=ak 3 3 O4
def We:aC P w K mg base 5 3 "clash_good" ["road","other","book"] v7:=by
 exists bl.f40,Wd,O3 bl,mz bl
def Wf:Fs 3 41 ["road","book","storms"]:=aI
def O5:AR:=(ag (aP (du (bu (b1 (cC (Yb (ab 1) (Yb (ab 0) ae)) mC) aD)) (b2 (b2 (aa 0) (aaa 0) ai) (b2 (aa 0) (b1 (aaa 1) bD) ai) (az false))) (ah (kD (.bl false))) au) (ah (bO (mB (b2 (b2 (b2 (aa 0) (aaa 0) ai) (aaa 0) ai) (aa 2) (cb false))) (mB (b2 (b2 (b2 (aa 0) (b1 (aaa 1) bD) ai) (aaa 0) ai) (aa 2) (cb false))))))
def v8:AN->Option D:=ak 3 3 O5
def Wg:aC P w K mg base 4 3 "cross_good" ["road","book","storms"] v8:=by
 exists bl.f41,Wf,OD bl
def Wh:Fs 5 42 ["road","other","book","keepers","storms"]:=aI
def O6:AR:=(ag (aP (bu (b1 (cC (Yb (ab 2) (Yb (ab 0) (Yb (ab 1) ae))) Yx) aD)) (ah (kD (.bl false))) au) (ah (bO (mB (b2 (b2 (b2 (aa 0) (aaa 0) ai) (aaa 0) ai) (aa 4) (cb false))) (bO (mB (b2 (b2 (b2 (aa 0) (b1 (aaa 1) bD) ai) (aaa 0) ai) (aa 3) (cb false))) (mB (b2 (b2 (b2 (aa 0) (b1 (aaa 1) bD) ai) (aaa 0) ai) (b2 (b2 (aa 0) (aaa 0) ai) (aaa 0) ai) eP))))))
def v9:AN->Option D:=ak 5 5 O6
def Wi:aC P w K mg base 5 5 "late_good" ["road","other","book","keepers","storms"] v9:=by
 exists bl.f42,Wh,O3 bl
def Wj:Fs 3 43 ["places","book","storms","whole"]:=aI
def Wl:Cs ["places","book","storms","whole"] 43 ["place","book"] [none,some 1] [("place",0),("is_place",2),("book",1)]:=bA
def GZ:AU:=(cC (Yb (ab 1) (Yb (ab 0) ae)) jx)
@[simp] def Wm:AR:=(ah (cC (Yb (b2 (aa 1) (aaa 0) ai) (Yb (ab 3) ae)) qL))
@[simp] def Wn:AR:=(ag (aP (b1 (b2 (aa 3) (aaa 0) ai) aD) (ah (mB (b2 (b2 (b2 (aa 3) (aaa 0) ai) (b1 (aaa 1) bD) ai) (aa 2) (cb false)))) au) Wm)
@[simp] def Wo:AR:=(ag (ar 3 (cC (Yb (ab 1) (Yb (ab 0) ae)) qF)) Wn)
def G6:AR:=(ag (aP (du (bu (b1 (cC (Yb (ab 0) ae) mF) aD)) (bu (b1 (cC (Yb (lF (Yv (b1 (ab 0) Yc) [none,some 1] (aj 0) tY (GZ))) ae) cm) aD))) (ah (kD (.bl false))) au) Wo)
def v_:AN->Option D:=ak 3 4 G6
def Wp:aC P w K mg base 4 3 "odd_good" ["places","book","storms"] v_:=by
 exists bl.f43,Wj,Gp bl,Wl,GT bl,Gx bl,OV bl
def O7:Fs 4 44 ["beacon","places","book","keepers","heads"]:=aI
def Wq:Cs ["beacon","places","book","keepers","heads"] 44 ["place","book"] [none,some 2] [("place",0),("book",1)]:=bA
def Wr:Cs ["beacon","places","book","keepers","heads"] 44 ["keeper","beacon","heads"] [none,some 0,some 4] [("keeper",0),("beacon",1),("heads",1)]:=bA
def G7:AU:=(b2 (b2 (b2 (aa 1) (aaa 1) ai) (aa 0) ai) (aaa 1) ai)
def G8:AT:=(bC (b2 (aa 0) (aa 1) eP) (b2 (aa 0) (aa 2) (cb false)))
def G9:AU:=(ab 0)
@[simp] def O8:AR:=(wF [4] (ah (lF (Yv (b1 (ab 3) Yc) [none,some 0,some 4] (aj 0) (G8) (G9)))))
@[simp] def O9:AR:=(ag (bc 4 (Yv (b1 (ab 1) Yc) [none,some 2] (aj 0) tY (G7))) O8)
def wA:AR:=(ag (aP (b2 (aa 0) (kD .non) (cj false)) (ah (lF (bJ ae))) au) O9)
def wB:AN->Option D:=ak 4 5 wA
def Ws:aC P w K mg base 1 4 "first_ones" ["beacon","places","book","keepers"] wB:=by
 refine cw bl.f44 O7 λhr=>?_;unfold wA O9 O8
 exists O7,Wq,Wr
def Wt:Fs 4 45 ["beacon","places","book","storms"]:=aI
def G_:AR:=(ag (aP (b2 (aa 0) (kD .non) (cj false)) (ah (mB (b2 (cC (Yb (aa 1) ae) bw) (aaa 0) (az false)))) au) (ah (bO (mB (b2 (aa 0) (aa 3) (cb false))) (cC (Yb (ab 2) (Yb (ab 3) (Yb (ab 1) ae))) qO))))
def wC:AN->Option D:=ak 4 4 G_
def Wu:aC P w K mg base 4 4 "is_first_part" ["beacon","places","book","storms"] wC:=by
 exists bl.f45,Wt,OX bl
def Wv:Fs 4 46 ["beacon","places","book","facts","rule","known"]:=aI
@[simp] def Ww:AR:=(ah (bO (cC (Yb (ab 4) (Yb (ab 5) ae)) jy) (mB (b2 (b2 (aa 4) (aaa 1) ai) (av (Yb (kD .non) (Yb (ab 0) ae))) (cb false)))))
@[simp] def Wx:AR:=(ag (ar 5 (cC (Yb (ab 2) (Yb (ab 3) (Yb (jm (aa 1) none (some (b1 (aaa 1) bD))) ae))) vZ)) Ww)
@[simp] def Wz:AR:=(ag (ar 4 (b2 (b2 (aa 2) (aaa 1) ai) (b2 (aa 1) (b1 (aaa 1) bD) ai) ai)) Wx)
def qR:AR:=(ag (aP (du (b2 (cC (Yb (aa 1) ae) bw) (aaa 0) (az false)) (du (bu (b1 (cC (Yb (ab 2) (Yb (b2 (aa 1) (b1 (aaa 1) bD) ai) ae)) jx) aD)) (bu (b1 (cC (Yb (ab 2) (Yb (ab 3) (Yb (jm (aa 1) none (some (b1 (aaa 1) bD))) ae))) qO) aD)))) (ah (kD (.bl false))) au) Wz)
def wD:AN->Option D:=ak 4 6 qR
def WA:aC P w K mg base 4 4 "is_last_part" ["beacon","places","book","facts"] wD:=by
 exists bl.f46,Wv,GT bl,OX bl,VZ bl,GU bl
def O_:Fs 4 47 ["paper","book","keepers","storms","beacon","facts"]:=aI
@[simp] def Pa:AR:=(wF [5] (ah (cC (Yb (ab 4) (Yb (b2 (aa 0) (aaa 3) ai) (Yb (ab 1) (Yb (ab 5) ae)))) wD)))
@[simp] def Pb:AR:=(ag (bc 5 (b2 (lF (cF (Yb (cC (Yb (ab 3) (Yb (ab 4) ae)) jw) ae) eR)) (cC (Yb (ab 4) (Yb (b2 (aa 0) (aaa 2) ai) (Yb (ab 1) (Yb (ab 2) ae)))) wB) cu)) Pa)
@[simp] def Pc:AR:=(ag (aP (bu (b1 (cC (Yb (ab 4) (Yb (b2 (aa 0) (aaa 2) ai) (Yb (ab 1) (Yb (ab 3) ae)))) wC) aD)) (ah (kD (.bl false))) au) Pb)
def wG:AR:=(ag (ar 4 (b2 (aa 0) (aaa 1) ai)) Pc)
def qS:AN->Option D:=ak 4 6 wG
def WB:aC P w K mg base 5 4 "lone_good" ["paper","book","keepers","storms"] qS:=by
 refine cw bl.f47 O_ λhr=>?_;unfold wG Pc Pb Pa
 exists O_,Wu bl,GR bl,Ws bl,WA bl
def WC:Fs 4 48 ["paper","book","keepers","storms"]:=aI
@[simp] def WD:AR:=(ah (kD (.bl false)))
@[simp] def WE:AR:=(ag (aP (b2 (b2 (aa 0) (aaa 0) ai) (kD (.str "late")) (az false)) (ah (cC (Yb (b2 (aa 0) (aaa 1) ai) (Yb (b2 (aa 0) (aaa 2) ai) (Yb (ab 1) (Yb (ab 2) (Yb (ab 3) ae))))) v9)) au) WD)
@[simp] def WG:AR:=(ag (aP (b2 (b2 (aa 0) (aaa 0) ai) (kD (.str "cross")) (az false)) (ah (cC (Yb (b2 (aa 0) (aaa 1) ai) (Yb (ab 1) (Yb (ab 3) ae))) v8)) au) WE)
def wH:AR:=(ag (aP (b2 (b2 (aa 0) (aaa 0) ai) (kD (.str "clash")) (az false)) (ah (cC (Yb (b2 (aa 0) (aaa 1) ai) (Yb (b2 (aa 0) (aaa 2) ai) (Yb (ab 1) ae))) v7)) au) WG)
def Yo:AN->Option D:=ak 4 4 wH
def WH:aC P w K mg base 6 4 "either_paper_good" ["paper","book","keepers","storms"] Yo:=by
 exists bl.f48,WC,We bl,Wg bl,Wi bl
def Pd:Fs 4 49 ["paper","book","hands","start","keepers","storms"]:=aI
def kW(rec:AN->Option D):AR:=(ag (aP (b2 (b2 (aa 1) (aaa 0) ai) (kD (.str "nots")) (az false)) (ah (cC (Yb (ab 0) (Yb (cC (Yb (ab 1) ae) iJ) (Yb (ab 2) (Yb (ab 3) ae)))) rec)) au) (ag (ar 4 (cC (Yb (ab 2) (Yb (ab 3) (Yb (kD (.str "keeper")) ae))) Yq)) (ag (ar 5 (cC (Yb (ab 2) (Yb (ab 3) (Yb (kD (.str "storm")) ae))) Yq)) (ag (aP (b2 (b2 (aa 0) (aaa 0) ai) (kD (.str "broken")) (az false)) (ah (cC (Yb (ab 1) ae) mL)) au) (ag (aP (b2 (b2 (aa 1) (aaa 0) ai) (kD (.str "eithers")) (az false)) (ah (cC (Yb (ab 0) (Yb (ab 1) (Yb (ab 4) (Yb (ab 5) ae)))) Yo)) au) (ag (aP (bC (b2 (b2 (aa 0) (aaa 0) ai) (kD (.str "odd")) (az false)) (b2 (b2 (aa 1) (aaa 0) ai) (kD (.str "sums")) (az false))) (ah (cC (Yb (b2 (aa 0) (aaa 1) ai) (Yb (ab 1) (Yb (ab 5) ae))) v_)) au) (ag (aP (bC (b2 (b2 (aa 0) (aaa 0) ai) (kD (.str "lone")) (az false)) (b2 (b2 (aa 1) (aaa 0) ai) (kD (.str "ifs")) (az false))) (ah (cC (Yb (ab 0) (Yb (ab 1) (Yb (ab 4) (Yb (ab 5) ae)))) qS)) au) (ah (kD (.bl false))))))))))
def Yp:Nat->AN->Option D
 | 0=>λ_=>none
 | k+1=>ak 4 6 (kW (Yp k))
def y2:AN->Option D:=Yp 12
def WI(bl:Bl K w mg){k j:Nat}(rc:aC P w K mg base k 4 "storm_good" ["paper","book","hands","start"] (Yp j))(hk:6<=k):aC P w K mg base (k+1) 4 "storm_good" ["paper","book","hands","start"] (Yp (j+1)):=by
 refine cw bl.f49 Pd λhr=>?_
 exists Gk bl,Pd,qD bl,O2 bl,WH bl,Wp bl,WB bl
def WJ:aC P w K mg base 18 4 "storm_good" ["paper","book","hands","start"] y2:=iI (L:=6) (mr:=Yp) bl.f49 rfl (WI bl) (j:=12)
def Pe:Fs 1 51 ["beacons","sayings","beacon"]:=aI
def Hc:AR:=cM 1 (lF (bJ (Yb (av (Yb (ab 2) (Yb (kD (.bl false)) ae))) (Yb (av (Yb (ab 2) (Yb (kD (.bl true)) ae))) ae)))) gu
@[simp] def Pf:AR:=(wF [1] (ah (ab 1)))
@[simp] def Pg:AR:=ag (bf (b1 (ab 0) Yc) (aj 2) Hc) Pf
def He:AR:=ag (bc 1 (bJ ae)) Pg
def y8:AN->Option D:=ak 1 3 He
def qT:aC P w K mg base 1 1 "sayings_of" ["beacons"] y8:=by
 refine cw bl.f51 Pe λhr=>?_;unfold He Pg Pf
 exists Pe
def WK:Fs 3 52 ["ways","saying","other"]:=aI
def Hf:AR:=ah (bO (mB (b2 (aa 2) (b2 (aa 0) (aa 1) bU) (c8 false))) (mB (b2 (aa 1) (b2 (aa 0) (aa 2) bU) (c8 false))))
def Yy:AN->Option D:=ak 3 3 Hf
def Hg:aC P w K mg base 1 3 "lead_to_one_another" ["ways","saying","other"] Yy:=by
 exists bl.f52,WK
def WL:Fs 1 53 ["ways","saying","other"]:=aI
def wI:AR:=ag (ar 2 (cC (Yb (ab 1) ae) fZ)) (aP (b1 (cC (Yb (ab 0) (Yb (ab 1) (Yb (ab 2) ae))) Yy) aD) (ah (av (Yb (kD (.str "clash")) (Yb (cC (Yb (b2 (aa 0) (aa 1) bU) (Yb (ab 2) ae)) ju) (Yb (cC (Yb (b2 (aa 0) (aa 2) bU) (Yb (ab 1) ae)) ju) ae))))) au)
def Hh:AR:=ag (bf (b1 (ab 0) pY) (aj 1) wI) (ah (kD .non))
def qU:AN->Option D:=ak 1 3 Hh
def WM:aC P w K mg base 2 1 "clash_found" ["ways"] qU:=by
 exists bl.f53,WL,mz bl,Hg bl,Gg bl
def WN:Fs 2 54 ["ways","storms","saying","other"]:=aI
def qV:AR:=aP (bC (b2 (aa 3) (aa 2) (az true)) (b2 (aa 3) (b2 (aa 0) (aa 2) bU) (c8 false))) (ah (av (Yb (kD (.str "cross")) (Yb (cC (Yb (b2 (aa 0) (aa 2) bU) (Yb (ab 3) ae)) ju) ae)))) au
def wJ:AR:=bf (b1 (cC (Yb (ab 1) ae) y8) Yc) (aj 3) qV
def Hi:AR:=ag (bf (b1 (cC (Yb (ab 1) ae) y8) Yc) (aj 2) wJ) (ah (kD .non))
def qW:AN->Option D:=ak 2 4 Hi
def WO:aC P w K mg base 2 2 "cross_found" ["ways","storms"] qW:=by
 exists bl.f54,WN,qT bl,Gg bl
def WQ:Fs 3 55 ["ways","keepers","storms","saying","other"]:=aI
def qX:AR:=aP (bC (b2 (b2 (aa 4) (aaa 0) ai) (b2 (aa 3) (aaa 0) ai) eP) (b1 (cC (Yb (ab 0) (Yb (ab 3) (Yb (ab 4) ae))) Yy) aD)) (ah (av (Yb (kD (.str "late")) (Yb (cC (Yb (b2 (aa 0) (aa 3) bU) (Yb (ab 4) ae)) ju) (Yb (cC (Yb (b2 (aa 0) (aa 4) bU) (Yb (ab 3) ae)) ju) ae))))) au
def wK:AR:=bf (b1 (cC (Yb (ab 1) ae) y8) Yc) (aj 4) qX
def Hj:AR:=ag (bf (b1 (cC (Yb (ab 2) ae) y8) Yc) (aj 3) wK) (ah (kD .non))
def qY:AN->Option D:=ak 3 5 Hj
def WR:aC P w K mg base 2 3 "late_found" ["ways","keepers","storms"] qY:=by
 exists bl.f55,WQ,qT bl,Hg bl,Gg bl
def WS:Fs 4 56 ["book","ways","keepers","storms","found","papers"]:=aI
def WT:Cs ["book","ways","keepers","storms","found","papers"] 56 ["paper"] [none] [("paper",0)]:=bA
def Yt:AT:=b2 (aa 0) (kD .non) (cj true)
def Yz:AU:=ab 0
@[simp] def WU:AR:=ah (l4 (b1 (aa 5) aD) (b2 (aa 5) (aaa 0) ai) (kD .non))
@[simp] def WV:AR:=ag (wF [4] (bc 5 (Yv (b1 (ab 4) Yc) [none] (aj 0) (Yt) (Yz)))) WU
@[simp] def WW:AR:=ag (bc 4 (bJ (Yb (cC (Yb (ab 1) ae) qU) (Yb (cC (Yb (ab 1) (Yb (ab 3) ae)) qW) (Yb (cC (Yb (ab 1) (Yb (ab 2) (Yb (ab 3) ae))) qY) ae))))) WV
def y0:AR:=ag (aP (b1 (cC (Yb (ab 0) ae) mL) aD) (ah (av (Yb (kD (.str "broken")) ae))) au) WW
def mM:AN->Option D:=ak 4 6 y0
def WX:aC P w K mg base 5 4 "storms_paper" ["book","ways","keepers","storms"] mM:=by
 exists bl.f56,WS,O2 bl,WM bl,WO bl,WR bl,WT
def WY:Fs 2 57 ["keeper","ways","dark"]:=aI
def Hk:AR:=ag (ar 2 (av (Yb (ab 0) (Yb (kD (.bl false)) ae)))) (ah (l4 (b2 (cC (Yb (ab 2) ae) fZ) (b2 (aa 1) (aa 2) bU) (c8 false)) (cC (Yb (ab 2) ae) fZ) (ab 2)))
def kX:AN->Option D:=ak 2 3 Hk
def WZ:aC P w K mg base 2 2 "free_saying" ["keeper","ways"] kX:=by
 exists bl.f57,WY,mz bl
def Ph:Fs 3 58 ["ways","keepers","storms","truths","saying","keeper"]:=aI
def Hm:AR:=gy 3 (eY (lF (cF (Yb (b2 (aa 0) (aa 4) bU) ae) iG)))
def wL:AR:=aP (b2 (aa 5) (aa 3) (dD true)) (gy 3 (eY (lF (cF (Yb (b2 (aa 0) (cC (Yb (ab 5) (Yb (ab 0) ae)) kX) bU) ae) iG)))) au
@[simp] def wM:AR:=(wF [3] (ah (ab 3)))
@[simp] def Pi:AR:=ag (bf (b1 (ab 1) Yc) (aj 5) wL) wM
@[simp] def Pj:AR:=ag (bf (b1 (cC (Yb (ab 2) ae) y8) Yc) (aj 4) Hm) Pi
def Hn:AR:=ag (ma 3) Pj
def wN:AN->Option D:=ak 3 6 Hn
def W0:aC P w K mg base 3 3 "truths_made" ["ways","keepers","storms"] wN:=by
 refine cw bl.f58 Ph λhr=>?_;unfold Hn Pj Pi wM
 exists Ph,qT bl,WZ bl
def W3:Fs 4 59 ["keeper","ways","storms","truths","saying"]:=aI
def wO:AR:=aP (b1 (cC (Yb (ab 1) (Yb (ab 4) (Yb (av (Yb (ab 0) (Yb (kD (.bl true)) ae))) ae))) Yy) aD) (ah (av (Yb (ab 0) (Yb (b2 (aa 4) (aaa 0) ai) (Yb (b2 (aa 4) (aaa 1) ai) ae))))) au
def Ho:AR:=ag (bf (b1 (cC (Yb (ab 2) ae) y8) Yc) (aj 4) wO) (ah (av (Yb (ab 0) (Yb (kD .non) (Yb (b2 (aa 3) (aa 0) cN) ae)))))
def qZ:AN->Option D:=ak 4 5 Ho
def W4:aC P w K mg base 2 4 "plan_row" ["keeper","ways","storms","truths"] qZ:=by
 exists bl.f59,W3,qT bl,Hg bl
def Pk:Fs 3 60 ["book","hands","start","keepers","storms","ways","paper","truths"]:=aI
def W5:Cs ["book","hands","start","keepers","storms","ways","paper","truths"] 60 ["saying","book"] [none,some 0] [("saying",0),("ways_from",2),("book",1)]:=bA
def W6:Cs ["book","hands","start","keepers","storms","ways","paper","truths"] 60 ["keeper","ways","storms","truths"] [none,some 5,some 4,some 7] [("keeper",0),("plan_row",2),("storms",1),("truths",1),("ways",1)]:=bA
def q0:AU:=av (Yb (ab 0) (Yb (cC (Yb (ab 1) (Yb (ab 0) ae)) mE) ae))
def Hq:AU:=cC (Yb (ab 0) (Yb (ab 1) (Yb (ab 2) (Yb (ab 3) ae)))) qZ
@[simp] def Pl:AR:=(wF [5] (ah (av (Yb (kD (.str "keeper")) (Yb (av (Yb (kD (.str "plan")) (Yb (cC (Yb (lF (Yv (b1 (ab 3) Yc) [none,some 5,some 4,some 7] (aj 0) tY (Hq))) ae) cc) ae))) ae)))))
@[simp] def Pm:AR:=ag (wF [5] (ar 7 (cC (Yb (ab 5) (Yb (ab 3) (Yb (ab 4) ae))) wN))) Pl
@[simp] def wQ:AR:=ag (aP (b2 (aa 6) (kD .non) (cj true)) (ah (av (Yb (kD (.str "storm")) (Yb (ab 6) ae)))) au) Pm
@[simp] def mN:AR:=ag (wF [5] (ar 6 (cC (Yb (ab 0) (Yb (ab 5) (Yb (ab 3) (Yb (ab 4) ae)))) mM))) wQ
@[simp] def Pn:AR:=ag (iF 5 (lF (Yv (b1 (cC (Yb (lF (b2 (aa 3) (aa 4) cu)) ae) y8) Yc) [none,some 0] (aj 0) tY (q0)))) mN
@[simp] def Po:AR:=ag (ar 4 (cC (Yb (ab 1) (Yb (ab 2) (Yb (kD (.str "storm")) ae))) Yq)) Pn
def wR:AR:=ag (ar 3 (cC (Yb (ab 1) (Yb (ab 2) (Yb (kD (.str "keeper")) ae))) Yq)) Po
def q_:AN->Option D:=ak 3 8 wR
def W8:aC P w K mg base 6 3 "either_outcome" ["book","hands","start"] q_:=by
 refine cw bl.f60 Pk λhr=>?_;unfold wR Po Pn mN wQ Pm Pl
 exists Pk,qD bl,W5,qT bl,U4 bl,WX bl,W0 bl,W6,W4 bl
def W9:Fs 1 62 ["rows"]:=aI
def W_:Cs ["rows"] 62 ["row"] [none] [("row",0)]:=bA
def Yw:AU:=(av (Yb (b2 (aa 0) (aaa 0) ai) (Yb (ab 0) ae)))
def Hr:AR:=(ah (eY (lF (Yv (b1 (ab 0) Yc) [none] (aj 0) tY (Yw)))))
def kY:AN->Option D:=ak 1 1 Hr
def Pp:aC P w K mg base 1 1 "rows_by_beacon" ["rows"] kY:=by
 exists bl.f62,W9,W_
def Xa:Fs 2 63 ["row","storms"]:=aI
def wU:AR:=(ah (ig (mB (b2 (b2 (aa 0) (aaa 1) ai) (kD .non) (cj false))) (bO (mB (b2 (b2 (aa 0) (aaa 1) ai) (aa 1) (cb false))) (mB (b2 (b2 (aa 0) (aaa 1) ai) (b2 (aa 0) (aaa 0) ai) eP)))))
def wV:AN->Option D:=ak 2 2 wU
def Xb:aC P w K mg base 1 2 "is_plan_row" ["row","storms"] wV:=by
 exists bl.f63,Xa
def Xc:Fs 2 64 ["saying","plan","row"]:=aI
@[simp] def Xd:AR:=(ah (av (Yb (b2 (aa 2) (aaa 1) ai) (Yb (mB (b2 (b2 (aa 0) (aaa 1) ai) (b2 (aa 2) (aaa 2) ai) (az false))) ae))))
@[simp] def Xe:AR:=(ag (ar 2 (b2 (aa 1) (b2 (aa 0) (aaa 0) ai) cN)) Xd)
def Hs:AR:=(ag (aP (b2 (b2 (aa 0) (aaa 0) ai) (aa 1) (cO true)) (ah (ab 0)) au) Xe)
def wW:AN->Option D:=ak 2 3 Hs
def Xf:aC P w K mg base 1 2 "come_to" ["saying","plan"] wW:=by
 exists bl.f64,Xc
def Xg:Fs 2 65 ["rule","plan","ends"]:=aI
def Xh:Cs ["rule","plan","ends"] 65 ["saying","plan"] [none,some 1] [("saying",0),("come_to",2),("plan",1)]:=bA
def Xi:Cs ["rule","plan","ends"] 65 ["end","ends"] [none,some 2] [("end",0),("contrary",2),("ends",1)]:=bA
def Ht:AU:=(cC (Yb (ab 0) (Yb (ab 1) ae)) wW)
def wX:AU:=(ig (mB (b2 (aa 0) (av (Yb (kD .non) (Yb (kD (.bl true)) ae))) (az false))) (mB (b2 (cC (Yb (ab 0) ae) fZ) (aa 1) (cb false))))
def Pq:AR:=(ag (bc 2 (Yv (b1 (ab 0) Yc) [none,some 1] (aj 0) tY (Ht))) (wF [2] (ah (cC (Yb (lF (Yv (b1 (ab 2) Yc) [none,some 2] (aj 0) tY (wX))) ae) eV))))
def wY:AN->Option D:=ak 2 3 Pq
def Xj:aC P w K mg base 2 2 "either_is_kept" ["rule","plan"] wY:=by
 exists bl.f65,Xg,Xh,Xf bl,Xi,mz bl
def Xk:Fs 4 66 ["rows","book","keepers","storms","plan"]:=aI
def Xl:Cs ["rows","book","keepers","storms","plan"] 66 ["row"] [none] [("row",0)]:=bA
def Xm:Cs ["rows","book","keepers","storms","plan"] 66 ["row","storms"] [none,some 3] [("row",0),("is_plan_row",2),("storms",1)]:=bA
def Xn:Cs ["rows","book","keepers","storms","plan"] 66 ["rule","plan"] [none,some 4] [("rule",0),("either_is_kept",2),("plan",1)]:=bA
def Hu:AU:=(b2 (aa 0) (aaa 0) ai)
def Hv:AU:=(cC (Yb (ab 0) (Yb (ab 1) ae)) wV)
def Hw:AU:=(cC (Yb (ab 0) (Yb (ab 1) ae)) wY)
@[simp] def Xo:AR:=(ah (cC (Yb (lF (Yv (b1 (b2 (aa 1) (aaa 1) ai) Yc) [none,some 4] (aj 0) tY (Hw))) ae) cm))
@[simp] def Xp:AR:=(ag (ar 4 (cC (Yb (ab 0) ae) kY)) Xo)
def wZ:AR:=(ag (aP (du (b2 (lF (Yv (b1 (ab 0) Yc) [none] (aj 0) tY (Hu))) (aa 2) (az true)) (bu (b1 (cC (Yb (lF (Yv (b1 (ab 0) Yc) [none,some 3] (aj 0) tY (Hv))) ae) cm) aD))) (ah (kD (.bl false))) au) Xp)
def w_:AN->Option D:=ak 4 5 wZ
def Xq:aC P w K mg base 3 4 "plan_good" ["rows","book","keepers","storms"] w_:=by
 exists bl.f66,Xk,Xl,Xm,Xb bl,Pp bl,Xn,Xj bl
def Xr:Fs 2 67 ["row","storms"]:=aI
def Xs:Cs ["row","storms"] 67 ["beacon","storms","row"] [none,some 1,some 0] [("beacon",0),("row",1),("storms",1)]:=bA
def xa:AU:=(bO (mB (b2 (aa 0) (aa 1) (cb false))) (mB (b2 (aa 0) (b2 (aa 2) (aaa 0) ai) eP)))
def Hx:AR:=(ah (bO (cC (Yb (b2 (aa 0) (aaa 1) ai) ae) mF) (cC (Yb (lF (Yv (b1 (b2 (aa 0) (aaa 1) ai) Yc) [none,some 1,some 0] (aj 0) tY (xa))) ae) cm)))
def xb:AN->Option D:=ak 2 2 Hx
def Xu:aC P w K mg base 2 2 "is_sum_row" ["row","storms"] xb:=by
 exists bl.f67,Xr,Gp bl,Xs
def Xv:Fs 2 68 ["rule","sums","whole","beacon","row"]:=aI
def Hy:AR:=ag (ar 4 (b3 (aa 1) (aa 3) (av (Yb (ab 3) (Yb (av (Yb (ab 3) ae)) (Yb (kD (.bl false)) ae)))) ji)) (ar 2 (cC (Yb (ab 2) (Yb (av (Yb (b2 (aa 4) (aaa 1) ai) (Yb (b2 (aa 4) (aaa 2) ai) ae))) ae)) jv))
@[simp] def Xw:AR:=ah (ab 2)
@[simp] def Xx:AR:=ag (bf (b1 (b2 (aa 0) (aaa 0) ai) Yc) (aj 3) Hy) Xw
def Pr:AR:=ag (ar 2 (av (Yb (av ae) (Yb (kD (.bl false)) ae)))) Xx
def mO:AN->Option D:=ak 2 5 Pr
def Pt:aC P w K mg base 2 2 "replaced" ["rule","sums"] mO:=by
 exists bl.f68,Xv,Gq bl
def Xy:Fs 4 69 ["rows","book","keepers","storms","sums"]:=aI
def Xz:Cs ["rows","book","keepers","storms","sums"] 69 ["row"] [none] [("row",0)]:=bA
def XA:Cs ["rows","book","keepers","storms","sums"] 69 ["row","storms"] [none,some 3] [("row",0),("is_sum_row",2),("storms",1)]:=bA
def XB:Cs ["rows","book","keepers","storms","sums"] 69 ["rule","sums"] [none,some 4] [("rule",0),("replaced",2),("sums",1)]:=bA
def Hz:AU:=(b2 (aa 0) (aaa 0) ai)
def HA:AU:=(cC (Yb (ab 0) (Yb (ab 1) ae)) xb)
def HB:AU:=(mB (b2 (cC (Yb (ab 0) (Yb (ab 1) ae)) mO) (av (Yb (av ae) (Yb (b2 (aa 0) (aaa 1) ai) ae))) (az false)))
@[simp] def XC:AR:=(ah (cC (Yb (lF (Yv (b1 (b2 (aa 1) (aaa 1) ai) Yc) [none,some 4] (aj 0) tY (HB))) ae) cm))
@[simp] def XD:AR:=(ag (ar 4 (cC (Yb (ab 0) ae) kY)) XC)
def xc:AR:=(ag (aP (du (b2 (lF (Yv (b1 (ab 0) Yc) [none] (aj 0) tY (Hz))) (aa 2) (az true)) (bu (b1 (cC (Yb (lF (Yv (b1 (ab 0) Yc) [none,some 3] (aj 0) tY (HA))) ae) cm) aD))) (ah (kD (.bl false))) au) XD)
def rd:AN->Option D:=ak 4 5 xc
def XE:aC P w K mg base 3 4 "sums_good" ["rows","book","keepers","storms"] rd:=by
 exists bl.f69,Xy,Xz,XA,Xu bl,Pp bl,XB,Pt bl
def XF:Fs 2 70 ["beacons","others"]:=aI
def XG:Cs ["beacons","others"] 70 ["beacon","others"] [none,some 1] [("beacon",0),("others",1)]:=bA
def HC:AU:=(mB (b2 (aa 0) (aa 1) (cb false)))
def HD:AR:=(ah (bO (cC (Yb (ab 0) ae) mF) (cC (Yb (lF (Yv (b1 (ab 0) Yc) [none,some 1] (aj 0) tY (HC))) ae) cm)))
def rh:AN->Option D:=ak 2 2 HD
def Pu:aC P w K mg base 2 2 "are_some_of" ["beacons","others"] rh:=by
 exists bl.f70,XF,Gp bl,XG
def XH:Fs 2 71 ["beacons","beacon"]:=aI
def XI:Cs ["beacons","beacon"] 71 ["other","beacon"] [none,some 1] [("other",0),("beacon",1)]:=bA
def HE:AT:=b2 (aa 0) (aa 1) eP
def HF:AU:=ab 0
def Pv:AR:=ah (lF (Yv (b1 (ab 0) Yc) [none,some 1] (aj 0) (HE) (HF)))
def mP:AN->Option D:=ak 2 2 Pv
def Pw:aC P w K mg base 1 2 "ahead_of" ["beacons","beacon"] mP:=by
 exists bl.f71,XH,XI
def HG:Fs 3 72 ["row","first","keepers"]:=aI
def HI:AR:=(ah (bO (cC (Yb (b2 (aa 0) (aaa 1) ai) (Yb (ab 2) ae)) rh) (mB (b2 (cC (Yb (b2 (aa 0) (aaa 1) ai) (Yb (b2 (aa 0) (aaa 0) ai) ae)) mP) (cC (Yb (ab 1) (Yb (b2 (aa 0) (aaa 0) ai) ae)) mP) (az false)))))
def xf:AN->Option D:=ak 3 3 HI
def HJ:aC P w K mg base 3 3 "is_row" ["row","first","keepers"] xf:=by
 exists bl.f72,HG,Pu bl,Pw bl
def XJ:Fs 3 73 ["book","lit","count"]:=aI
def XM:Cs ["book","lit","count"] 73 ["beacon","lit"] [none,some 1] [("beacon",0),("lit",1)]:=bA
def HK:AU:=(mB (b2 (aa 0) (aa 1) (cb false)))
def Px:AR:=(ah (cC (Yb (ab 0) (Yb (lF (Yv (cF (Yb (ab 2) ae) cU) [none,some 1] (aj 0) tY (HK))) ae)) vV))
def xg:AN->Option D:=ak 3 3 Px
def XO:aC P w K mg base 5 3 "holds_where_lit" ["book","lit","count"] xg:=by
 exists bl.f73,XJ,GN bl,XM
def Py:Fs 6 74 ["first","rows","book","keepers","storms","count","lit_ones"]:=aI
def XQ:Cs ["first","rows","book","keepers","storms","count","lit_ones"] 74 ["row"] [none] [("row",0)]:=bA
def XR:Cs ["first","rows","book","keepers","storms","count","lit_ones"] 74 ["row","first","keepers"] [none,some 0,some 3] [("row",0),("is_row",2),("first",1),("keepers",1)]:=bA
def XS:Cs ["first","rows","book","keepers","storms","count","lit_ones"] 74 ["row","storms"] [none,some 4] [("row",0),("list",2),("without",2),("storms",1)]:=bA
def XT:Cs ["first","rows","book","keepers","storms","count","lit_ones"] 74 ["lit","book","count"] [none,some 2,some 5] [("lit",0),("holds_where_lit",2),("book",1),("count",1)]:=bA
def HL:AU:=(b2 (aa 0) (aaa 0) ai)
def HM:AU:=(cC (Yb (ab 0) (Yb (ab 1) (Yb (ab 2) ae))) xf)
def HN:AU:=(lF (b2 (lF (cF (Yb (cC (Yb (ab 1) (Yb (b2 (aa 0) (aaa 0) ai) ae)) jw) ae) eR)) (lF (cF (Yb (b2 (aa 0) (aaa 1) ai) ae) eR)) cu))
def HP:AU:=(cC (Yb (ab 1) (Yb (ab 0) (Yb (ab 2) ae))) xg)
@[simp] def Pz:AR:=(wF [6] (ah (cC (Yb (lF (Yv (b1 (ab 6) Yc) [none,some 2,some 5] (aj 0) tY (HP))) ae) cm)))
@[simp] def PC:AR:=(ag (bc 6 (b2 (lF (bJ (Yb (lF (b2 (aa 4) (lF (cF (Yb (aa 0) ae) eR)) cu)) ae))) (lF (Yv (b1 (ab 1) Yc) [none,some 4] (aj 0) tY (HN))) cu)) Pz)
@[simp] def PD:AR:=(ag (aP (bu (b1 (cC (Yb (lF (Yv (b1 (ab 1) Yc) [none,some 0,some 3] (aj 0) tY (HM))) ae) cm) aD)) (ah (kD (.bl false))) au) PC)
def mQ:AR:=(ag (aP (du (bu (b1 (cC (Yb (ab 0) (Yb (ab 3) ae)) rh) aD)) (b2 (lF (Yv (b1 (ab 1) Yc) [none] (aj 0) tY (HL))) (aa 4) (az true))) (ah (kD (.bl false))) au) PD)
def xh:AN->Option D:=ak 6 7 mQ
def XU:aC P w K mg base 6 6 "rows_good" ["first","rows","book","keepers","storms","count"] xh:=by
 refine cw bl.f74 Py λhr=>?_;unfold mQ PD PC Pz
 exists Pu bl,XQ,XR,HJ bl,Py,XS,GR bl,XT,XO bl
def PF:Fs 4 75 ["paper","book","hands","start","keepers","storms"]:=aI
def rm(a:AN->Option D):AR:=(ag (aP (b2 (b2 (aa 1) (aaa 0) ai) (kD (.str "nots")) (az false)) (ah (cC (Yb (ab 0) (Yb (cC (Yb (ab 1) ae) iJ) (Yb (ab 2) (Yb (ab 3) ae)))) a)) au) (ag (ar 4 (cC (Yb (ab 2) (Yb (ab 3) (Yb (kD (.str "keeper")) ae))) Yq)) (ag (ar 5 (cC (Yb (ab 2) (Yb (ab 3) (Yb (kD (.str "storm")) ae))) Yq)) (ag (aP (bC (b2 (b2 (aa 0) (aaa 0) ai) (kD (.str "plan")) (az false)) (b2 (b2 (aa 1) (aaa 0) ai) (kD (.str "eithers")) (az false))) (ah (cC (Yb (b2 (aa 0) (aaa 1) ai) (Yb (ab 1) (Yb (ab 4) (Yb (ab 5) ae)))) w_)) au) (ag (aP (bC (b2 (b2 (aa 0) (aaa 0) ai) (kD (.str "sums")) (az false)) (b2 (b2 (aa 1) (aaa 0) ai) (kD (.str "sums")) (az false))) (ah (cC (Yb (b2 (aa 0) (aaa 1) ai) (Yb (ab 1) (Yb (ab 4) (Yb (ab 5) ae)))) rd)) au) (ag (aP (bC (b2 (b2 (aa 0) (aaa 0) ai) (kD (.str "rows")) (az false)) (b2 (b2 (aa 1) (aaa 0) ai) (kD (.str "ifs")) (az false))) (ah (cC (Yb (b2 (aa 0) (aaa 1) ai) (Yb (b2 (aa 0) (aaa 2) ai) (Yb (ab 1) (Yb (ab 4) (Yb (ab 5) (Yb (cC (Yb (aa 2) ae) bw) ae)))))) xh)) au) (ah (kD (.bl false)))))))))
def Ys:Nat->AN->Option D
 | 0=>λ_=>none
 | k+1=>ak 4 6 (rm (Ys k))
def iK:AN->Option D:=Ys 12
def XW(bl:Bl K w mg){k j:Nat}(rc:aC P w K mg base k 4 "keeper_good" ["paper","book","hands","start"] (Ys j))(hk:6<=k):aC P w K mg base (k+1) 4 "keeper_good" ["paper","book","hands","start"] (Ys (j+1)):=by
 refine cw bl.f75 PF λhr=>?_
 exists Gk bl,PF,qD bl,Xq bl,XE bl,XU bl
def XY:aC P w K mg base 18 4 "keeper_good" ["paper","book","hands","start"] iK:=iI (L:=6) (mr:=Ys) bl.f75 rfl (XW bl) (j:=12)
def XZ:Fs 2 77 ["book","full","place","rule"]:=aI
def rn:AR:=aP (bC (b2 (b2 (aa 3) (aaa 1) ai) (kD .non) (cj false)) (b1 (cC (Yb (ab 3) (Yb (b2 (aa 1) (aaa 0) ai) ae)) jy) aD)) (ah (b2 (b2 (aa 1) (aaa 1) ai) (av (Yb (ab 2) ae)) o9)) au
def PH:AR:=ag (bf (b1 (b2 (aa 0) (aaa 1) ai) gn) (fU 2 3) rn) (ah (kD .non))
def rq:AN->Option D:=ak 2 4 PH
def X3:aC P w K mg base 2 2 "places_to_none" ["book","full"] rq:=by
 exists bl.f77,XZ,GU bl
def X4:Fs 3 78 ["book","full","beacon","heads"]:=aI
def X5:Cs ["book","full","beacon","heads"] 78 ["place","book"] [none,some 0] [("place",0),("book",1)]:=bA
def HQ:AU:=b2 (b2 (b2 (aa 1) (aaa 1) ai) (aa 0) ai) (aaa 1) ai
@[simp] def X6:AR:=ah (jm (b2 (aa 1) (aaa 1) ai) none (some (b2 (b2 (aa 3) (ab 2) iE) (aaa 1) ef)))
@[simp] def X7:AR:=ag (aP (b2 (aa 2) (aa 3) (cb true)) (ah (kD .non)) au) X6
def HR:AR:=ag (bc 3 (Yv (b1 (b2 (aa 1) (aaa 1) ai) Yc) [none,some 0] (aj 0) tY (HQ))) X7
def mR:AN->Option D:=ak 3 4 HR
def X8:aC P w K mg base 1 3 "places_to_beacon" ["book","full","beacon"] mR:=by
 exists bl.f78,X4,X5
def X9:Fs 2 79 ["beacons","known"]:=aI
def X_:Cs ["beacons","known"] 79 ["beacon","known"] [none,some 1] [("beacon",0),("known",1)]:=bA
def HS:AT:=b2 (aa 0) (aa 1) (cb false)
def HU:AU:=ab 0
def PJ:AR:=ah (cC (Yb (lF (Yv (b1 (ab 0) Yc) [none,some 1] (aj 0) (HS) (HU))) ae) cc)
def ru:AN->Option D:=ak 2 2 PJ
def YA:aC P w K mg base 1 2 "some_of" ["beacons","known"] ru:=by
 exists bl.f79,X9,X_
def YB:Fs 3 80 ["beacon","storms","first"]:=aI
def PK:AR:=ah (lF (b2 (lF (cF (Yb (cC (Yb (ab 1) (Yb (ab 0) ae)) jw) ae) eR)) (cC (Yb (ab 2) (Yb (ab 0) ae)) mP) cu))
def xi:AN->Option D:=ak 3 3 PK
def YC:aC P w K mg base 2 3 "facts_beside" ["beacon","storms","first"] xi:=by
 exists bl.f80,YB,GR bl,Pw bl
def YD:Fs 3 81 ["book","hands","start","keepers","storms","whole","places","first","rows","beacon","full"]:=aI
def xj:AR:=ag (ar 10 (cC (Yb (ab 0) (Yb (cC (Yb (ab 9) (Yb (ab 4) (Yb (ab 7) ae))) xi) ae)) kU)) (ag (ar 6 (cC (Yb (ab 0) (Yb (ab 10) (Yb (ab 9) ae))) mR)) (ag (aP (b2 (aa 6) (kD .non) (cj true)) (ah (av (Yb (kD (.str "storm")) (Yb (av (Yb (kD (.str "lone")) (Yb (ab 9) (Yb (b2 (aa 5) (aaa 1) ai) (Yb (ab 6) ae))))) ae)))) au) (cM 8 (av (Yb (ab 9) (Yb (cC (Yb (ab 3) (Yb (b2 (aa 10) (aaa 0) ai) ae)) ru) ae))) bY)))
@[simp] def YE:AR:=ah (av (Yb (kD (.str "keeper")) (Yb (av (Yb (kD (.str "rows")) (Yb (ab 7) (Yb (cC (Yb (aa 8) ae) cc) ae)))) ae)))
@[simp] def HV:AR:=ag (bf (b1 (ab 4) Yc) (aj 9) xj) YE
@[simp] def YF:AR:=ag (bc 8 (bJ ae)) HV
@[simp] def YG:AR:=ag (ar 7 (cC (Yb (ab 3) (Yb (b2 (aa 5) (aaa 0) ai) ae)) ru)) YF
@[simp] def YH:AR:=ag (aP (b2 (aa 6) (kD .non) (cj true)) (ah (av (Yb (kD (.str "storm")) (Yb (av (Yb (kD (.str "lone")) (Yb (kD .non) (Yb (av ae) (Yb (ab 6) ae))))) ae)))) au) YG
@[simp] def YI:AR:=ag (ar 6 (cC (Yb (ab 0) (Yb (ab 5) ae)) rq)) YH
@[simp] def YJ:AR:=ag (ar 5 (cC (Yb (ab 0) (Yb (ab 4) ae)) kU)) YI
@[simp] def YK:AR:=ag (ar 4 (cC (Yb (ab 1) (Yb (ab 2) (Yb (kD (.str "storm")) ae))) Yq)) YJ
def xk:AR:=ag (ar 3 (cC (Yb (ab 1) (Yb (ab 2) (Yb (kD (.str "keeper")) ae))) Yq)) YK
def kZ:AN->Option D:=ak 3 11 xk
def YL:aC P w K mg base 5 3 "if_outcome" ["book","hands","start"] kZ:=by
 exists bl.f81,YD,qD bl,V_ bl,X3 bl,YA bl,YC bl,X8 bl
def YM:Fs 1 83 ["pair"]:=aI
def PL:AR:=ah (b2 (b2 (b2 (aa 0) (aaa 1) ai) (aaa 0) ai) (b1 (aaa 1) bD) ai)
def ry:AN->Option D:=ak 1 1 PL
def PM:aC P w K mg base 1 1 "last_beacon" ["pair"] ry:=by
 exists bl.f83,YM
def YN:Fs 3 84 ["pairs","void","storms","lost"]:=aI
def YO:Cs ["pairs","void","storms","lost"] 84 ["pair","storms"] [none,some 2] [("pair",0),("last_beacon",2),("storms",1)]:=bA
def HW:AT:=b2 (cC (Yb (ab 0) ae) ry) (aa 1) (cb false)
def PN:AU:=b2 (aa 0) (aaa 0) ai
@[simp] def YQ:AR:=ah (l4 (b1 (aa 3) aD) (b2 (aa 3) (aaa 0) ai) (kD .non))
@[simp] def YR:AR:=ag (bc 3 (Yv (b1 (ab 0) Yc) [none,some 2] (aj 0) (HW) (PN))) YQ
def HX:AR:=ag (aP (b2 (aa 1) (kD .non) (cj true)) (ah (ab 1)) au) YR
def mS:AN->Option D:=ak 3 4 HX
def YS:aC P w K mg base 2 3 "storms_places" ["pairs","void","storms"] mS:=by
 exists bl.f84,YN,YO,PM bl
def PQ:Fs 2 85 ["pairs","keepers","rules","rows","keeper","rule","rest"]:=aI
def YT:Cs ["pairs","keepers","rules","rows","keeper","rule","rest"] 85 ["pair"] [none] [("pair",0),("last_beacon",2)]:=bA
def YU:Cs ["pairs","keepers","rules","rows","keeper","rule","rest"] 85 ["keeper","rows"] [none,some 3] [("keeper",0),("rows",1)]:=bA
def rz:AU:=av (Yb (cC (Yb (ab 0) ae) ry) (Yb (b2 (aa 0) (aaa 1) ai) ae))
def xl:AR:=ag (ar 5 (b3 (aa 2) (aa 4) (av (Yb (av (Yb (ab 4) ae)) (Yb (kD (.bl false)) ae))) ji)) (ag (ar 6 (gT [3] (cC (Yb (av (Yb (jm (b2 (aa 5) (aaa 0) ai) none (some (b1 (aaa 1) bD))) (Yb (kD (.bl false)) ae))) (Yb (ab 3) ae)) mO))) (oT 3 (aa 4) (av (Yb (ab 4) (Yb (b2 (aa 6) (aaa 0) ai) (Yb (mB (b2 (b2 (aa 6) (aaa 1) ai) (b2 (aa 5) (aaa 1) ai) (az true))) ae))))))
def HY:AU:=b2 (aa 1) (aa 0) cN
@[simp] def rA:AR:=(wF [3] (ah (cC (Yb (lF (Yv (b1 (ab 1) Yc) [none,some 3] (aj 0) tY (HY))) ae) cc)))
@[simp] def PR:AR:=ag (bf (b1 (ab 1) Yc) (aj 4) xl) rA
@[simp] def PU:AR:=ag (ma 3) PR
def HZ:AR:=ag (fH 2 (lF (Yv (b1 (ab 0) Yc) [none] (aj 0) tY (rz)))) PU
def xm:AN->Option D:=ak 2 7 HZ
def YV:aC P w K mg base 3 2 "sum_rows" ["pairs","keepers"] xm:=by
 refine cw bl.f85 PQ λhr=>?_;unfold HZ PU PR rA
 exists PQ,YT,PM bl,Pt bl,YU
def YW:Fs 3 86 ["book","hands","start","keepers","storms","answer","places"]:=aI
@[simp] def YX:AR:=ah (av (Yb (kD (.str "keeper")) (Yb (av (Yb (kD (.str "sums")) (Yb (cC (Yb (b2 (aa 5) (aaa 0) ai) (Yb (ab 3) ae)) xm) ae))) ae)))
@[simp] def YY:AR:=ag (aP (b2 (aa 6) (kD .non) (cj true)) (ah (av (Yb (kD (.str "storm")) (Yb (av (Yb (kD (.str "odd")) (Yb (ab 6) ae))) ae)))) au) YX
@[simp] def YZ:AR:=ag (ar 6 (cC (Yb (b2 (aa 5) (aaa 0) ai) (Yb (b2 (aa 5) (aaa 1) ai) (Yb (ab 4) ae))) mS)) YY
@[simp] def Y0:AR:=ag (ar 5 (cC (Yb (ab 0) ae) qH)) YZ
@[simp] def Y1:AR:=ag (ar 4 (cC (Yb (ab 1) (Yb (ab 2) (Yb (kD (.str "storm")) ae))) Yq)) Y0
def H_:AR:=ag (ar 3 (cC (Yb (ab 1) (Yb (ab 2) (Yb (kD (.str "keeper")) ae))) Yq)) Y1
def mT:AN->Option D:=ak 3 7 H_
def Y2:aC P w K mg base 5 3 "sum_outcome" ["book","hands","start"] mT:=by
 exists bl.f86,YW,qD bl,Vm bl,YS bl,YV bl
def Y3:Fs 3 88 ["book","hands","start"]:=aI
@[simp] def Y4:AR:=ah (cC (Yb (ab 0) (Yb (ab 1) (Yb (ab 2) ae))) kZ)
@[simp] def Y5:AR:=ag (aP (b2 (b2 (aa 0) (aaa 0) ai) (kD (.str "nots")) (az false)) (ah (cC (Yb (cC (Yb (ab 0) ae) iJ) (Yb (ab 1) (Yb (ab 2) ae))) kZ)) au) Y4
@[simp] def Y6:AR:=ag (aP (b2 (b2 (aa 0) (aaa 0) ai) (kD (.str "sums")) (az false)) (ah (cC (Yb (ab 0) (Yb (ab 1) (Yb (ab 2) ae))) mT)) au) Y5
def k7:AR:=ag (aP (b2 (b2 (aa 0) (aaa 0) ai) (kD (.str "eithers")) (az false)) (ah (cC (Yb (ab 0) (Yb (ab 1) (Yb (ab 2) ae))) q_)) au) Y6
def k8:AN->Option D:=ak 3 3 k7
def Y7:vJ P w K mg base 7 2 "outcome" ["book","hands","start"] k8:=by
 refine Ga bl.f88 Y3 λhr=>?_
 exists W8 bl,Y2 bl,YL bl,Gk bl
def Ia:Fs 5 90 ["paper","book","hands","start","hand"]:=aI
def k9:AR:=(ag (aP (b2 (aa 4) (kD (.str "keeper")) (az false)) (ah (cC (Yb (ab 0) (Yb (ab 1) (Yb (ab 2) (Yb (ab 3) ae)))) iK)) au) (ah (cC (Yb (ab 0) (Yb (ab 1) (Yb (ab 2) (Yb (ab 3) ae)))) y2)))
def mU:AN->Option D:=ak 5 5 k9
def Ib:aC P w K mg base 19 5 "good" ["paper","book","hands","start","hand"] mU:=by
 exists bl.f90,Ia,XY bl,WJ bl
def Y8:Fs 2 92 ["script","k"]:=aI
def Ic:AR:=ag (aP (b2 (aa 1) (cC (Yb (aa 0) ae) bw) eP) (ah (b2 (aa 0) (aa 1) ai)) au) (ah (aaa 0))
def iL:AN->Option D:=ak 2 2 Ic
def PX:aC P w K mg base 1 2 "_law_cell" ["script","k"] iL:=by
 exists bl.f92,Y8
def Y9:Fs 2 93 ["cell","by"]:=aI
def PY:AR:=ah (b2 (b2 (b2 (aa 0) (aaa 2305843009213693951) bF) (aa 1) gi) (aaa 2305843009213693951) bF)
def k_:AN->Option D:=ak 2 2 PY
def Ie:aC P w K mg base 1 2 "_law_mixed" ["cell","by"] k_:=by
 exists bl.f93,Y9
def Y_:Fs 2 94 ["cell","many","left"]:=aI
def Za:Cs ["cell","many","left"] 94 ["k","left"] [none,some 2] [("k",0),("left",1)]:=bA
def xn:AU:=b2 (lF (bJ (Yb (kD (.str "keeper")) (Yb (kD (.str "storm")) ae)))) (b2 (b2 (aa 1) (aa 0) dQ) (aaa 2) bF) ai
def PZ:AR:=ag (ar 2 (cC (Yb (ab 0) (Yb (aaa 1442695040888963407) ae)) k_)) (ah (cC (Yb (lF (Yv (cF (Yb (ab 1) ae) cU) [none,some 2] (aj 0) tY (xn))) ae) cc))
def xo:AN->Option D:=ak 2 3 PZ
def Zb:aC P w K mg base 2 2 "_law_hands" ["cell","many"] xo:=by
 exists bl.f94,Y_,Ie bl,Za
def Zc:Fs 1 96 ["part"]:=aI
def Zd:Cs ["part"] 96 ["one"] [none] [("one",0),("_law_plain",2)]:=bA
def Ig(rec:AN->Option D):AU:=(cC (Yb (ab 0) ae) rec)
def mV(rec:AN->Option D):AR:=(ag (aP (b1 (mB (b1 (aa 0) (bZ "tuple"))) aD) (ah (cC (Yb (lF (Yv (b1 (ab 0) Yc) [none] (aj 0) tY (Ig rec))) ae) cm)) au) (ah (ig (mB (b2 (aa 0) (kD .non) (cj false))) (ig (mB (b1 (aa 0) (bZ "str"))) (mB (b1 (aa 0) (bZ "int")))))))
def Yj:Nat->AN->Option D
 | 0=>λ_=>none
 | k+1=>ak 1 1 (mV (Yj k))
def gz:AN->Option D:=Yj 12
def Ze(bl:Bl K w mg){k j:Nat}(rc:aC P w K mg base k 1 "_law_plain" ["part"] (Yj j))(hk:0<=k):aC P w K mg base (k+1) 1 "_law_plain" ["part"] (Yj (j+1)):=by
 refine cw bl.f96 Zc λhr=>?_
 exists Zd
def Zf:aC P w K mg base 12 1 "_law_plain" ["part"] gz:=iI (L:=0) (mr:=Yj) bl.f96 rfl (Ze bl) (j:=12)
def Zg:Fs 1 97 ["paper"]:=aI
def Zh:Cs ["paper"] 97 ["row"] [none] [("row",0),("isinstance",2),("bool",2)]:=bA
def Zi:Cs ["paper"] 97 ["road"] [none] [("road",0),("all",2)]:=bA
def Zj(env:Env)(h:env.scope=aAa (top 97)):relabel (lQ [(".0",.local),("road",.local),("all",.globalImplicit)]) env=(lQ [(".0",.local),("road",.local),("all",.globalImplicit)]):=by unfold relabel Env.kindOf;rw[h];rfl
def Zk:(["saying"]:AJ).Nodup:=by decide +kernel
def Zl(env:Env)(h:env.scope=aAa (top 97)):gg ["road"] (relabel (lQ [(".0",.local),("road",.local),("all",.globalImplicit)]) env) ["saying"] [none] (lQ [(".0",.local),("saying",.local),("isinstance",.globalImplicit),("bool",.globalImplicit)]):=by rw[Zj env h];exact Mo (by decide +kernel)
def rB:AU:=(mB (b1 (b2 (aa 0) (aaa 2) ai) (bZ "bool")))
def Ih:AU:=(mB (b1 (b2 (aa 0) (aaa 1) ai) (bZ "bool")))
def Ii:AU:=(cC (Yb (lF (Yv (b1 (ab 0) Yc) [none] (aj 0) tY (Ih))) ae) cm)
@[simp] def Zm:AR:=(ah (kD (.bl true)))
@[simp] def Zn:AR:=(ag (aP (b2 (b2 (aa 0) (aaa 0) ai) (lF (bJ (Yb (kD (.str "clash")) (Yb (kD (.str "cross")) (Yb (kD (.str "late")) ae))))) (cb false)) (ah (cC (Yb (lF (Yv (b1 (jm (aa 0) (some (aaa 1)) none) Yc) [none] (aj 0) tY (Ii))) ae) cm)) au) Zm)
def jz:AR:=(ag (aP (du (b2 (b2 (aa 0) (aaa 0) ai) (kD (.str "plan")) (az false)) (b2 (b2 (aa 0) (aaa 0) ai) (kD (.str "sums")) (az false))) (ah (cC (Yb (lF (Yv (b1 (b2 (aa 0) (aaa 1) ai) Yc) [none] (aj 0) tY (rB))) ae) cm)) au) Zn)
def Ym:AN->Option D:=ak 1 1 jz
def Zo:aC P w K mg base 1 1 "_law_truths" ["paper"] Ym:=by
 exists bl.f97,Zg,Zh,Zi,Zl _ rfl,Zk
def Zp:Fs 4 98 ["found","book","hands","start"]:=aI
@[simp] def Zq:AR:=(ah (mB (b2 (cC (Yb (b2 (aa 0) (aaa 1) ai) (Yb (ab 1) (Yb (ab 2) (Yb (ab 3) (Yb (b2 (aa 0) (aaa 0) ai) ae))))) mU) (kD (.bl true)) (oW false))))
@[simp] def Zr:AR:=(ag (aP (du (bC (b2 (b2 (aa 0) (aaa 0) ai) (kD (.str "keeper")) (az true)) (b2 (b2 (aa 0) (aaa 0) ai) (kD (.str "storm")) (az true))) (du (bu (b1 (cC (Yb (b2 (aa 0) (aaa 1) ai) ae) gz) aD)) (bu (b1 (cC (Yb (b2 (aa 0) (aaa 1) ai) ae) Ym) aD)))) (ah (kD (.bl false))) au) Zq)
def Ij:AR:=(ag (aP (du (bu (b1 (mB (b1 (aa 0) (bZ "tuple"))) aD)) (du (b2 (cC (Yb (aa 0) ae) bw) (aaa 2) (az true)) (bu (b1 (mB (b1 (b2 (aa 0) (aaa 1) ai) (bZ "tuple"))) aD)))) (ah (kD (.bl false))) au) Zr)
def iM:AN->Option D:=ak 4 4 Ij
def Zs:aC P w K mg base 20 4 "_law_good" ["found","book","hands","start"] iM:=by
 exists bl.f98,Zp,Zf bl,Zo bl,Ib bl
def P0:Fs 2 99 ["script","many","order","k"]:=aI
def Ik:AR:=(j_ 2 (b2 (cC (Yb (cC (Yb (ab 0) (Yb (b2 (aaa 3) (aa 3) ef) ae)) iL) (Yb (aaa 1283712873162387911) ae)) k_) (b2 (aa 3) (aaa 1) ef) bF) (ab 3) gq)
@[simp] def P2:AR:=(wF [2] (ah (ab 2)))
@[simp] def P3:AR:=(ag (bf (cF (Yb (ab 1) ae) cU) (aj 3) Ik) P2)
def Il:AR:=(ag (bc 2 (bJ ae)) P3)
def xp:AN->Option D:=ak 2 4 Il
def Zt:aC P w K mg base 2 2 "_law_order" ["script","many"] xp:=by
 refine cw bl.f99 P0 λhr=>?_;unfold Il P3 P2
 exists P0,Ie bl,PX bl
def Zu:Fs 2 100 ["many","pick","hands","k"]:=aI
def Zv:Cs ["many","pick","hands","k"] 100 ["k"] [none] [("k",0)]:=bA
def P4:AU:=(kD (.str "keeper"))
def Im:AR:=(j_ 2 (b2 (b2 (aa 1) (b2 (lF (bJ (Yb (aaa 64) (Yb (aaa 8192) (Yb (aaa 1048576) ae))))) (aa 3) ai) eO) (aa 0) bF) (kD (.str "storm")) ik)
@[simp] def Zw:AR:=(ah (cC (Yb (aa 2) ae) cc))
@[simp] def Zx:AR:=(ag (bf (cF (Yb (b2 (aaa 1) (b2 (aa 1) (aaa 3) bF) ef) ae) cU) (aj 3) Im) Zw)
def P5:AR:=(ag (bc 2 (Yv (cF (Yb (ab 0) ae) cU) [none] (aj 0) tY (P4))) Zx)
def rC:AN->Option D:=ak 2 4 P5
def Zy:aC P w K mg base 1 2 "_law_few" ["many","pick"] rC:=by
 exists bl.f100,Zu,Zv
def Zz:Fs 4 101 ["kind","order","bits","ring","rules","k","one","other"]:=aI
def Io:AR:=(ag (ar 6 (b2 (aa 1) (aa 5) ai)) (ag (ar 7 (b2 (aa 1) (b2 (aa 5) (aaa 1) ef) ai)) (aP (b2 (aa 0) (kD (.str "eithers")) (az false)) (cM 4 (cC (Yb (lF (cF (Yb (lF (bJ (Yb (av (Yb (ab 6) (Yb (mB (b2 (b2 (b2 (aa 2) (aa 6) dQ) (aaa 2) bF) (aaa 0) (az false))) ae))) (Yb (av (Yb (ab 7) (Yb (mB (b2 (b2 (b2 (aa 2) (aa 7) dQ) (aaa 2) bF) (aaa 1) (az false))) ae))) ae)))) ae) fV)) ae) cc) bY) (aP (b2 (aa 0) (kD (.str "sums")) (az false)) (cM 4 (av (Yb (cC (Yb (lF (cF (Yb (lF (bJ (Yb (ab 6) (Yb (ab 7) ae)))) ae) fV)) ae) cc) (Yb (mB (b2 (b2 (b2 (aa 2) (aa 5) dQ) (aaa 2) bF) (aaa 1) (az false))) ae))) bY) (cM 4 (av (Yb (av (Yb (ab 6) ae)) (Yb (ab 7) ae))) bY)))))
@[simp] def P6:AR:=(ah (av (Yb (ab 0) (Yb (cC (Yb (aa 4) ae) cc) ae))))
@[simp] def Ip:AR:=(ag (aP (bC (b2 (aa 0) (kD (.str "eithers")) (az false)) (b1 (aa 3) aD)) (ag (ar 6 (b2 (aa 1) (b1 (aaa 1) bD) ai)) (ag (ar 7 (b2 (aa 1) (aaa 0) ai)) (cM 4 (cC (Yb (lF (cF (Yb (lF (bJ (Yb (av (Yb (ab 6) (Yb (mB (b2 (b2 (b2 (aa 2) (aa 6) dQ) (aaa 2) bF) (aaa 0) (az false))) ae))) (Yb (av (Yb (ab 7) (Yb (mB (b2 (b2 (b2 (aa 2) (aa 7) dQ) (aaa 2) bF) (aaa 1) (az false))) ae))) ae)))) ae) fV)) ae) cc) bY))) au) P6)
@[simp] def ZD:AR:=(ag (bf (cF (Yb (b2 (cC (Yb (aa 1) ae) bw) (aaa 1) h_) ae) cU) (aj 5) Io) Ip)
def P8:AR:=(ag (bc 4 (bJ ae)) ZD)
def mW:AN->Option D:=ak 4 8 P8
def ZH:aC P w K mg base 1 4 "_law_chain" ["kind","order","bits","ring"] mW:=by
 exists bl.f101,Zz
def rD:Fs 1 102 ["script","many","pick","bits","hands","ring","storms","order","kind","book","due","tied","found"]:=aI
def Iq:Cs ["script","many","pick","bits","hands","ring","storms","order","kind","book","due","tied","found"] 102 ["beacon","hands"] [none,some 4] [("beacon",0),("hands",1)]:=bA
def Ir:AT:=(b2 (b2 (aa 1) (aa 0) ai) (kD (.str "storm")) (az false))
def P9:AU:=(ab 0)
def xq:AR:=(ag (ar 9 (cC (Yb (ab 8) (Yb (ab 7) (Yb (ab 3) (Yb (ab 5) ae)))) mW)) (ag (ar 10 (kD (.str "keeper"))) (ag (ar 11 (ig (mB (b2 (aa 8) (kD (.str "sums")) (az false))) (bO (mB (b2 (aa 8) (kD (.str "eithers")) (az false))) (ab 5)))) (ag (aP (du (b2 (cC (Yb (aa 6) ae) bw) (aaa 1) gP) (bC (b2 (cC (Yb (aa 6) ae) bw) (aaa 1) (az false)) (bC (b1 (aa 11) aD) (b2 (b2 (aa 6) (aaa 0) ai) (aaa 0) gP)))) (ar 10 (kD (.str "storm"))) au) (ag (ar 12 (cC (gD (Yb (ab 9) (Yb (ab 4) ae))) k8)) (aP (du (bu (b1 (cC (Yb (ab 12) (Yb (ab 9) (Yb (ab 4) (Yb (aaa 0) ae)))) iM) aD)) (b2 (b2 (aa 12) (aaa 0) ai) (aa 10) (az true))) (ah (kD (.bl false))) au))))))
def Iu:AR:=(ah (kD (.bl true)))
def rE:AR:=(ag (bf (b1 (lF (bJ (Yb (kD (.str "sums")) (Yb (kD (.str "nots")) (Yb (kD (.str "eithers")) (Yb (kD (.str "ifs")) ae)))))) Yc) (aj 8) xq) Iu)
def Iv:AR:=(ag (ar 7 (cC (Yb (ab 0) (Yb (ab 1) ae)) xp)) rE)
def Iw:AR:=(ag (bc 6 (Yv (cF (Yb (ab 1) ae) cU) [none,some 4] (aj 0) (Ir) (P9))) Iv)
def Iy:AR:=(ag (ar 5 (mB (b2 (b2 (aa 3) (aaa 2) bF) (aaa 1) (az false)))) Iw)
def Iz:AR:=(ag (aP (b2 (b2 (aa 2) (aaa 3) bF) (aaa 0) gP) (ar 4 (cC (Yb (ab 1) (Yb (b2 (aa 2) (aaa 3) eO) ae)) rC)) au) Iy)
def IA:AR:=(ag (ar 4 (cC (Yb (cC (Yb (ab 0) (Yb (aaa 1) ae)) iL) (Yb (ab 1) ae)) xo)) Iz)
def IB:AR:=(ag (ar 3 (cC (Yb (cC (Yb (ab 0) (Yb (aaa 2) ae)) iL) (Yb (aaa 2049848353892358983) ae)) k_)) IA)
def IC:AR:=(ag (ar 2 (cC (Yb (cC (Yb (ab 0) (Yb (aaa 1) ae)) iL) (Yb (aaa 1865811235122147685) ae)) k_)) IB)
def rF:AR:=(ag (ar 1 (b2 (aaa 2) (b2 (cC (Yb (ab 0) (Yb (aaa 0) ae)) iL) (aaa 59) bF) ef)) IC)
def lb:AN->Option D:=ak 1 13 rF
def ID(bl:Bl K w mg)(F:Fun K "law" "law" (top 102) a fd):cB P w K mg base dY 21 a fd ["script"] (dh K 1 lb):=by
 refine NP (k:=20) F rD rfl rfl λcdv A outer s H E hr=>?_
 exists rD,PX bl,Ie bl,Zb bl,Zy bl,Iq,Zt bl,ZH bl,Y7 bl,Zs bl
end
abbrev IE:Nat:=21
theorem all_mk{l:W.OpenLaw}{w:World}{K:W7}{h:Heap}{mg:AD}{fa uq:Addr}(X:K.In h)(G:h.Ns mainGlobals mg)(hfa:mg "law"=some (.ref fa)){ux ur:Option Addr}{uy:Array (Option Value)}{uz ut uu uv uo uw:Value}(F_contrary:Fk K "contrary" 1)(F_led_to:Fk K "led_to" 2)(F_is_road:Fk K "is_road" 3)(F_traced:Fk K "traced" 4)(F_ways_from:Fk K "ways_from" 5)(F_exchanged_rule:Fk K "exchanged_rule" 8)(F_exchanged:Fk K "exchanged" 9)(F_beacons_with:Fk K "beacons_with" 11)(F_is_rising:Fk K "is_rising" 12)(F_both_added:Fk K "both_added" 14)(F_added:Fk K "added" 15)(F_pairs_added:Fk K "pairs_added" 16)(F_cleared:Fk K "cleared" 17)(F_reduced:Fk K "reduced" 18)(F_either_holds:Fk K "either_holds" 20)(F_sum_holds:Fk K "sum_holds" 21)(F_if_holds:Fk K "if_holds" 22)(F_rule_holds:Fk K "rule_holds" 23)(F_broken_rules:Fk K "broken_rules" 24)(F_holds:Fk K "holds" 25)(F_beacons_in:Fk K "beacons_in" 26)(F_is_void:Fk K "is_void" 27)(F_without:Fk K "without" 28)(F_is_place:Fk K "is_place" 30)(F_body_is_known:Fk K "body_is_known" 31)(F_is_step:Fk K "is_step" 32)(F_is_derivation:Fk K "is_derivation" 33)(F_derived:Fk K "derived" 34)(F_step_to_more:Fk K "step_to_more" 35)(F_derived_in_full:Fk K "derived_in_full" 36)(F_is_broken:Fk K "is_broken" 38)(F_lead_there_and_back:Fk K "lead_there_and_back" 39)(F_clash_good:Fk K "clash_good" 40)(F_cross_good:Fk K "cross_good" 41)(F_late_good:Fk K "late_good" 42)(F_odd_good:Fk K "odd_good" 43)(F_first_ones:Fk K "first_ones" 44)(F_is_first_part:Fk K "is_first_part" 45)(F_is_last_part:Fk K "is_last_part" 46)(F_lone_good:Fk K "lone_good" 47)(F_either_paper_good:Fk K "either_paper_good" 48)(F_storm_good:Fk K "storm_good" 49)(F_sayings_of:Fk K "sayings_of" 51)(F_lead_to_one_another:Fk K "lead_to_one_another" 52)(F_clash_found:Fk K "clash_found" 53)(F_cross_found:Fk K "cross_found" 54)(F_late_found:Fk K "late_found" 55)(F_storms_paper:Fk K "storms_paper" 56)(F_free_saying:Fk K "free_saying" 57)(F_truths_made:Fk K "truths_made" 58)(F_plan_row:Fk K "plan_row" 59)(F_either_outcome:Fk K "either_outcome" 60)(F_rows_by_beacon:Fk K "rows_by_beacon" 62)(F_is_plan_row:Fk K "is_plan_row" 63)(F_come_to:Fk K "come_to" 64)(F_either_is_kept:Fk K "either_is_kept" 65)(F_plan_good:Fk K "plan_good" 66)(F_is_sum_row:Fk K "is_sum_row" 67)(F_replaced:Fk K "replaced" 68)(F_sums_good:Fk K "sums_good" 69)(F_are_some_of:Fk K "are_some_of" 70)(F_ahead_of:Fk K "ahead_of" 71)(F_is_row:Fk K "is_row" 72)(F_holds_where_lit:Fk K "holds_where_lit" 73)(F_rows_good:Fk K "rows_good" 74)(F_keeper_good:Fk K "keeper_good" 75)(F_places_to_none:Fk K "places_to_none" 77)(F_places_to_beacon:Fk K "places_to_beacon" 78)(F_some_of:Fk K "some_of" 79)(F_facts_beside:Fk K "facts_beside" 80)(F_if_outcome:Fk K "if_outcome" 81)(F_last_beacon:Fk K "last_beacon" 83)(F_storms_places:Fk K "storms_places" 84)(F_sum_rows:Fk K "sum_rows" 85)(F_sum_outcome:Fk K "sum_outcome" 86)(F_outcome:FkD K "outcome" 88)(F_good:Fk K "good" 90)(F_law_cell:Fk K "_law_cell" 92)(F_law_mixed:Fk K "_law_mixed" 93)(F_law_hands:Fk K "_law_hands" 94)(F_law_plain:Fk K "_law_plain" 96)(F_law_truths:Fk K "_law_truths" 97)(F_law_good:Fk K "_law_good" 98)(F_law_order:Fk K "_law_order" 99)(F_law_few:Fk K "_law_few" 100)(F_law_chain:Fk K "_law_chain" 101)(u0:W.nsIn K mainGlobals "law"=some (some (.ref uq)))(u3:K.lookup uq=some ⟨uz,ux,.func (W.fnOf "law" "law" (aDa (top 102)) (aCa (top 102)) (aAa (top 102)) .none ut uu uv ur uo uw),uy⟩)(u4:W.codeIn K uo "law"=true)(u5:W.keepIn K (.ref uq)=true){ub:Addr}{uk:_}{uc ud ue uf ug uh ui uj:_}(ul:W.nsIn K mainGlobals "EXCHANGED_KINDS"=some (some (.ref ub)))(um:K.lookup ub=some ⟨.type "dict",none,.dict #[⟨PyData.keyHash w.params (Str.ofString "eithers"),.str "eithers" uc,.str "eithers" ud⟩,⟨PyData.keyHash w.params (Str.ofString "sums"),.str "sums" ue,.str "sums" uf⟩,⟨PyData.keyHash w.params (Str.ofString "ifs"),.str "ifs" ug,.str "nots" uh⟩,⟨PyData.keyHash w.params (Str.ofString "nots"),.str "nots" ui,.str "ifs" uj⟩] uk,#[]⟩)(z_len:W.nsIn K mainGlobals "len"=some none)(z_range:W.nsIn K mainGlobals "range"=some none)(z_list:W.nsIn K mainGlobals "list"=some none)(z_tuple:W.nsIn K mainGlobals "tuple"=some none)(z_int:W.nsIn K mainGlobals "int"=some none)(z_bool:W.nsIn K mainGlobals "bool"=some none)(z_str:W.nsIn K mainGlobals "str"=some none)(z_sorted:W.nsIn K mainGlobals "sorted"=some none)(z_any:W.nsIn K mainGlobals "any"=some none)(z_all:W.nsIn K mainGlobals "all"=some none)(z_isinstance:W.nsIn K mainGlobals "isinstance"=some none)(z_enumerate:W.nsIn K mainGlobals "enumerate"=some none)(z_reversed:W.nsIn K mainGlobals "reversed"=some none)(z_set:W.nsIn K mainGlobals "set"=some none)(z_dict:W.nsIn K mainGlobals "dict"=some none): ∃fd:FuncData,(∀(s:Shared) (v:Value),BindsTo s fd ⟨[v],[]⟩ [("script",v)])/\∀base:Heap,K.In base->base.Ns mainGlobals mg->cB l.prog w K mg base dY IE fa fd ["script"] (dh K 1 lb):=by
 have e:=hfa.symm.trans (W.mg_of X G u0);cases e
 have bl:Bl K w mg:=⟨W.mg_none_of X G z_len,W.mg_none_of X G z_range,W.mg_none_of X G z_list,W.mg_none_of X G z_tuple,W.mg_none_of X G z_int,W.mg_none_of X G z_bool,W.mg_none_of X G z_str,W.mg_none_of X G z_sorted,W.mg_none_of X G z_any,W.mg_none_of X G z_all,W.mg_none_of X G z_isinstance,W.mg_none_of X G z_enumerate,W.mg_none_of X G z_reversed,W.mg_none_of X G z_set,W.mg_none_of X G z_dict,⟨_,_,_,_,W.mg_of X G ul,um,⟨rfl,rfl,rfl⟩,rfl,(.cons ⟨rfl,⟨_,rfl⟩,⟨_,rfl⟩,by decide +kernel⟩ (.cons ⟨rfl,⟨_,rfl⟩,⟨_,rfl⟩,by decide +kernel⟩ (.cons ⟨rfl,⟨_,rfl⟩,⟨_,rfl⟩,by decide +kernel⟩ (.cons ⟨rfl,⟨_,rfl⟩,⟨_,rfl⟩,by decide +kernel⟩ .nil))))⟩,F_contrary.on X G,F_led_to.on X G,F_is_road.on X G,F_traced.on X G,F_ways_from.on X G,F_exchanged_rule.on X G,F_exchanged.on X G,F_beacons_with.on X G,F_is_rising.on X G,F_both_added.on X G,F_added.on X G,F_pairs_added.on X G,F_cleared.on X G,F_reduced.on X G,F_either_holds.on X G,F_sum_holds.on X G,F_if_holds.on X G,F_rule_holds.on X G,F_broken_rules.on X G,F_holds.on X G,F_beacons_in.on X G,F_is_void.on X G,F_without.on X G,F_is_place.on X G,F_body_is_known.on X G,F_is_step.on X G,F_is_derivation.on X G,F_derived.on X G,F_step_to_more.on X G,F_derived_in_full.on X G,F_is_broken.on X G,F_lead_there_and_back.on X G,F_clash_good.on X G,F_cross_good.on X G,F_late_good.on X G,F_odd_good.on X G,F_first_ones.on X G,F_is_first_part.on X G,F_is_last_part.on X G,F_lone_good.on X G,F_either_paper_good.on X G,F_storm_good.on X G,F_sayings_of.on X G,F_lead_to_one_another.on X G,F_clash_found.on X G,F_cross_found.on X G,F_late_found.on X G,F_storms_paper.on X G,F_free_saying.on X G,F_truths_made.on X G,F_plan_row.on X G,F_either_outcome.on X G,F_rows_by_beacon.on X G,F_is_plan_row.on X G,F_come_to.on X G,F_either_is_kept.on X G,F_plan_good.on X G,F_is_sum_row.on X G,F_replaced.on X G,F_sums_good.on X G,F_are_some_of.on X G,F_ahead_of.on X G,F_is_row.on X G,F_holds_where_lit.on X G,F_rows_good.on X G,F_keeper_good.on X G,F_places_to_none.on X G,F_places_to_beacon.on X G,F_some_of.on X G,F_facts_beside.on X G,F_if_outcome.on X G,F_last_beacon.on X G,F_storms_places.on X G,F_sum_rows.on X G,F_sum_outcome.on X G,F_outcome.on X G,F_good.on X G,F_law_cell.on X G,F_law_mixed.on X G,F_law_hands.on X G,F_law_plain.on X G,F_law_truths.on X G,F_law_good.on X G,F_law_order.on X G,F_law_few.on X G,F_law_chain.on X G⟩
 have u6:=nU (st:=(top 102)) u3 u4 u5;refine⟨W.fnOf "law" "law" (aDa (top 102)) (aCa (top 102)) (aAa (top 102)) .none ut uu uv ur uo uw,λs v=>.of_eq rfl,λbase _ _=>?_⟩;exact ID bl u6
theorem walk(hlaw:∀ns:AF,ns.length<=63->lb [.scr ns]=some (.bl true)){l:W.OpenLaw}{K:Params->W7}(hn:l.most=some 63)(hdf:d.params.defaults=[])(hY:∀(w:World) (h:Heap),YP w h->(K w.params).In h)(F:∀(w:World) (mg:AD) (fa:Addr) (h:Heap),(K w.params).In h->h.Ns mainGlobals mg->mg d.name=some (.ref fa)->
  ∃fd:FuncData,(∀(s:Shared) (u:Value),BindsTo s fd ⟨[u],[]⟩ [("script",u)])/\∀base:Heap,(K w.params).In base->base.Ns mainGlobals mg->cB l.prog w (K w.params) mg base dY IE fa fd ["script"] (dh (K w.params) 1 lb)):
 W.WalkO q loose XP YP l.row.toRowW d [] (λf vs=>PySem.call f vs):=
 L2.walk_of (n:=63) (k:=IE) (x:="script") (CX:=λ_=>dY) (sp:=λw=>dh (K w.params) 1 lb) hn (by decide) hdf ⟨rfl,by decide,by decide⟩ hY F
  (λw H a ns hl _ hS=>⟨rfl,[.scr ns],.bl true,H,Same.refl H,.one (by rw[Rp];exact⟨a,rfl,hS⟩),hlaw ns hl,λv H' G' g r=>by rw[Rp]at r;exact r⟩) λ_ _ _ _ _ z=>z
end Lw
namespace Lw
open PySem L2 M Bk
theorem P_:∀(l a:AF) (x:Int),x∈aZ a l↔x∈a\/x∈l
 | [],a,x=>by simp[aZ]
 | k::l,a,x=>by
   rw[aZ,P_];by_cases h:k∈a
   .rw[if_pos h]
    simp;constructor
    .rintro(b|b)
     .exact .inl b
     .exact .inr (.inr b)
    .rintro(b|b|b)
     .exact .inl b
     .subst b;exact .inl h
     .exact .inr b
   .rw[if_neg h]
    simp[or_assoc]
theorem Qk:∀(l a:AF),a.Nodup->(aZ a l).Nodup
 | [],_,h=>h
 | k::l,a,h=>by
   refine Qk l _ ?_;by_cases b:k∈a
   .rwa [if_pos b]
   .rw[if_neg b,List.nodup_append]
    refine⟨h,by simp,λx d y c z=>?_⟩;simp at c;subst c;exact b (z ▸ d)
theorem Qt{n:Nat}(hn:n<64)(l:AE)(h:∀x∈l,x<n)(u:l.length<4000):∃b:AE,b.Pairwise (·<·)/\(∀x,x∈b↔x∈l)/\ml (l.map nD)=some (b.map nD):=by
 have t:l.map nD=(l.map .ofNat).map .int:=by simp[wu]
 generalize hd:aZ [] (l.map .ofNat)=d
 have p:d.Nodup:=by rw[<-hd];exact Qk _ _ .nil
 have c:∀x,x∈d↔∃y∈l,y=x:=λx=>by rw[<-hd,P_];simp
 have i:=eU d;have q:=gk d
 obtain⟨b,j⟩:∃b:AE,de d=b.map .ofNat:=by
  refine⟨(de d).map Int.toNat,?_⟩;rw[Qf];refine(List.map_id _).symm.trans (Qq λx k=>?_);obtain⟨y,_,rfl⟩:=(c x).mp (i.mem_iff.mp k);simp[wu]
 have e:∀x,x∈b↔x∈l:=λx=>by
  have s:x∈b↔(x:Int)∈de d:=by
   rw[j];constructor
   .exact λh=>Qs h
   .intro h
    obtain⟨y,o,f⟩:=qy h
    have:=by simpa using f
    exact this ▸ o
  rw[s,i.mem_iff,c];constructor
  .rintro⟨y,o,f⟩
   have:y=x:=by lia
   exact this ▸ o
  .exact λh=>⟨x,h,rfl⟩
 have g:=by
  rw[j]at i q
  have m:b.Nodup:=by
   have:=i.nodup_iff.mpr p;rw[List.nodup_iff_pairwise_ne,List.pairwise_map]at this;exact this.imp λh z=>h (by rw[z])
  exact(((List.pairwise_map.mp q).imp λh=>by simpa using h).and m).imp λh=>Nat.lt_of_le_of_ne h.1 h.2
 have r:d.length<=n:=by
  rw[<-i.length_eq,j,qf];exact FK g λx k=>h x ((e x).mp k)
 refine⟨b,g,e,?_⟩;unfold ml;rw[t,mv];dsimp only;rw[if_pos ⟨by rwa [qf],by lia⟩,hd,j];simp[wu]
def IF(ns:AF)(k:Nat):iL [.scr ns,.int k]=some (.int (ns.getD k 0)):=by
 rw[iL,Ye (by rfl)];by_cases h:k<ns.length
 .have e:aY (ns.map D.int) k=some (.int ns[k]):=by
   rw[gW,kK h];rfl
  simp[Ic,Yd,h,e]
 .simp[Ic,Yd,h]
def xt(ns:AF)(k:Nat)(i:Int)(a:i=(k:Int)):iL [.scr ns,.int i]=some (.int (ns.getD k 0)):=by
 subst a;exact IF ns k
theorem xu(c m:Int):∃v:Int,0<=v/\k_ [.int c,.int m]=some (.int v):=by
 refine⟨c%2305843009213693951*m%2305843009213693951,Int.emod_nonneg _ (by decide),?_⟩;rw[k_,Ye (by rfl)];have a:gi (.int (c%2305843009213693951)) (.int m)=_:=Fi ⟨by lia,by lia⟩;simp[PY,Yd,a]
section
variable {c:D}{ev:AG}(hc:Yc c=some (ev.map D.bl))
include hc
def ZJ(a:∀s∈l,s.1<ev.length):vQ [aO (.ei l),c]=some (.bl (l.any λs=>at' ev s.1==s.2)):=by
 rw[vQ,Ye (by rfl)]
 simp[OR,Yd,ao,bV (fe:=GF) (r:=[↑c]) (enc:=af) (λs=>.bl (at' ev s.1==s.2)) (l:=l) (λs b=>by
  simp[GF,hc,iD (a s b)])]
theorem ZK(a:∀x∈b,x<ev.length):vR [aO (.su b o),c]=some (.bl (decide ((b.filter (at' ev)).length%2=1)==o)):=by
 have e:∀n:Nat,decide ((n:Int)%2=1)=decide (n%2=1):=λn=>by
  symm
 rw[vR,Ye (by rfl)]
 simp[OS,Yd,ao,gX (fc:=GH) (fe:=GI) (r:=[↑c]) (enc:=nD) (at' ev) nD (l:=b) (λs d=>by
  simp[GH,hc,iD (a s d)]) (λs _ _=>by simp[GI]),e]
def Qu(d:∀x∈b,x<ev.length)(e:∀x,h=some x->x<ev.length):vT [aO (.im b h),c,.bl w]=some (.bl ((b.any λx=>at' ev x != w)||hd ev w h)):=by
 have a:=bV (fe:=GJ) (r:=[↑c,↑(.bl w)]) (enc:=nD) (λx=>.bl (at' ev x != w)) (l:=b) (λs i=>by
  simp[GJ,hc,iD (d s i),bne])
 rw[vT,Ye (by rfl)]
 cases f:(b.any _)with
 | true=>simp[vS,Yd,ao,a,f]
 | false=>
   cases h with
   | none=>simp[vS,Yd,ao,a,f,aq,hd]
   | some x=>simp[vS,Yd,ao,a,f,aq,hd,hc,iD (e x rfl)]
def Qv{r:Rl}(d:In k ev.length r):qJ [aW k,aO r,c]=some (.bl (so k ev r)):=by
 rw[qJ,Ye (by rfl)]
 cases r with
 | ei l=>
   obtain⟨rfl,a⟩:=d;simp[qI,Yd,ZJ hc a,so]
 | su b o=>
   obtain⟨rfl,a⟩:=d;simp[qI,Yd,ZK hc a,so]
 | im b h=>
   obtain⟨f,a,e⟩:=d;rcases f with rfl|rfl
   .simp[qI,Yd,Qu hc a e,so]
   .simp[qI,Yd,Qu hc a e,so]
end
section
variable {c:D}{ev:AG}(hc:Yc c=some (ev.map D.bl))
include hc
theorem ZL{k:Kd}{R:List Rl}(b:∀r∈R,In k ev.length r):vU [bq k R,c]=some (.lst ((brk k ev R).map nD)):=by
 rw[vU,Ye (by rfl)]
 simp[OU,Yd,ao,FI,FC (fc:=GK) (fe:=GL) (r:=[↑(bq k R),↑c]) (e1:=λi:Nat=>.int i) (e2:=λi=>aO (kP R i)) (λi=>!so k ev (kP R i)) nD (l:=.range R.length) (λi a=>by
  simp[GK,Qv hc (b (kP R i) (Od (Qb a)))]) (λi _ _=>by simp[GL]),brk]
end
section
variable {c:D}{ev:AG}(hc:Yc c=some (ev.map D.bl))
include hc
def IG{k:Kd}{R:List Rl}(a:∀r∈R,In k ev.length r):vV [bq k R,c]=some (.bl (decide (brk k ev R=[]))):=by
 rw[vV,Ye (by rfl)];simp[qK,Yd,ZL hc a]
end
theorem ZM{r:Rl}(f:In k n r)(hs:sz r<=999999):vX [aW k,aO r]=some (.lst ((fL r).map nD)):=by
 rw[vX,Ye (by rfl)]
 cases r with
 | ei l=>
   obtain⟨rfl,_⟩:=f;have h:=bV (fe:=GO) (r:=[]) (enc:=af) (λs=>nD s.1) (l:=l) (λs _=>by simp[GO]);simp[vW,Yd,ao,h,fL,wu]
 | su b o=>
   obtain⟨rfl,_⟩:=f;constructor<;>lia
 | im b h=>
   obtain⟨g,_⟩:=f
   have c:¬k=.e:=by grind
   have d:¬k=.s:=by grind
   have e:b.length+1<=1000000:=by simp[sz]at hs;ext
   cases h with
   | none=>simp[vW,Yd,fL,c,aq]
   | some x=>simp[vW,Yd,fL,c,d,aq,cu,e]
noncomputable def aR(s:aH):aH:=(s.1,!s.2)
theorem rG(s:aH):fZ [af s]=some (af (aR s)):=by
 rw[fZ,Ye (by rfl)];constructor<;>ac_nf
def cf:AX->AX
 | [a,b]=>if eA b.1 b.2 a.1 a.2=true then [b,a]else [a,b]
 | l=>l
def rH(h:l.length<=2):fV [.lst (l.map af)]=some ((cf l).map af):=by
 match l,h with
 | [],_=>rfl
 | [a],_=>rfl
 | [a,b],_=>
   have e:fV [.lst ([a,b].map af)]=some (if eA b.1 b.2 a.1 a.2=true then _ else _):=rfl;rw[e,cf]
   split<;>rfl
def Qw(l:AX):(cf l).Perm l:=by
 match l with
 | []=>exact .refl _
 | [a]=>exact .refl _
 | [a,b]=>
   rw[cf]
   split
   .exact .swap _ _ _
   .exact .refl _
 | a::b::c::l=>exact .refl _
theorem Qx{r:Rl}(b:In k n r)(hs:sz r<=999999):qL [aW k,aO r]=some (.bl (bp (aO r) (aO (vd k)))):=by
 rw[qL,Ye (by rfl)];have d:=ZM b hs;by_cases a:fL r=[]
 .have c:In k 0 r:=by
   cases r with
   | ei l=>
     simp[fL]at a;subst a;exact⟨b.1,by simp⟩
   | su l o=>
     subst a;exact⟨b.1,by simp⟩
   | im l o=>
     cases o with
     | none=>
       subst a;exact⟨b.1,by simp,by simp⟩
     | some x=>simp[fL]at a
  have f:=Qv (c:=.tup []) (ev:=[]) rfl c
  have e:bp (aO r) (aO (vd k))=!so k [] r:=by
   cases r with
   | ei l=>
     obtain⟨rfl,_⟩:=b;simp[fL]at a;subst a;simp[aO,vd,so]
   | su l o=>
     obtain⟨rfl,_⟩:=b;subst a;cases o<;>simp[aO,vd,so]
   | im l o=>
     cases o with
     | none=>
       subst a
       have:bp .non .non=true:=by simp[bp,aG,PyData.eqv]
       rcases b.1 with rfl|rfl<;>simp[aO,vd,so,aq,hd,this]
     | some x=>simp[fL]at a
  rw[a]at d;simp[GP,Yd,d,f,e]
 .have e:bp (aO r) (aO (vd k))=false:=by
   cases r with
   | ei l=>
     obtain⟨rfl,_⟩:=b
     cases l with
     | nil=>simp[fL]at a
     | cons s l=>simp[aO,vd]
   | su l o=>
     obtain⟨rfl,_⟩:=b
     cases l with
     | nil=>simp[fL]at a
     | cons s l=>constructor<;>ac_nf
   | im l o=>
     have g:∀x,bp (.int x) .non=false:=λx=>by simp[bp,aG,PyData.eqv]
     cases l with
     | nil=>cases o with
       | none=>simp[fL]at a
       | some x=>rcases b.1 with rfl|rfl<;>simp[aO,vd,aq,g]
     | cons s l=>rcases b.1 with rfl|rfl<;>simp[aO,vd]
  simp[GP,Yd,d,a,e]
def eC:Rl->Rl
 | .ei l=>.ei (cf (l.map aR))
 | .su l o=>.su l (o != decide (l.length%2=1))
 | .im l h=>.im l h
def jA:Kd->Kd
 | .e=>.e
 | .s=>.s
 | .i=>.n
 | .n=>.i
theorem IH{k:Kd}{n:Nat}{r:Rl}(h:In k n r)(hs:eB r):In (jA k) n (eC r)/\eB (eC r):=by
 cases r with
 | ei l=>
   obtain⟨rfl,h⟩:=h;obtain⟨h1,h2⟩:=hs
   match l,h1,h2,h with
   | [],_,_,h=>exact⟨⟨rfl,h⟩,by simp[eC,cf,eB]⟩
   | [(x,p)],_,_,h=>
     simp at h;simp[eC,cf,aR,eB,Bk.In,jA,h]
   | [(x,p),(y,q)],_,h2,h=>
     simp[mx]at h2 h;simp only[eC,Qd,List.map_nil,cf,aR];rcases h2 with e|⟨rfl,rfl,rfl⟩
     .have h1:¬((y:Int)=x):=by ac_nf
      have h2:¬((y:Int)<x):=by ac_nf
      simp[eA,h1,h2,Bk.In,eB,jA,h,mx,e]
     .simp[eA,Bk.In,eB,jA,h,mx]
 | su l o=>
   obtain⟨rfl,h⟩:=h;exact⟨⟨rfl,h⟩,hs⟩
 | im l h=>
   obtain⟨hk,h⟩:=h;refine⟨⟨?_,h⟩,hs⟩;rcases hk with rfl|rfl
   .exact .inr rfl
   .exact .inl rfl
theorem ZN{r:Rl}(h:In k n r)(hs:eB r):vO [aW k,aO r]=some (aO (eC r)):=by
 rw[vO,Ye (by rfl)]
 cases r with
 | ei l=>
   obtain⟨rfl,_⟩:=h;have b:=rH (l:=l.map aR) (by simpa using hs.1);simp[wu]at b;simp[vN,Yd,ao,bV (fe:=Gi) (r:=[]) (enc:=af) (λs=>af (aR s)) (l:=l) (λs _=>by simp[Gi,rG]),b,eC,FJ]
 | su l o=>
   obtain⟨rfl,_⟩:=h
   have e:((l.length:Int)%2=1)↔(l.length%2=1):=by constructor<;>lia
   simp[vN,Yd,eC];cases o<;>by_cases h:l.length%2=1<;>simp[aO,e]
 | im l h=>
   obtain⟨c,_⟩:=h;rcases c with rfl|rfl<;>simp[vN,Yd,eC]
def II(k:Kd):il gt_EXCHANGED_KINDS (aW k)=some (aW (jA k)):=by
 have h:gt_EXCHANGED_KINDS.lookup (kS k)=some (kS (jA k)):=by cases k<;>decide +kernel
 show(gt_EXCHANGED_KINDS.lookup _).map _=_;rw[h];rfl
def Qy{R:List Rl}(h:∀r∈R,In k n r/\eB r):iJ [bq k R]=some (bq (jA k) (R.map eC)):=by
 rw[iJ,Ye (by rfl)];simp[OJ,Yd,bq,ao,II,bV (fe:=Gj) (r:=[↑(aW k)]) (enc:=aO) (λr=>aO (eC r)) (l:=R) (λr b=>by simp[Gj,ZN (h r b).1 (h r b).2]),wu]
noncomputable def kn(b a:AE):Bool:=b.all λx=>decide (x∈a)
abbrev a_:=List Nat×AL
def dw(r:a_):D:=.tup [.tup (r.1.map nD),aq r.2]
structure ZQ(r:a_):Prop where
 b:∀x∈r.1,x<60
 h:∀x,r.2=some x->x<60
 p:r.1.Pairwise (·<·)
 l:r.1.length<=3
@[simp] def rJ(r:a_):Yc (dw r)=some [.tup (r.1.map nD),aq r.2]:=nr rfl
def Yr(R:List a_):D:=.tup [.str "ifs",.tup (R.map dw)]
@[simp] def IJ(R:List a_):Yc (Yr R)=some [.str "ifs",.tup (R.map dw)]:=nr rfl
def IK(r:a_)(fs:AE)(hd:Yc d=some (fs.map nD)):jy [dw r,d]=some (.bl (kn r.1 fs)):=by
 rw[jy,Ye (by rfl)];simp[vY,Yd,ao,bV (fe:=mH) (r:=[↑d]) (enc:=nD) (λx=>.bl (decide (x∈fs))) (l:=r.1) (λx _=>by simp[mH,cG x fs false hd]),kn]
def xw(R:List a_)(i:Int):jx [Yr R,.int i]=some (.bl (decide (0<=i/\i<R.length))):=by
 rw[jx,Ye (by rfl)];by_cases h:0<=i<;>simp[GS,Yd,h]
noncomputable def ax(R:List a_)(i:Int):a_:=R.getD i.toNat ([],none)
theorem jB(h:0<=i/\i<R.length):aY (R.map dw) i=some (dw (ax R i)):=by
 rw[gW,Fv (j:=i.toNat) (v:=ax R i) (by(simp;lia)) (by rw[ax,List.getD_eq_getElem?_getD,qr (by ext)];simp)];rfl
def eZ(R:List a_)(fs:AE)(i:Int):Bool:=decide (0<=i/\i<R.length)&&((ax R i).2.isSome&&kn (ax R i).1 fs)
def IL(R:List a_){d:D}(fs:AE)(i:Int)(hd:Yc d=some (fs.map nD)):kT [Yr R,d,.int i]=some (.bl (eZ R fs i)):=by
 rw[kT,Ye (by rfl)];by_cases h:0<=i/\i<R.length
 .have h1:=jB h
  have h2:=IK (ax R i) fs hd;have h3:=xw R i;rw[wn h]at h3;unfold eZ;rw[wn h]
  cases hh:(ax R i).2 with
  | none=>simp[mI,Yd,h3,h1,hh,aq]
  | some x=>simp[mI,Yd,h3,h1,h2,hh,aq]
 .have h3:=xw R i
  rw[wo h]at h3;unfold eZ;rw[wo h];simp[mI,Yd,h3]
noncomputable def bj(r:a_):Nat:=r.2.getD 0
noncomputable def bP(R:List a_):AE->AF->Bool
 | _,[]=>true
 | fs,i::is=>eZ R fs i&&bP R (fs++[bj (ax R i)]) is
def Qz{R:List a_}{fs:AE}{i:Int}(h:eZ R fs i=true):(0<=i/\i<R.length)/\aq (ax R i).2=nD (bj (ax R i)):=by
 unfold eZ at h;simp only[Qe,wm]at h;refine⟨h.1,?_⟩;obtain⟨x,hx⟩:=Option.isSome_iff_exists.mp h.2.1;rw[bj,hx];rfl
theorem QA(R:List a_)(c d:D):∀(is:AF) (fs:AE) (y:AQ),fs.length+is.length<=1000->
 (bP R fs is=true/\∃ρ',M.forM (aj 4) mJ (is.map D.int) [↑(Yr R),↑c,↑d,some (.ow (fs.map nD)),y]=some (.nx ρ'))\/
 (bP R fs is=false/\M.forM (aj 4) mJ (is.map D.int) [↑(Yr R),↑c,↑d,some (.ow (fs.map nD)),y]=some (.rt (.bl false)))
 | [],fs,y,_=>.inl ⟨rfl,_,rfl⟩
 | i::is,fs,y,hl=>by
   have hs:=IL R (d:=.lst (fs.map nD)) fs i rfl;rw[bP,Qd,M.forM]
   cases h:eZ R fs i with
   | false=>
     rw[h]at hs;right;refine⟨rfl,?_⟩;simp[mJ,hs]
   | true=>
     rw[h]at hs;obtain⟨h1,h2⟩:=Qz h;have ih:=QA R c d is (fs++[bj (ax R i)]) (↑(.int i)) (by simp at hl ⊢;ac_nf)
     have hb:mJ [↑(Yr R),↑c,↑d,some (.ow (fs.map nD)),↑(.int i)]=some (.nx [↑(Yr R),↑c,↑d,some (.ow ((fs++[bj (ax R i)]).map nD)),↑(.int i)]):=by
      have hcap:fs.length<1000000:=by simp at hl;ac_nf
      simp[mJ,hs,jB h1,h2,bY,hcap]
     simp only[Ff,List.set,qd,hb,Bool.true_and];exact ih
def QB(R:List a_){c d:D}(fs:AE)(is:AF)(hc:Yc c=some (fs.map nD))(hd:Yc d=some (is.map D.int))(hl:fs.length+is.length<=1000):qO [Yr R,c,d]=some (.bl (bP R fs is)):=by
 rw[qO,Ye (by rfl)];rcases QA R c d is fs none hl with⟨h1,ρ',h2⟩|⟨h1,h2⟩
 .simp[GV,Yd,hc,hd,h2,h1]
 .simp[GV,Yd,hc,hd,h2,h1]
noncomputable abbrev fl(n:Nat)(P:AH):AE:=(List.range n).filter P
theorem rL(d:l.Pairwise (·<·))(h:∀x∈l,x<n):l=fl n λx=>decide (x∈l):=by
 have c:(fl n λx=>decide (x∈l)).Pairwise _:=List.pairwise_lt_range.filter _;have e:∀{m:AE},m.Pairwise (·<·)->_:=λh=>h.imp qm
 exact((List.perm_ext_iff_of_nodup (e d) (e c)).mpr λx=>by
  ext).eq_of_pairwise (λa b _ _ c f=>absurd (Nat.lt_trans c f) (Nat.lt_irrefl _)) d c
theorem gA(l:AE):intsD (l.map nD)=some (l.map λx:Nat=>(x:Int)):=by ext
def mem_castI{l:AE}{x:Nat}:(x:Int)∈l.map (λy:Nat=>(y:Int))↔x∈l:=by simp
theorem IM(n:Nat)(P:AH):(fl n P).length<=n:=by grind
theorem QC(hn:m.Nodup)(h:∀x:Int,x∈m↔∃y:Nat,y∈fl n R/\(y:Int)=x):de m=(fl n R).map λy:Nat=>(y:Int):=by
 have hs:((fl n R).map λy:Nat=>(y:Int)).Pairwise (·<=·):=by
  rw[List.pairwise_map]
  exact(List.pairwise_lt_range.filter R).imp λh=>by lia
 have hnd:((fl n R).map λy:Nat=>(y:Int)).Nodup:=by
  rw[List.nodup_iff_pairwise_ne,List.pairwise_map]
  exact(List.pairwise_lt_range.filter R).imp λh=>by lia
 have hperm:m.Perm ((fl n R).map λy:Nat=>(y:Int)):=(List.perm_ext_iff_of_nodup hn hnd).mpr λx=>by
  rw[h,List.mem_map]
 exact W.ksm_same ((eU m).trans hperm) (gk m) hs
theorem rM(q:n<64)(P Q:AH):iy ((fl n P).map nD) ((fl n Q).map nD)=some ((fl n λx=>P x != Q x).map nD):=by
 unfold iy;rw[gA,gA,qd,qd];generalize i:((fl n P).map _)=a;generalize t:((fl n Q).map _)=b
 have s:a.length<=n:=by symm
 have m:b.length<=n:=by symm
 have d:∀l,(aZ [] l).length<=l.length:=λl=>by
  have:∀(r c:AF),(aZ c r).length<=c.length+r.length:=λr=>by
   induction r with
   | nil=>intro c;simp[aZ]
   | cons k r j=>
     intro c;rw[aZ];symm
  symm
 have f:∀x,x∈dR a b↔∃y:Nat,y∈(fl n λx=>P x != Q x)/\y=x:=λx=>by
  rw[NL,<-t];symm
 have h:(dR a b).length<=n:=by
  have e:=QC (Dq a b) f;have:=(eU (dR a b)).length_eq;symm
 have g:(b.all λk=>decide (0<=k/\k<1024))=true:=by
  symm
 have o:=d a;have p:=d b;rw[if_pos ⟨by ac_nf,by ac_nf,by ac_nf,by ac_nf,g,by ac_nf⟩,QC (Dq a b) f,Qf];rfl
abbrev cn(P:AH)(o:Bool):D:=.tup [.tup ((fl 60 P).map nD),.bl o]
def IP(P Q:AH)(o a:Bool):jv [cn P o,cn Q a]=some (cn (λx=>P x != Q x) (o != a)):=by
 rw[jv,Ye (by rfl)];have e:(!_)=(o != a):=rfl;have d:Yd 2 [cn P o,cn Q a]=[_,_]:=rfl;have b:Yc (cn P o)=some _:=rfl;have c:Yc (cn Q a)=some _:=rfl;rw[d];simp[OM,rM (n:=60) (by decide) P Q,b,c,e]
abbrev Sm:=(AH)×Bool
abbrev aX(r:Sm):D:=cn r.1 r.2
noncomputable def rg(R:List Sm)(p:Nat):Sm:=R.getD p (λ_=>false,false)
def ba(R:List Sm)(ps:AE)(x:Nat):Nat:=(ps.filter λp=>decide (x∈fl 60 (rg R p).1)).length
def aK(R:List Sm)(ps:AE):Bool:=ps.foldl (λo p=>o != (rg R p).2) false
theorem xx(R:List Sm)(ps:AE)(p x:Nat):ba R (ps++[p]) x=if x∈fl 60 (rg R p).1 then ba R ps x+1 else ba R ps x:=by
 unfold ba
 split<;>ext
def QD(R:List Sm)(ps:AE)(p:Nat):aK R (ps++[p])=(aK R ps != (rg R p).2):=by
 unfold aK;rw[List.foldl_append];rfl
theorem IQ(h:∀x,x<60->P x=Q x):cn P o=cn Q o:=by
 have:=List.filter_congr λx a=>h x (Qb a);grind
def IR{R:List Sm}{p:Nat}(h:p<R.length):aY (R.map aX) (p:Int)=some (aX (rg R p)):=by
 rw[gW,kK h];simp[rg,h]
abbrev aV(R:List Sm)(ps:AE):D:=cn (λx=>decide (ba R ps x%2=1)) (aK R ps)
theorem IS(R:List Sm)(q:AE)(p:Nat):cn (λx=>decide (ba R q x%2=1)!=(rg R p).1 x) (aK R q != (rg R p).2)=aV R (q++[p]):=by
 unfold aV;rw[QD];refine IQ λx hx=>?_;rw[xx];by_cases h:(rg R p).1 x=true
 .rw[if_pos (List.mem_filter.mpr ⟨List.mem_range.mpr hx,h⟩),h]
  by_cases z:ba R q x%2=1
  .have z2:¬(ba R q x+1)%2=1:=by ac_nf
   simp[z,z2]
  .have z2:(ba R q x+1)%2=1:=by ac_nf
   simp[z,z2]
 .rw[if_neg λz=>h (Qc z).2]
  simp[h]
theorem IT{cp:D}{R:List Sm}{ps:AE}(hp:Yc cp=some (ps.map nD))(hlt:∀p∈ps,p<R.length):qF [.tup [.str "sums",.tup (R.map aX)],cp]=some (aV R ps):=by
 rw[qF,Ye (by rfl)];generalize hb:D.tup [.str "sums",.tup (R.map aX)]=Bo
 have hbi:Yc Bo=some [.str "sums",.tup (R.map aX)]:=by rw[<-hb];rfl
 have h0:aV R []=.tup [.tup [],.bl false]:=by
  have:(fl 60 λx=>decide (ba R [] x%2=1))=[]:=by
   rw[List.filter_eq_nil_iff];intro x _;simp[ba]
  unfold aV cn;rw[this];rfl
 obtain⟨ρ1,e1,y3,rfl⟩:=fJ (gt:=aj 3) (fb:=Gu) nD (λpre ρ=>∃y3:AQ,ρ=[↑Bo,↑cp,↑(aV R pre),y3]) ps []
  [↑Bo,↑cp,↑(.tup [.tup [],.bl false]),none] ⟨none,by rw[h0]⟩ (by
   rintro q p r ρ e ⟨y3,rfl⟩;have hpl:p<R.length:=hlt p (by rw[Qj]at e;rw[e];simp);have hat:=IR hpl;have hba:=IP (λx=>decide (ba R q x%2=1)) (rg R p).1 (aK R q) (rg R p).2;rw[IS]at hba;refine⟨_,[↑Bo,↑cp,↑(aV R (q++[p])),↑(nD p)],rfl,?_,_,rfl⟩;have hpn:nD p=.int (p:Int):=rfl;rw[hpn];generalize aV R (q++[p])=T2,R.map aX=A at *;have hat':aY A (p:Int)=some (cn (rg R p).1 (rg R p).2):=hat;generalize cn (rg R p).1 (rg R p).2=S at *
   change jv [aV R q,S]=_ at hba
   generalize aV R q=T1 at *
   simp[Gu,hbi,hat',hba])
 have hst:Yd 4 [Bo,cp]=[↑Bo,↑cp,none,none]:=rfl;rw[hst];rw[Qj]at e1;generalize aV R ps=T at *;simp[qE,hp]at e1 ⊢;rw[e1];simp
theorem IU(l:AE)(e:l.Nodup)(f:l.length<64):∃b:AE,b.Perm l/\b.Pairwise (·<·)/\fV [.lst (l.map nD)]=some (b.map nD):=by
 have d:=eU (l.map λx:Nat=>x);have hs:=gk (l.map λx:Nat=>x)
 have e2:∃b:AE,de (l.map λx:Nat=>x)=b.map λx:Nat=>(x:Int):=by
  refine⟨(de (l.map λx:Nat=>x)).map Int.toNat,?_⟩;rw[Qf];refine(List.map_id _).symm.trans (Qq λx g=>?_);obtain⟨y,_,rfl⟩:=qy (d.mem_iff.mp g);simp
 obtain⟨b,e2⟩:=e2;rw[e2]at d hs
 have c:=by
  have:=d.map Int.toNat;simpa [wu]using this
 refine⟨b,c,?_,?_⟩
 .exact(((List.pairwise_map.mp hs).imp λh=>by ac_nf).and (c.nodup_iff.mpr e)).imp λh=>Nat.lt_of_le_of_ne h.1 h.2
 .show i_ (l.map nD)=_
  unfold i_;simp[f,e2,wu]
def rN{l:AE}(a:l.Pairwise (·<·))(h:∀x∈l,x<60)(o:Bool):D.tup [.tup (l.map nD),.bl o]=aX (λx=>decide (x∈l),o):=by
 unfold aX cn;rw[<-rL a h]
theorem rO(f g:AH):∀l:AE,(l.filter λp=>f p != g p).length+2*(l.filter λp=>f p&&g p).length=(l.filter f).length+(l.filter g).length
 | []=>rfl
 | a::l=>by
   have d:=rO f g l;cases c:f a<;>cases b:g a<;>simp[c,b]<;>lia
theorem IV(R:List Sm)(ps:AE):aK R ps=decide ((ps.filter λp=>(rg R p).2).length%2=1):=by
 have b:∀(l:AE) (o:Bool),l.foldl (λo p=>o != (rg R p).2) o=(o != decide ((l.filter λp=>(rg R p).2).length%2=1)):=λl=>by
  induction l with
  | nil=>intro o;simp
  | cons a l c=>
    symm
 unfold aK
 ext
theorem rP(h:a+2*k=b+c):decide (a%2=1)=(decide (b%2=1)!=decide (c%2=1)):=by grind
theorem IW(R:List Sm)(W V:AH):cn (λx=>decide (ba R (fl 60 W) x%2=1)!=decide (ba R (fl 60 V) x%2=1)) (aK R (fl 60 W)!=aK R (fl 60 V))=aV R (fl 60 λp=>W p != V p):=by
 have hx:∀h:AH,(((fl 60 λp=>W p != V p).filter h).length+2*((List.range 60).filter λp=>(W p&&h p)&&(V p&&h p)).length)=((fl 60 W).filter h).length+((fl 60 V).filter h).length:=λh=>by
  have:=rO (λp=>W p&&h p) (λp=>V p&&h p) (List.range 60);rw[List.filter_filter,List.filter_filter,List.filter_filter]
  have e1:((List.range 60).filter λp=>h p&&(W p != V p))=(List.range 60).filter λp=>(W p&&h p)!=(V p&&h p):=List.filter_congr λp _=>by cases h p<;>cases W p<;>cases V p<;>rfl
  have e2:((List.range 60).filter λp=>h p&&W p)=(List.range 60).filter λp=>W p&&h p:=List.filter_congr λp _=>by cases h p<;>cases W p<;>rfl
  have e3:((List.range 60).filter λp=>h p&&V p)=(List.range 60).filter λp=>V p&&h p:=List.filter_congr λp _=>by cases h p<;>cases V p<;>rfl
  rw[e1,e2,e3];exact this
 unfold aV;rw[IV,IV,IV,<-rP (hx λp=>(rg R p).2)];refine IQ λx _=>?_;exact(rP (hx λp=>decide (x∈fl 60 (rg R p).1))).symm
abbrev aN(R:List Sm)(W:AH):D:=.tup [.tup ((fl 60 W).map nD),aV R (fl 60 W)]
def ZR(R:List Sm)(W V:AH):vP [aN R W,aN R V]=some (aN R λp=>W p != V p):=by
 rw[vP,Ye (by rfl)];have b:=IP (λx=>decide (ba R (fl 60 W) x%2=1)) (λx=>decide (ba R (fl 60 V) x%2=1)) (aK R (fl 60 W)) (aK R (fl 60 V));rw[IW]at b;have a:Yd 2 [aN R W,aN R V]=[_,_]:=rfl;rw[a];simp[ON,rM (n:=60) (by decide) W V,b]
def tP(R:List Sm)(W:AH):AH:=λx=>decide (ba R (fl 60 W) x%2=1)
def Last(P:AH)(b:Nat):Prop:=b<60/\P b=true/\∀x,x<60->P x=true->x<=b
theorem IX(P:AH):fl 60 P=[]\/∃b,Last P b/\fl 60 P≠[]/\aY ((fl 60 P).map nD) (-1)=some (nD b):=by
 cases e:(fl 60 P).getLast? with
 | none=>exact .inl (List.getLast?_eq_none_iff.mp e)
 | some b=>
   right;obtain⟨d,f⟩:=List.getLast?_eq_some_iff.mp e;have c:(fl 60 P).Pairwise _:=List.pairwise_lt_range.filter _
   have g:b∈fl 60 P:=by rw[f];simp
   refine⟨b,⟨Qb (Qc g).1,(Qc g).2,λx i j=>?_⟩,by rw[f];simp,?_⟩
   .have a:x∈fl 60 P:=List.mem_filter.mpr ⟨List.mem_range.mpr i,j⟩
    rw[f]at a c;rcases qw a with a|a
    .exact Nat.le_of_lt ((List.pairwise_append.mp c).2.2 x a b nofun)
    .rw[List.mem_singleton.mp a];exact qv _
   .rw[f,wt]
    unfold aY dM
    have h:(d.map nD++[b].map nD).length=d.length+1:=by simp
    rw[h,if_neg ∅,if_pos (by ext<;>ac_nf)]
    have:((-1:Int)+((d.length+1:Nat))).toNat=d.length:=by ac_nf
    rw[this];simp
def Last.uniq(h:Last P a)(h':Last P b):a=b:=Nat.le_antisymm (h'.2.2 a h.1 h.2.1) (h.2.2 b h'.1 h'.2.1)
abbrev dn:=Nat×(AH)
abbrev bQ(BL:List dn):AN:=(BL.map (·.1)).map nD
abbrev bo(R:List Sm)(BL:List dn):AN:=BL.map λr=>aN R r.2
theorem QE:∀{a:List dn},b∈a.map (·.1)->∃r∈a,r.1=b/\Yn ((a.map (·.1)).map λx:Nat=>(x:Int)) (bo R a) (b:Int)=some (aN R r.2)
 | [],h=>nomatch h
 | r::a,h=>by
   show ∃s∈_,_/\Yn (_::_) (_::_) _=_;rw[Yn];by_cases e:r.1=b
   .exact⟨r,qh,e,by rw[if_pos ∅]⟩
   .have c:b∈a.map (·.1):=by
     rcases qu h with z|z
     .exact absurd z.symm e
     .exact z
    obtain⟨s,f,d,g⟩:=QE c;exact⟨s,qg _ f,d,by rwa [if_neg ∅]⟩
theorem rQ(R:List Sm)(W V:AH)(x:Nat)(f:x<60):tP R (λp=>W p != V p) x=(tP R W x != tP R V x):=by
 have b:=congrArg (λd=>match d with|.tup [.tup l,_]=>M.intsD l|_=>none) (IW R W V);dsimp only at b;rw[gA,gA]at b
 have a:x∈(fl 60 λx=>decide (ba R (fl 60 W) x%2=1)!=decide (ba R (fl 60 V) x%2=1))↔x∈(fl 60 λx=>decide (ba R (fl 60 λp=>W p != V p) x%2=1)):=by
  rw[<-mem_castI,<-mem_castI,w4 b]
 rw[Ql,Ql]at a;have c:=List.mem_range.mpr f;show decide _=_;cases e:decide (ba R _ x%2=1)
 .cases g:(tP R W x != tP R V x)
  .rfl
  .exact absurd (a.mp ⟨c,g⟩).2 (by ext)
 .exact(a.mpr ⟨c,e⟩).2.symm
theorem IY(R:List Sm)(W V:AH):aK R (fl 60 λp=>W p != V p)=(aK R (fl 60 W)!=aK R (fl 60 V)):=by
 have h:=IW R W V
 ext
inductive Red (R:List Sm) (BL:List dn) (e:Bool):(AH)->Bool->Prop
 | zero {T:AH}{o:Bool}:(∀x,x<60->T x=false)->(e=false->o=false)->Red R BL e T o
 | step {T:AH}{o:Bool} (r:dn):r∈BL->Last T r.1->Red R BL e (λx=>T x != tP R r.2 x) (o != aK R (fl 60 r.2))->Red R BL e T o
theorem Last.congr(h:Last T b)(e:∀x,x<60->T x=a x):Last a b:=⟨h.1,by rw[<-e b h.1];exact h.2.1,λx c d=>h.2.2 x c (by ext)⟩
theorem Red.congr(h:Red R BL e T o):∀{a:AH},(∀x,x<60->T x=a x)->Red R BL e a o:=by
 induction h with
 | zero j g=>exact λb=>.zero (λx c=>by ext) g
 | step r d i _ f=>exact λb=>.step r d (i.congr b) (f λx c=>by ext)
theorem Red.mono(i:∀r∈BL,r∈a)(k:e=true->d=true)(h:Red R BL e T o):Red R a d T o:=by
 induction h with
 | zero g f=>
   refine .zero g λz=>f ?_;grind
 | step r b j _ c=>exact .step r (i r b) j c
theorem QF(A:∀r∈BL,Last (tP R r.2) r.1/\∀p,r.2 p=true->p<n)(w:AQ):∀(k a:Nat) (W:AH),(∀x,x<60->tP R W x=true->x<k)->k<a->(∀p,W p=true->p<n)->
 ∃V:AH,(∀p,V p=true->p<n)/\(fl 60 (tP R V)=[]\/∃b,Last (tP R V) b/\b∉BL.map (·.1))/\(∀(c:List dn) (e:Bool),(∀r∈BL,r∈c)->Red R c e (tP R V) (aK R (fl 60 V))->Red R c e (tP R W) (aK R (fl 60 W)))/\
  dv (bC (b1 (b2 (b2 (aa 2) (aaa 1) ai) (aaa 0) ai) aD) (b2 (b2 (b2 (b2 (aa 2) (aaa 1) ai) (aaa 0) ai) (b1 (aaa 1) bD) ai) (aa 1) (cO false))) Gy a [w,↑(.dct false (bQ BL) (bo R BL)),↑(aN R W)] =
   some (.nx [w,↑(.dct false (bQ BL) (bo R BL)),↑(aN R V)])
 | k,0,W,_,h,_=>absurd h (Nat.not_lt_zero _)
 | k,a+1,W,Z,hf,y=>by
   have F:Yc (aN R W)=some [.tup ((fl 60 W).map nD),.tup [.tup ((fl 60 (tP R W)).map nD),.bl (aK R (fl 60 W))]]:=rfl;rw[dv];rcases IX (tP R W)with J|⟨b,m,G,i⟩
   .refine⟨W,y,.inl J,λ_ _ _ z=>z,?_⟩
    ext
   .have f:((fl 60 (tP R W)).map nD).isEmpty=false:=by
     ext
    have d:cO false (.int (b:Int)) (.dct false (bQ BL) (bo R BL))=some (decide (b∈BL.map (·.1))):=by
     rw[o4,gA,Option.map_some]
     ext
    have t:nD b=.int (b:Int):=rfl;rw[t]at i;by_cases s:b∈BL.map (·.1)
    .obtain⟨r,D,o,g⟩:=QE (R:=R) s
     have O:cN (.dct false (bQ BL) (bo R BL)) (.int (b:Int))=some (aN R r.2):=by
      rw[jk,gA,qd];exact g
     have u:=ZR R W r.2;obtain⟨l,L⟩:=A r D;rw[o]at l;have I:b<k:=Z b m.1 m.2.1
     obtain⟨v,rfl⟩:∃v,k=v+1:=⟨k-1,by lia⟩
     obtain⟨V,U,T,N,Q⟩:=QF A w v a (λp=>W p != r.2 p) (λx q j=>by
      rw[rQ R W r.2 x q]at j
      have M:x≠b:=λz=>by
       subst z;rw[m.2.1,l.2.1]at j;grind
      have H:x<=b:=by
       cases E:tP R W x
       .rw[E]at j
        cases S:tP R r.2 x
        .grind
        .exact l.2.2 x q S
       .exact m.2.2 x q E
      lia) (by lia) (λp hp=>by
      grind)
     refine⟨V,U,T,λc e C Y=>?_,?_⟩
     .refine .step r (C r D) (o ▸ m) ?_
      rw[<-IY];exact(N c e C Y).congr λx q=>rQ R W r.2 x q
     rw[wn s]at d;generalize bQ BL=K,bo R BL=VV at *;simp[F,f,i,d,Gy,O,u,-o4,-jk];exact Q
    .refine⟨W,y,.inr ⟨b,m,s⟩,λ_ _ _ z=>z,?_⟩
     rw[wo s]at d;generalize aN R W=PW,bQ BL=K,bo R BL=VV at *;simp[F,f,i,d,-o4]
theorem IZ(h:∀r∈BL,Last (tP R r.2) r.1/\∀p,r.2 p=true->p<n)(W:AH)(d:∀p,W p=true->p<n):
 ∃V:AH,(∀p,V p=true->p<n)/\(fl 60 (tP R V)=[]\/∃b,Last (tP R V) b/\b∉BL.map (·.1))/\(∀(a:List dn) (e:Bool),(∀r∈BL,r∈a)->Red R a e (tP R V) (aK R (fl 60 V))->Red R a e (tP R W) (aK R (fl 60 W)))/\mG [aN R W,.dct false (bQ BL) (bo R BL)]=some (aN R V):=by
 obtain⟨V,j,g,f,l⟩:=QF h (↑(aN R W)) 60 4000 W (λx c _=>c) (by lia) d;refine⟨V,j,g,f,?_⟩;rw[mG,Ye (by rfl)];have i:Yd 3 [aN R W,.dct false (bQ BL) (bo R BL)]=[_,_,none]:=rfl;generalize D.dct _ _ _=k at *;rw[OP]
 ext
theorem lg(l:AE):ej (l.map nD)=true:=by
 induction l with
 | nil=>rfl
 | cons a l b=>
   rw[Qd,ej,b];rfl
def I0(R:List Sm)(W:AH):jg (aN R W)=true:=by
 show jg (.tup [_,.tup [.tup ((fl 60 (tP R W)).map nD),_]])=true;simp [jg,ej,lg (fl 60 W),lg (fl 60 (tP R W))]
theorem xy(a:p<60):fl 60 (λx=>decide (x=p))=[p]:=by
 have h:=rL (n:=60) (l:=[p]) nofun (by ext)
 ext
theorem I1(R:List Sm)(p:Nat):aV R [p]=aX (rg R p):=by
 have a:aK R [p]=(rg R p).2:=by
  unfold aK
  ext
 unfold aV aX;rw[a];refine IQ λx b=>?_;have:=xx R [] p x;have c:ba R [] x=0:=rfl
 ext<;>lia
def I_(R:List Sm)(a:p<60):D.tup [.tup [nD p],aX (rg R p)]=aN R λx=>decide (x=p):=by
 show _=D.tup _;rw[xy a,I1];rfl
def dg:Option AH->D
 | none=>.non
 | some U=>.tup ((fl 60 U).map nD)
def rR(R:List Sm)(n:Nat)(U:Option AH):Prop:=∀a,U=some a->fl 60 (tP R a)=[]/\aK R (fl 60 a)=true/\∀p,a p=true->p<n
def jC(R:List Sm)(n:Nat)(BL:List dn):Prop:=(∀r∈BL,Last (tP R r.2) r.1/\∀p,r.2 p=true->p<n)/\(BL.map (·.1)).Nodup
theorem Ja(hn:n<=60)(hB:jC R n BL)(hU:rR R n U)(hl:BL.length<=1000)(hp:p<n)(d0 y5 y6:AQ):
 ∃(BL':List dn) (U':Option AH) (y5' y6':AQ),jC R n BL'/\rR R n U'/\BL'.length<=BL.length+1/\(∀r∈BL,r∈BL')/\(U.isSome=true->U'.isSome=true)/\Red R BL' U'.isSome (tP R λx=>decide (x=p)) (aK R (fl 60 λx=>decide (x=p)))/\
  qG [d0,some (.od false (bQ BL) (bo R BL)),↑(dg U),↑(nD p),↑(aX (rg R p)),y5,y6]=some (.nx [d0,some (.od false (bQ BL') (bo R BL')),↑(dg U'),↑(nD p),↑(aX (rg R p)),y5',y6']):=by
 have h0:=I_ R (p:=p) (by lia)
 obtain⟨V,v1,v2,v4,v3⟩:=IZ hB.1 (λx=>decide (x=p)) (n:=n) (λq hq=>by
  have:q=p:=by simpa using hq
  lia)
 rw[<-h0]at v3;have hpl:=I0 R V;have hi:Yc (aN R V)=some [.tup ((fl 60 V).map nD),.tup [.tup ((fl 60 (tP R V)).map nD),.bl (aK R (fl 60 V))]]:=rfl;have hfz:frz [1] [d0,some (.od false (bQ BL) (bo R BL)),↑(dg U),↑(nD p),↑(aX (rg R p)),y5,y6]=[d0,↑(.dct false (bQ BL) (bo R BL)),↑(dg U),↑(nD p),↑(aX (rg R p)),y5,y6]:=rfl
 have hlend:∀f:AU,f [d0,↑(.dct false (bQ BL) (bo R BL)),↑(dg U),↑(nD p),↑(aX (rg R p)),y5,y6]=some (aN R V)->gT [1] f [d0,some (.od false (bQ BL) (bo R BL)),↑(dg U),↑(nD p),↑(aX (rg R p)),y5,y6]=some (aN R V):=λf hf=>by
  unfold gT;rw[hfz,hf,qd,if_pos hpl]
 have hcall:cC (Yb (av (Yb (av (Yb (ab 3) ae)) (Yb (ab 4) ae))) (Yb (ab 1) ae)) mG [d0,↑(.dct false (bQ BL) (bo R BL)),↑(dg U),↑(nD p),↑(aX (rg R p)),y5,y6]=some (aN R V):=by
  generalize aN R V=PV,aX (rg R p)=S1,nD p=P1,D.dct false (bQ BL) (bo R BL)=DD at *;simp[v3]
 have hc5:ar 5 (gT [1] (cC (Yb (av (Yb (av (Yb (ab 3) ae)) (Yb (ab 4) ae))) (Yb (ab 1) ae)) mG)) [d0,some (.od false (bQ BL) (bo R BL)),↑(dg U),↑(nD p),↑(aX (rg R p)),y5,y6]=some (.nx [d0,some (.od false (bQ BL) (bo R BL)),↑(dg U),↑(nD p),↑(aX (rg R p)),↑(aN R V),y6]):=by
  rw[Fc,hlend _ hcall];rfl
 rw[qG,iB,hc5,qd,mn];generalize hPV:aN R V=PV at hi ⊢;generalize aX (rg R p)=S1;generalize nD p=P1;rcases IX (tP R V)with he|⟨b,hb,hne,hat⟩
 .rw[he]at hi
  have hz:∀x,x<60->tP R V x=false:=λx hx=>by
   cases h:tP R V x
   .rfl
   .have:x∈fl 60 (tP R V):=List.mem_filter.mpr ⟨List.mem_range.mpr hx,h⟩
    rw[he]at this;exact nomatch this
  cases ho:aK R (fl 60 V)with
  | false=>
    refine⟨BL,U,↑PV,↑(.tup []),hB,hU,by lia,λ_ h=>h,λh=>h,v4 BL _ (λ_ h=>h) (.zero hz λ_=>ho),?_⟩;rw[ho]at hi;generalize bQ BL=K;generalize bo R BL=VV;simp[hi]
  | true=>
    cases U with
    | some U0=>
      refine⟨BL,some U0,↑PV,↑(.tup []),hB,hU,by lia,λ_ h=>h,λh=>h,v4 BL _ (λ_ h=>h) (.zero hz λh=>nomatch h),?_⟩;rw[ho]at hi;generalize bQ BL=K;generalize bo R BL=VV;simp[hi,dg]
    | none=>
      refine⟨BL,some V,↑PV,↑(.tup []),hB,λU' hU'=>?_,by lia,λ_ h=>h,λ_=>rfl,v4 BL _ (λ_ h=>h) (.zero hz λh=>nomatch h),?_⟩
      .cases hU'
       exact⟨he,ho,v1⟩
      .rw[ho]at hi
       generalize bQ BL=K;generalize bo R BL=VV;simp[hi,dg]
 .have hbn:b∉BL.map (·.1):=by
   rcases v2 with z|⟨c,hc,hcn⟩
   .exact absurd z hne
   .rw[hb.uniq hc];exact hcn
  refine⟨BL++[(b,V)],U,↑PV,↑(.tup ((fl 60 (tP R V)).map nD)),⟨λr hr=>?_,?_⟩,hU,by simp,λr hr=>List.mem_append_left _ hr,λh=>h,v4 _ _ (λr hr=>List.mem_append_left _ hr) (.step (b,V) nofun hb (.zero (λx _=>by simp) λ_=>by simp)),?_⟩
  .rcases qw hr with hr|hr
   .exact hB.1 r hr
   .rw[List.mem_singleton.mp hr];exact⟨hb,v1⟩
  .rw[wt]
   exact List.nodup_append.mpr ⟨hB.2,by simp,λx hx y hy z=>by
    simp at hy;subst hy
    exact hbn (z ▸ hx)⟩
  .have hemp:((fl 60 (tP R V)).map nD).isEmpty=false:=by
    cases e:fl 60 (tP R V)with
    | nil=>exact absurd e hne
    | cons a l=>rfl
   have hput:md (bQ BL) (bo R BL) (.int (b:Int)) PV=some (bQ (BL++[(b,V)]),bo R (BL++[(b,V)])):=by
    rw[mf,gA,qd,if_pos (show(bo R BL).length<aA by rw[qf];show BL.length<1000000;lia),if_neg (λz=>hbn (mem_castI.mp z)),<-hPV];simp[nD]
   have hnb:nD b=.int (b:Int):=rfl;rw[hnb]at hat;generalize bQ (BL++[(b,V)])=K2,bo R (BL++[(b,V)])=V2,bQ BL=K,bo R BL=VV,(fl 60 (tP R V)).map nD=L at *;simp[hi,hemp,hat,hput,-mf]
def Jb(R:List Sm)(hp:p<60)(x:Nat)(hx:x<60):tP R (λx=>decide (x=p)) x=(rg R p).1 x:=by
 unfold tP;rw[xy hp];have:=xx R [] p x;rw[Qj]at this;rw[this];have h1:ba R [] x=0:=rfl;rw[h1];cases e:(rg R p).1 x
 .rw[if_neg λz=>by rw[Ql,e]at z;exact qi z.2]
  rfl
 .rw[if_pos (List.mem_filter.mpr ⟨List.mem_range.mpr hx,e⟩)]
  rfl
theorem Jc(R:List Sm)(a:p<60):aK R (fl 60 λx=>decide (x=p))=(rg R p).2:=by
 rw[xy a];unfold aK
 ext
noncomputable def cx:List dn->Nat->AH
 | [],_=>λ_=>false
 | r::BL,b=>if r.1=b then r.2 else cx BL b
theorem mX(f:(AH)->D):∀{BL:List dn},b∈BL.map (·.1)->(b,cx BL b)∈BL/\Yn ((BL.map (·.1)).map λx:Nat=>(x:Int)) (BL.map λr=>f r.2) (b:Int)=some (f (cx BL b))
 | [],h=>nomatch h
 | r::BL,h=>by
   show _/\Yn (_::_) (f r.2::_) _=_;rw[Yn,cx];by_cases e:r.1=b
   ·(subst_vars;simp)
   .have a:b∈BL.map (·.1):=by
     symm
    obtain⟨c,d⟩:=mX f a
    ext
theorem QG{BL:List dn}(h:(BL.map (·.1)).Nodup)(c:r∈BL)(hs:s∈BL)(e:r.1=s.1):r=s:=by
 induction BL with
 | nil=>grind
 | cons a BL b=>
   grind
theorem xA{l:AE}(hn:l.Nodup)(b:∀x∈l,x<60):l.length<=60:=by
 have a:l.Perm (fl 60 λx=>decide (x∈l)):=(List.perm_ext_iff_of_nodup hn (List.nodup_range.filter _)).mpr λx=>by
  ext
 rw[a.length_eq];grind
theorem Jd(l:AE)(hn:l.Nodup):∃l':AE,l'.Perm l/\l'.Pairwise (·<·)/\de (l.map λx:Nat=>(x:Int))=l'.map λx:Nat=>(x:Int):=by
 have hp:=eU (l.map λx:Nat=>(x:Int));have hs:=gk (l.map λx:Nat=>(x:Int))
 have e2:∃l':AE,de (l.map λx:Nat=>(x:Int))=l'.map λx:Nat=>(x:Int):=by
  refine⟨(de (l.map λx:Nat=>(x:Int))).map Int.toNat,?_⟩;rw[Qf];refine(List.map_id _).symm.trans (Qq λx hx=>?_);obtain⟨y,_,rfl⟩:=qy (hp.mem_iff.mp hx);simp
 obtain⟨l',e2⟩:=e2;rw[e2]at hp hs
 have hp':l'.Perm l:=by
  have:=hp.map Int.toNat;simpa [wu]using this
 have hn':l'.Nodup:=hp'.nodup_iff.mpr hn
 have hs':l'.Pairwise (·<=·):=(List.pairwise_map.mp hs).imp λh=>by ac_nf
 exact⟨l',hp',(hs'.and hn').imp λh=>Nat.lt_of_le_of_ne h.1 h.2,e2⟩
theorem Je(hR:R.length<=60):∃(BL:List dn) (U:Option AH),jC R R.length BL/\rR R R.length U/\BL.Pairwise (λr s=>r.1<s.1)/\
 (∀p,p<R.length->Red R BL U.isSome (rg R p).1 (rg R p).2)/\
 qH [.tup [.str "sums",.tup (R.map aX)]]=some (.tup [.lst (bo R BL),dg U]):=by
 generalize l:D.tup [.str "sums",.tup (R.map aX)]=a
 have hbi:Yc a=some [.str "sums",.tup (R.map aX)]:=by rw[<-l];rfl
 obtain⟨ρ1,e1,BL,U,u,t,j,k,f,Q,G,A,rfl⟩:=fJ (gt:=fU 3 4) (fb:=qG) (λi:Nat=>D.tup [.int (i:Int),aX (rg R i)]) (λw V=>∃(BL:List dn) (U:Option AH) (u t j k:AQ),jC R R.length BL/\rR R R.length U/\BL.length<=w.length/\(∀p∈w,Red R BL U.isSome (tP R λx=>decide (x=p)) (aK R (fl 60 λx=>decide (x=p))))/\
  V=[↑a,some (.od false (bQ BL) (bo R BL)),↑(dg U),u,t,j,k]) (List.range R.length) []
  [↑a,some (.od false [] []),↑.non,none,none,none,none] ⟨[],none,none,none,none,none,⟨by simp,by simp⟩,λ_ h=>(nomatch h),by simp,by simp,rfl⟩ (by
   rintro q p r V e ⟨BL,U,u,t,j,k,f,Q,G,A,rfl⟩
   have O:p<R.length:=by
    have:p∈List.range R.length:=by ext
    grind
   have hq:q.length<=R.length:=by have:=congrArg List.length e;grind
   obtain⟨C,U',E,S,H,I,hL',hs,hu,T,n⟩:=Ja hR f Q (by lia) O (↑a) j k;refine⟨_,_,rfl,n,C,U',_,_,E,S,H,I,by simp;lia,λp' c=>?_,rfl⟩;rcases qw c with z|z
   .exact(A p' z).mono hs hu
   ext)
 rw[Qj]at G A;rw[List.length_range]at G
 have g:∀x∈BL.map (·.1),x<60:=λx M=>by
  obtain⟨r,o,rfl⟩:=qy M;exact(f.1 r o).1.1
 obtain⟨d,c,hpw,K⟩:=Jd (BL.map (·.1)) f.2;have Y:=xA f.2 g;have v:∀b∈d,(b,cx BL b)∈BL:=λb l=>(mX (aN R) (c.mem_iff.mp l)).1
 have m:(d.map λb=>(b,cx BL b)).map (·.1)=d:=by
  rw[Qf];exact List.map_id _
 have y:∀r∈BL,r∈d.map λb=>(b,cx BL b):=λr o=>by
  have h1:r.1∈d:=c.mem_iff.mpr (Qs (f:=(·.1)) o);have h2:=QG f.2 o (v r.1 h1) rfl;grind
 refine⟨d.map λb=>(b,cx BL b),U,⟨λr o=>?_,?_⟩,Q,?_,λp O=>?_,?_⟩
 .obtain⟨b,l,rfl⟩:=qy o
  exact f.1 _ (v b l)
 .rw[m];exact c.nodup_iff.mpr f.2
 .grind
 .have:=(A p (List.mem_range.mpr O)).mono y (λh=>h)
  rw[Jc R (by lia)]at this;exact this.congr λx M=>Jb R (by lia) x M
 .rw[qH,Ye (by rfl)]
  have n:Yd 7 [a]=[↑a,none,none,none,none,none,none]:=rfl;have hen:fW (R.map aX)=(List.range R.length).map λi:Nat=>D.tup [.int (i:Int),aX (rg R i)]:=N8 aX (λ_=>false,false) R
  have N:ku [.dct false (bQ BL) (bo R BL)]=some (d.map nD):=by
   rw[Nr,gA,qd,if_pos (by grind),K,Qf];rfl
  have L:=bV (fe:=Gz) (r:=[↑(.dct false (bQ BL) (bo R BL))]) (enc:=nD) (λb=>aN R (cx BL b)) (l:=d) (λb l=>by
   have hg:cN (.dct false (bQ BL) (bo R BL)) (.int (b:Int))=some (aN R (cx BL b)):=by
    rw[jk,gA,qd];exact(mX (aN R) (c.mem_iff.mp l)).2
   have F:nD b=.int (b:Int):=rfl;rw[F];generalize aN R (cx BL b)=PB,D.dct false (bQ BL) (bo R BL)=DD at *
   simp[Gz,hg,-jk])
  have J:bo R (d.map λb=>(b,cx BL b))=d.map λb=>aN R (cx BL b):=by
   ext
  rw[J];rw[n,GE,iB];have e0:ma 1 [↑a,none,none,none,none,none,none]=some (.nx [↑a,some (.od false [] []),none,none,none,none,none]):=rfl;rw[e0,qd,mn,GC,iB];have e2:ar 2 (kD .non) [↑a,some (.od false [] []),none,none,none,none,none]=some (.nx [↑a,some (.od false [] []),↑.non,none,none,none,none]):=rfl;rw[e2,qd,mn,GB,iB]
  have Z:bf (b1 (b2 (aa 0) (aaa 1) ai) gn) (fU 3 4) qG [↑a,some (.od false [] []),↑.non,none,none,none,none]=some (.nx [↑a,some (.od false (bQ BL) (bo R BL)),↑(dg U),u,t,j,k]):=by
   ext
  rw[Z,qd,mn,GA,kI];have e4:frz [1] [↑a,some (.od false (bQ BL) (bo R BL)),↑(dg U),u,t,j,k]=[↑a,↑(.dct false (bQ BL) (bo R BL)),↑(dg U),u,t,j,k]:=rfl;rw[e4];generalize (d.map λb=>aN R (cx BL b))=RR,D.dct false (bQ BL) (bo R BL)=DD,dg U=VU at *;simp[N,ao,L]
theorem Jf{Q:(AH)->Bool->Prop}(h0:Q (λ_=>false) false)(c:∀{T S o u},Q T o->Q S u->Q (λx=>T x != S x) (o != u))(f:∀{T d o},Q T o->(∀x,x<60->T x=d x)->Q d o)(h:∀p∈ps,Q (rg R p).1 (rg R p).2):Q (λx=>decide (ba R ps x%2=1)) (aK R ps):=by
 have b:∀l:AE,(∀p∈l,Q (rg R p).1 (rg R p).2)->Q (λx=>decide (ba R l.reverse x%2=1)) (aK R l.reverse):=λl=>by
  induction l with
  | nil=>exact λ_=>f h0 λx _=>rfl
  | cons p l g=>
    intro e;rw[List.reverse_cons,QD];refine f (c (g λq i=>e q (qg _ i)) (e p qh)) λx c=>?_;rw[xx];cases a:(rg R p).1 x
    .rw[if_neg λz=>by rw[Ql,a]at z;exact qi z.2]
     cases decide (ba R _ x%2=1)<;>rfl
    .rw[if_pos (List.mem_filter.mpr ⟨List.mem_range.mpr c,a⟩)]
     by_cases z:ba R l.reverse x%2=1
     .rw[wn z,wo ∅];rfl
     .rw[wo z,wn ∅];rfl
 have:=b _ λp a=>h p (List.mem_reverse.mp a)
 rwa [List.reverse_reverse]at this
noncomputable def aE(b:Bool):D:=.str (if b=true then .ofString "keeper" else .ofString "storm")
theorem ZU(c:Int)(n:Nat)(hn:n<=1000):∃hs:AG,hs.length=n/\xo [.int c,.int n]=some (.tup (hs.map aE)):=by
 obtain⟨v,h,g⟩:=xu c 1442695040888963407;rw[xo,Ye (by rfl)];have e:=Fw (n:=n) (by lia) (by lia);rw[pM]at e
 have f:=bV (fe:=xn) (r:=[↑(.int v)]) (enc:=λi:Nat=>.int (0+i)) (λi=>aE (decide (v/2^i%2=0))) (l:=.range ((n:Int)-0).toNat) (λi _=>by
  have d:=mh v i
  have b:v/2^i%2=0\/v/2^i%2=1:=by lia
  rcases b with b|b
  .simp[xn,d,b,aE]
  .simp[xn,d,b,aE])
 refine⟨(List.range n).map λi=>decide (v/2^i%2=0),by simp,?_⟩;simp[PZ,Yd,g,e,ao]at f ⊢;rw[f];simp[wu]
theorem Jg(l:AE)(hn:l.Nodup)(j:l.length<64):∃a:AE,a.Perm l/\a.Pairwise (·<·)/\fV [.lst (l.map nD)]=some (a.map nD):=by
 have i:l.map nD=(l.map .ofNat).map .int:=by ext
 have g:=eU (l.map .ofNat);have f:=gk (l.map .ofNat)
 have d:∃a:AE,de (l.map .ofNat)=a.map .ofNat:=by
  refine⟨(de (l.map .ofNat)).map Int.toNat,?_⟩;rw[Qf];refine(List.map_id _).symm.trans (Qq λx k=>?_);grind
 obtain⟨a,d⟩:=d;rw[d]at g f
 have c:=by
  have:=g.map Int.toNat;simpa [wu]using this
 refine⟨a,c,?_,?_⟩
 .have e:a.Pairwise (·<=·):=by
   have:=List.pairwise_map.mp f
   ext
  exact(e.and (c.nodup_iff.mpr hn)).imp λh=>Nat.lt_of_le_of_ne h.1 h.2
 .show i_ _=_
  rw[i];unfold i_;rw[mv]
  ext
def rS(a b:Bool):az false (aE a) (aE b)=some (a==b):=by
 cases a<;>cases b<;>decide +kernel
noncomputable def aw(hs:AG)(st:Nat)(b:Bool):AE:=(List.range hs.length).filter λi=>decide (st<=i)&&(hs.getD i false==b)
theorem Yi(hs:AG)(h:Yc c=some (hs.map aE))(q:hs.length<=1000)(st:Nat)(n:st<=hs.length)(b:Bool):Yq [c,.int st,aE b]=some (.lst ((aw hs st b).map nD)):=by
 rw[Yq,Ye (by rfl)];have g:=N4 (a:=st) (n:=hs.length) (by lia) (by lia) (by lia) (by lia);rw[pM]at g
 have d:=gX (fc:=Gm) (fe:=Gn) (r:=[↑c,↑(aE b)]) (enc:=λi:Nat=>D.int (st+i)) (λi=>hs.getD (st+i) false==b) (λi=>nD (st+i)) (l:=List.range ((hs.length:Int)-st).toNat) (λi p=>by
  have e:st+i<hs.length:=by grind
  have k:st+(i:Int)=((st+i:Nat)):=by lia
  have f:aY (hs.map aE) ((st+i:Nat))=some (aE (hs.getD (st+i) false)):=by
   rw[gW,kK e];simp[e]
  rw[k]
  simp only[Gm,E8,UK,UI,qd,Fm,h,f,rS]) (λi _ _=>by simp[Gn,nD])
 have m:(((List.range ((hs.length:Int)-st).toNat).filter λi=>hs.getD (st+i) false==b).map λi=>nD (st+i))=(aw hs st b).map nD:=by
  unfold aw
  have o:List.range hs.length=List.range st++(List.range (hs.length-st)).map (st+·):=by
   rw[<-List.range_add]
   ext
  rw[o,List.filter_append,List.filter_map]
  have l:(List.range st).filter (λi=>decide (st<=i)&&(hs.getD i false==b))=[]:=by
   rw[List.filter_eq_nil_iff];grind
  rw[l,Qj];simp[wu]
 have j:((hs.length:Int)-st).toNat=hs.length-st:=by ext
 rw[m,j]at d;simp[OK,Yd,h,g,ao,d]
def fv(k:Kd)(r:Rl):Bool:=bp (aO r) (aO (vd k))
def QH{R:List Rl}(b:∀r∈R,In k n r/\sz r<=999999):mL [bq k R]=some (.bl (R.any (fv k))):=by
 rw[mL,Ye (by rfl)]
 simp[O1,Yd,ao,bV (fe:=GY) (r:=[↑(bq k R)]) (enc:=aO) (λr=>.bl (fv k r)) (λr a=>by
  have:=Qx (b r a).1 (b r a).2
  simp[GY,this,fv])]
abbrev rT:D:=.tup [.str "broken"]
def Jh{r:Rl}{n:Nat}(h:In .n n r):fv .i (eC r)=fv .n r:=by
 cases r with
 | ei l=>cases h.1
 | su l o=>cases h.1
 | im l o=>rfl
def Yu{a b:String}(h:(Str.ofString a==Str.ofString b)=false)(neg:Bool):az neg (.str (Str.ofString a)) (.str (Str.ofString b))=some neg:=by
 rw[fI nofun nofun,NZ,h];cases neg<;>rfl
def cX(a:String)(neg:Bool):az neg (.str (Str.ofString a)) (.str (Str.ofString a))=some (!neg):=by
 rw[fI nofun nofun,NZ];cases neg<;>simp
theorem QI(j:Nat){k:Kd}(hk:k≠.n){n:Nat}{R:List Rl}(hR:∀r∈R,In k n r/\eB r)(hn:n<=60){c:D}{hs:AG}(hc:Yc c=some (hs.map aE))(hl:hs.length<=1000){st:Nat}(hst:st<=hs.length):
 Yp (j+1) [rT,bq k R,c,.int st]=some (.bl (R.any (fv k))):=by
 rw[Yp,Ye (by rfl)];have h1:=QH (k:=k) (n:=n) (R:=R) (λr hr=>⟨(hR r hr).1,by have:=FL (hR r hr).1 (hR r hr).2;ac_nf⟩);have b1:=Yi hs hc hl st hst true;have b2:=Yi hs hc hl st hst false;simp[aE]at b1 b2;have e1:=cX "broken" false;simp at e1;simp[kW,Yd,hk,b1,b2,e1,h1]
theorem ZV{k:Kd}{n:Nat}{R:List Rl}(hR:∀r∈R,In k n r/\eB r)(hn:n<=60){c:D}{hs:AG}(hc:Yc c=some (hs.map aE))(hl:hs.length<=1000){st:Nat}(hst:st<=hs.length):
 y2 [rT,bq k R,c,.int st]=some (.bl (R.any (fv k))):=by
 by_cases hk:k=.n
 .subst hk
  have hx:=Qy hR
  have hX:∀r∈R.map eC,In .i n r/\eB r:=λr hr=>by
   obtain⟨q,hq,rfl⟩:=qy hr;exact IH (hR q hq).1 (hR q hq).2
  have h1:=QI 10 (k:=.i) (by decide) hX hn hc hl hst
  have ha:(R.map eC).any (fv .i)=R.any (fv .n):=by
   have:∀Q:List Rl,(∀r∈Q,In .n n r)->(Q.map eC).any (fv .i)=Q.any (fv .n):=by
    intro Q
    induction Q with
    | nil=>intro _;rfl
    | cons r Q ih=>
      intro h;rw[Qd,List.any_cons,List.any_cons,Jh (h r qh),ih λq hq=>h q (qg _ hq)]
   exact this R λr hr=>(hR r hr).1
  rw[ha]at h1;rw[y2,Yp,Ye (by rfl)];simp only[jA]at hx;simp[kW,Yd,hx,h1]
 .exact QI 11 hk hR hn hc hl hst
def cH(ks:AE):D:=.dct false (ks.map nD) (ks.map λ_=>.bl true)
theorem rV(l:AE):intsD (l.map nD)=some (l.map λx:Nat=>(x:Int)):=by ext
def xB(x:Nat)(ks:AE):((x:Int)∈ks.map λx:Nat=>(x:Int))↔x∈ks:=by simp
def Ji(x:Nat)(ks:AE)(a:Bool):dD a (nD x) (cH ks)=some (decide (x∈ks)!=a):=by
 rw[cH,CI,rV,Option.map_some,decide_eq_decide.mpr (xB x ks)]
def Jj(x:Nat)(ks:AE)(a:Bool):cO a (.int (x:Int)) (cH ks)=some (decide (x∈ks)!=a):=by
 rw[cH,o4,rV,Option.map_some,decide_eq_decide.mpr (xB x ks)]
theorem Jk(ks:AE)(hk:∀x∈ks,x<60)(neg:Bool):cO neg .non (cH ks)=some (false != neg):=by
 rw[cH,C0,rV,qd,if_pos];unfold mj;rw[List.all_eq_true];intro n hn;obtain⟨y,hy,rfl⟩:=qy hn;have:=hk y hy;simp only[wm];lia
def Jl(x:Nat)(ks:AE):cb false (nD x) (cH ks)=none:=rfl
def ZX(r:a_)(ks:AE):jy [dw r,cH ks]=some (.bl (kn r.1 ks)):=by
 rw[jy,Ye (by rfl)];simp[vY,Yd,ao,bV (fe:=mH) (r:=[↑(cH ks)]) (enc:=nD) (λx=>.bl (decide (x∈ks))) (l:=r.1) (λx _=>by simp[mH,Ji x ks false,Jl x ks]),kn]
theorem ZY(R:List a_)(ks:AE)(i:Nat)(h:i<R.length):kT [Yr R,cH ks,.int (i:Int)]=some (.bl ((ax R i).2.isSome&&kn (ax R i).1 ks)):=by
 rw[kT,Ye (by rfl)];have b:=jB (R:=R) (i:=i) ⟨by lia,by ext⟩;have a:=xw R i;rw[wn (by ext)]at a
 cases c:(ax R i).2 with
 | none=>simp[mI,Yd,a,b,c,aq]
 | some x=>simp[mI,Yd,a,b,ZX (ax R i) ks,c,aq]
def rW(R:List a_)(ks:AE)(i:Nat):Bool:=match (ax R i).2 with
 | none=>false
 | some x=>!decide (x∈ks)&&kn (ax R i).1 ks
def dS(R:List a_)(ks:AE):AL:=(List.range R.length).find? (rW R ks)
theorem Jm{f:Type}(enc:f->D)(p:f->Bool)(e:f->D)(I:Ro->Prop):∀(l:List f) (ρ:Ro),I ρ->
 (∀a∈l,∀ρ,I ρ->∃d,gt (enc a) ρ=some d/\((p a=false/\∃c,fb d=some (.nx c)/\I c)\/(p a=true/\fb d=some (.rt (e a)))))->
 (∃a,l.find? p=some a/\M.forM gt fb (l.map enc) ρ=some (.rt (e a)))\/(l.find? p=none/\∃ρ',M.forM gt fb (l.map enc) ρ=some (.nx ρ')/\I ρ')
 | [],ρ,g,_=>.inr ⟨rfl,ρ,rfl,g⟩
 | a::l,ρ,g,k=>by
   obtain⟨d,m,h⟩:=k a qh ρ g;rw[Qd,M.forM,m,qd,List.find?_cons];rcases h with⟨i,c,j,n⟩|⟨i,j⟩
   .rw[j,i]
    exact Jm enc p e I l c n λb o=>k b (qg _ o)
   ext
def xC(R:List a_):fW (R.map dw)=(List.range R.length).map λi:Nat=>D.tup [.int (i:Int),dw (ax R i)]:=by
 unfold fW;rw[qf];refine Qq λi a=>?_;rw[ax,w5,List.getD_eq_getElem?_getD,Qm,List.getD_eq_getElem?_getD,qr (Qb a)];rfl
theorem QJ(R:List a_)(ks:AE)(o:∀x∈ks,x<60):qP [Yr R,cH ks]=some (aq (dS R ks)):=by
 rw[qP,Ye (by rfl)];have k:Yd 4 [Yr R,cH ks]=[some _,some _,none,none]:=rfl;rw[k]
 have h:=Jm (gt:=fU 2 3) (fb:=mK) (λi:Nat=>.tup [.int i,dw (ax R i)]) (rW R ks) (λi=>.int i) (λm=>∃y z,m=[↑(Yr R),↑(cH ks),y,z]) _
  _ ⟨none,none,rfl⟩ (by
   rintro i p m ⟨y,z,rfl⟩;have f:i<R.length:=Qb p;refine⟨[some _,some _,some _,some _],rfl,?_⟩;have a:=ZY R ks i f;have g:=Jk ks o true;unfold rW
   cases d:(ax R i).2 with
   | none=>
     left;refine⟨rfl,[some _,some _,↑(.int i),↑(dw (ax R i))],?_,_,_,rfl⟩;simp[mK,d,aq,g,a]
   | some x=>
     have e:=Jj x ks true;by_cases c:x∈ks
     .left
      refine⟨by simp[c],[some _,some _,↑(.int i),↑(dw (ax R i))],?_,_,_,rfl⟩;simp[mK,d,aq,e,c]
     .cases b:kn _ ks with
      | false=>
        left;rw[b]at a;refine⟨by simp,[some _,some _,↑(.int i),↑(dw (ax R i))],?_,_,_,rfl⟩;simp[mK,d,aq,e,c,a]
      | true=>
        right;rw[b]at a;refine⟨by simp[c],?_⟩
        simp[mK,d,aq,e,c,a])
 rw[OZ];rcases h with⟨i,j,l⟩|⟨j,n,l,q⟩
 .simp[gn,xC,l,dS,j,aq]
 .simp[gn,xC,l,dS,j,aq]
theorem QK(h:dS R ks=some i):i<R.length/\∃x,(ax R i).2=some x/\x∉ks/\kn (ax R i).1 ks=true:=by
 unfold dS at h;have a:=List.find?_some h;unfold rW at a;grind
theorem Jn(h:dS R ks=none)(a:i<R.length)(c:(ax R i).2=some x)(b:kn (ax R i).1 ks=true):x∈ks:=by
 have:=List.find?_eq_none.mp h i (List.mem_range.mpr a);unfold rW at this
 ext
theorem lh:∀(n:Nat) (l:AE),l.Nodup->(∀x∈l,x<n)->l.length<=n
 | 0,l,_,h=>by
   cases l with
   | nil=>simp
   | cons a l=>exact absurd (h a qh) (by lia)
 | n+1,l,b,h=>by
   have d:=lh n _ (b.erase n) λx c=>by
    grind
   grind
def Der(R:List a_):AE->AE->Prop
 | _,[]=>True
 | ks,i::is=>(i<R.length/\(∃x,(ax R i).2=some x)/\kn (ax R i).1 ks=true)/\Der R (ks++[bj (ax R i)]) is
theorem QL(h:∀x,x∈ks↔x∈fs):kn b ks=kn b fs:=by
 unfold kn
 ext
theorem Der.congr:∀{a ks fs:AE},(∀x,x∈ks↔x∈fs)->Der R ks a->Der R fs a
 | [],_,_,_,_=>trivial
 | i::a,ks,fs,h,d=>by
   obtain⟨⟨b,c,e⟩,d⟩:=d;refine⟨⟨b,c,by rwa [<-QL h]⟩,.congr (λx=>?_) d⟩;simp[h x]
theorem Jo(R:List a_)(g:∀r∈R,∀x,r.2=some x->x<60)(y:AQ):∀(m a:Nat) (ks b:AE),60<=ks.length+m->m+1<=a->ks.Nodup->(∀x∈ks,x<60)->b.length+m<=1000->
 ∃js:AE,dS R (ks++js.map λi:Nat=>bj (ax R i))=none/\(ks++js.map λi:Nat=>bj (ax R i)).Nodup/\(∀x∈ks++js.map (λi:Nat=>bj (ax R i)),x<60)/\Der R ks js/\js.length<=m/\
  dv (b2 (aa 4) (kD .non) (cj true)) v5 a [↑(Yr R),y,some (.od false (ks.map nD) (ks.map λ_=>.bl true)),some (.ow (b.map nD)),↑(aq (dS R ks))] =
   some (.nx [↑(Yr R),y,some (.od false ((ks++js.map λi:Nat=>bj (ax R i)).map nD) ((ks++js.map λi:Nat=>bj (ax R i)).map λ_=>.bl true)),some (.ow ((b++js).map nD)),↑.non]):=by
 intro m
 induction m with
 | zero=>
   intro a ks b J L E A G
   have s:dS R ks=none:=by
    cases h:dS R ks with
    | none=>rfl
    | some i=>
      obtain⟨C,x,e,l,_⟩:=QK h
      have j:x<60:=by
       refine g (ax R i) ?_ x e;unfold ax
       ext
      have:=lh 60 (ks++[x]) (by
       symm) (λz F=>by
       symm)
      ext<;>ac_nf
   refine⟨[],by ext,by ext,by ext,trivial,qv _,?_⟩
   cases a with
   | zero=>ext
   | succ a=>
     rw[dv,s];simp[aq]
 | succ m H=>
   intro a ks b J L E A G
   cases a with
   | zero=>ext
   | succ a=>
     cases h:dS R ks with
     | none=>
       refine⟨[],by simpa using h,by ext,by ext,trivial,Qh _,?_⟩;rw[dv];simp[aq]
     | some i=>
       obtain⟨C,x,e,l,p⟩:=QK h
       have j:x<60:=by
        refine g (ax R i) ?_ x e;unfold ax
        ext
       have u:bj (ax R i)=x:=by simp[bj,e]
       have t:(ks++[x]).Nodup:=by
        symm
       have k:∀z∈ks++[x],z<60:=λz F=>by
        symm
       obtain⟨js,k1,Z,k3,U,T,N⟩:=H a (ks++[x]) (b++[i]) (by simp;ac_nf) (by ext) t k (by simp;ac_nf)
       have I:ks++(i::js).map (λi:Nat=>bj (ax R i))=ks++[x]++js.map λi:Nat=>bj (ax R i):=by simp[u]
       refine⟨i::js,by symm,by symm,by symm,⟨⟨C,⟨x,e⟩,p⟩,by symm⟩,by simp;ac_nf,?_⟩;rw[I]
       have O:b++i::js=b++[i]++js:=by simp
       rw[O,<-N,dv]
       have c:b.length<1000000:=by ac_nf
       have d:ks.length<1000000:=by have:=lh 60 ks E A;ac_nf
       have w:=QJ R (ks++[x]) k;have v:=jB (R:=R) (i:=(i:Int)) ⟨by ac_nf,by ac_nf⟩
       have n:md (ks.map nD) (ks.map λ_=>.bl true) (.int (x:Int)) (.bl true)=some ((ks++[x]).map nD,(ks++[x]).map λ_=>.bl true):=by
        have Q:¬(x:Int)∈ks.map λx:Nat=>(x:Int):=λz=>l ((xB x ks).mp z);rw[mf,rV,qd,qf,if_pos (show ks.length<aA from d),if_neg Q];simp[nD]
       have o:scal (aq (dS R (ks++[x])))=some (aq (dS R (ks++[x]))):=by cases dS R (ks++[x])<;>simp[aq]
       have q:frz1 2 [↑(Yr R),y,some (.od false ((ks++[x]).map nD) ((ks++[x]).map λ_=>.bl true)),some (.ow ((b++[i]).map nD)),↑(.int (i:Int))]=[↑(Yr R),y,↑(cH (ks++[x])),some (.ow ((b++[i]).map nD)),↑(.int (i:Int))]:=rfl
       have M:v5 [↑(Yr R),y,some (.od false (ks.map nD) (ks.map λ_=>.bl true)),some (.ow (b.map nD)),↑(.int (i:Int))] =
        some (.nx [↑(Yr R),y,some (.od false ((ks++[x]).map nD) ((ks++[x]).map λ_=>.bl true)),some (.ow ((b++[i]).map nD)),↑(aq (dS R (ks++[x])))]):=by
        have f:b.map nD++[D.int (i:Int)]=(b++[i]).map nD:=by simp[nD]
        unfold v5;simp only[iB,Fe];have K:aq (some x)=.int (x:Int):=rfl;generalize aq (dS R (ks++[x]))=nx,(ks++[x]).map nD=V,((ks++[x]).map λ_=>D.bl true)=Y,(b++[i]).map nD=S at *;simp[bY,c,v,e,K,n,f,q,w,o,-mf]
       simp[aq,M,-wt]
theorem QM[DecidableEq a](x:a)(y:b):∀(ks:List a),aQ ks (ks.map λ_=>y) x y=ks.map λ_=>y
 | []=>rfl
 | k::ks=>by
   rw[Qd,aQ]
   split
   .rfl
   .rw[QM x y ks]
noncomputable def dd(ks:AE):AE->AE
 | []=>ks
 | x::fs=>dd (if x∈ks then ks else ks++[x]) fs
theorem lj:∀(fs ks:AE) (x:Nat),x∈dd ks fs↔x∈ks\/x∈fs
 | [],ks,x=>by simp[dd]
 | k::fs,ks,x=>by
   rw[dd,lj fs];grind
theorem QN:∀(fs ks:AE),ks.Nodup->(dd ks fs).Nodup
 | [],_,h=>h
 | k::fs,ks,h=>by
   rw[dd];refine QN fs _ ?_;by_cases hk:k∈ks
   .rw[if_pos hk];exact h
   .rw[if_neg hk,List.nodup_append]
    refine⟨h,by simp,λx hx y hy z=>?_⟩;simp at hy;subst hy;exact hk (z ▸ hx)
theorem ll:∀(fs ks:AE),aB (ks.map λx:Nat=>(x:Int)) (ks.map λ_=>D.bl true) (fs.map λx:Nat=>((x:Int),D.bl true))=((dd ks fs).map (λx:Nat=>(x:Int)),(dd ks fs).map λ_=>D.bl true)
 | [],ks=>rfl
 | x::fs,ks=>by
   rw[Qd,aB,dd];unfold bz;by_cases h:x∈ks
   .rw[if_pos ((xB x ks).mpr h),if_pos h]
    have e:=QM (x:Int) (D.bl true) (ks.map λx:Nat=>x);rw[Qf]at e;have a:aQ _ (ks.map λ_=>D.bl _) _ _=_:=e;rw[a];exact ll fs ks
   .have:=ll fs (ks++[x])
    ext
theorem rX:∀fs:AE,el (fs.map λx=>D.tup [nD x,.bl true])=some (fs.map λx:Nat=>((x:Int),D.bl true))
 | []=>by simp[el]
 | x::fs=>by
   rw[Qd,el,rX fs];rfl
def Jp(l:AE)(vs:AN)(hn:l.Nodup)(hl:l.length<64):∃l':AE,l'.Perm l/\l'.Pairwise (·<·)/\ku [.dct false (l.map nD) vs]=some (l'.map nD):=by
 obtain⟨l',h1,h2,h3⟩:=Jg l hn hl;refine⟨l',h1,h2,?_⟩;rw[<-h3,Nr];show _=i_ _;unfold i_;rw[rV];simp[hl]
structure cW(R:List a_)(fs l js:AE):Prop where
 pw:l.Pairwise (·<·)
 mem:∀x,x∈l↔x∈fs++js.map λi:Nat=>bj (ax R i)
 der:Der R fs js
 none:∀i,i<R.length->∀x,(ax R i).2=some x->kn (ax R i).1 l=true->x∈l
 lt:∀x∈l,x<60
 len:js.length<=60
theorem rY(R:List a_)(j:∀r∈R,∀x,r.2=some x->x<60)(fs:AE)(I:∀x∈fs,x<60)(w:fs.length<=1000)(E:Yc c=some (fs.map nD)):
 ∃l js,cW R fs l js/\kU [Yr R,c]=some (.tup [.lst (l.map nD),.tup (js.map nD)]):=by
 have e:∀x∈dd [] fs,x<60:=λx b=>by
  rw[lj]at b
  ext
 have g:(dd [] fs).Nodup:=QN fs [] .nil;obtain⟨js,A,p,n,u,B,J⟩:=Jo R j (↑c) 60 4000 (dd [] fs) [] (by lia) (by lia) g e nofun;have q:=lh 60 _ p n;obtain⟨l,h,F,H⟩:=Jp (dd [] fs++js.map λi:Nat=>bj (ax R i)) ((dd [] fs++js.map λi:Nat=>bj (ax R i)).map λ_=>.bl true) p (by lia)
 have f:∀x,x∈dd [] fs↔x∈fs:=λx=>by rw[lj];simp
 refine⟨l,js,⟨F,λx=>?_,u.congr f,λi G x b t=>?_,λx b=>n x (h.mem_iff.mp b),B⟩,?_⟩
 .grind
 .rw[h.mem_iff]
  exact Jn A G b (by rw[<-t];exact QL λz=>h.mem_iff.symm)
 .rw[kU,Ye (by rfl)]
  have k:Yd 5 [Yr R,c]=[↑(Yr R),↑c,none,none,none]:=rfl;rw[k];have a:=bV (fe:=GX) (r:=[]) (enc:=nD) (λx=>D.tup [nD x,.bl true]) (l:=fs) (λx _=>by constructor<;>lia);have m:=QJ R (dd [] fs) e
  have y:scal (aq (dS R (dd [] fs)))=some (aq (dS R (dd [] fs))):=by cases dS R (dd [] fs)<;>simp[aq]
  have d:=ll fs [];rw[List.map_nil,List.map_nil]at d
  have o:(fs.map λx:Nat=>((x:Int),D.bl true)).length<1000000:=by ext<;>lia
  have C:((dd [] fs).map λx:Nat=>(x:Int)).map D.int=(dd [] fs).map nD:=by ext
  have s:frz1 2 [↑(Yr R),↑c,some (.od false ((dd [] fs).map nD) ((dd [] fs).map λ_=>.bl true)),some (.ow []),none]=[↑(Yr R),↑c,↑(cH (dd [] fs)),some (.ow []),none]:=rfl
  have v:(fH 2 (lF (Yv (b1 (ab 1) Yc) [none] (aj 0) tY (GX)))) [↑(Yr R),↑c,none,none,none]=some (.nx [↑(Yr R),↑c,some (.od false ((dd [] fs).map nD) ((dd [] fs).map λ_=>.bl true)),none,none]):=by
   simp only[Ny];simp[E,ao,a,rX]
   ext
  rw[O0]
  ext
def mY(c:Bool)(a b:aH):az c (af a) (af b)=some (if c then !decide (a=b)else decide (a=b)):=by
 rw[fI nofun nofun,Oc]
noncomputable def iN(a:aH)(l:AX):Option aH:=if a∈l then some ((l.filter λt=>!decide (t=a)).headD a)else none
def bR(L:AW)(s:aH):AX:=L.filterMap (iN (aR s))
abbrev m3(l:AX):D:=aO (.ei l)
abbrev aS(L:AW):D:=.tup [aW .e,.tup (L.map m3)]
theorem QO(p:L.length<=1000)(s:aH):qB [aS L,af s]=some (.lst ((bR L s).map af)):=by
 have k:∀a,(∃r,[]++L=a++r)->(bR a s).length<1000000:=λa ⟨r,e⟩=>by
  have u:(bR a s).length<=a.length:=List.length_filterMap_le _ _
  ext<;>lia
 obtain⟨n,m,y,z,rfl⟩:=fJ (gt:=aj 4) (fb:=qA) m3 (λa j=>∃(y z:AQ),
  j=[some _,some _,some _,some (.ow ((bR a s).map af)),y,z]) L []
  [some _,some _,↑(af (aR s)),some (.ow []),none,none] ⟨none,none,rfl⟩ (by
   rintro q l r j e ⟨y,z,rfl⟩;have f:=pS (c:=m3 l) (aR s) l false rfl
   have b:bR (q++[l]) s=bR q s++(iN (aR s) l).toList:=by
    simp only[bR];grind
   by_cases h:aR s∈l
   .have g:=gX (fc:=Gb) (fe:=Gc) (r:=[↑(af (aR s))]) (enc:=af) (λt=>!decide (t=aR s)) af (l:=l) (λx _=>by
     simp[Gb,mY]) (λx _ _=>by simp[Gc])
    have i:iN (aR s) l=some ((l.filter λt=>!decide (t=aR s)).headD (aR s)):=by rw[iN,if_pos h]
    rw[i]at b;generalize (l.filter _)=os at g b;have c:∀d:D,bY ((bR q s).map af) d=_:=λd=>iC (by ext);refine⟨_,_,rfl,?_,↑(m3 l),some (.ow (os.map af)),rfl⟩
    cases os with
    | nil=>simp[qA,f,h,ao,g,c,b]
    | cons o os=>simp[qA,f,h,ao,g,c,b]
   .have i:iN (aR s) l=none:=by rw[iN,if_neg h]
    rw[i]at b;refine⟨_,_,rfl,?_,↑(m3 l),z,rfl⟩
    simp[qA,f,h,b])
 rw[qB,Ye (by rfl)];simp[Gd,Yd,rG];rw[m];constructor<;>lia
noncomputable def cY(a:AX)(i:Nat):aH:=a.getD i (0,false)
def Jq{road:AX}{i:Nat}(h:i<road.length):aY (road.map af) (i:Int)=some (af (cY road i)):=by
 rw[gW,kK h];simp[cY,h]
def rZ(L:AW)(a:AX)(i:Nat):Bool:=decide (cY a (i+1)∈bR L (cY a i))
def fM(L:AW)(a:AX):Bool:=decide (0<a.length)&&(List.range (a.length-1)).all (rZ L a)
theorem Jr{c:D}{L:AW}(hL:L.length<=1000){road:AX}(hc:Yc c=some (road.map af))(hl:road.length<=200):mC [aS L,c]=some (.bl (fM L road)):=by
 rw[mC,Ye (by rfl)]
 have e:((road.length:Int)-1).toNat=road.length-1:=by ac_nf
 have hall:=N3 (gt:=aj 2) (fb:=vK) (λi:Nat=>D.int (1+(i:Nat))) (rZ L road) (.bl false)
  (λρ=>∃y,ρ=[↑(aS L),↑c,y]) (List.range (road.length-1)) [↑(aS L),↑c,none] ⟨_,rfl⟩ (by
   rintro i hi ρ ⟨y,rfl⟩
   have hi':i+1<road.length:=by
    have:=Qb hi;ac_nf
   have a1:aY (road.map af) (1+(i:Int))=some (af (cY road (i+1))):=by
    have:=Jq hi';rw[show((i+1:Nat):Int)=1+(i:Int) by ac_nf]at this;exact this
   have a2:aY (road.map af) (i:Int)=some (af (cY road i)):=Jq ∅
   have hi1:1+(i:Int)-1=(i:Int):=by ac_nf
   have hled:=QO hL (cY road i);have hin:cb true (af (cY road (i+1))) (.lst ((bR L (cY road i)).map af))=some (!rZ L road i):=pS (cY road (i+1)) (bR L (cY road i)) true rfl;refine⟨_,rfl,?_⟩;generalize aS L=bk at *
   cases hm:rZ L road i with
   | true=>exact .inl ⟨rfl,[↑bk,↑c,↑(.int (1+(i:Int)))],by simp[vK,hc,a1,a2,hi1,hled,hin,hm],_,rfl⟩
   | false=>exact .inr ⟨rfl,by simp[vK,hc,a1,a2,hi1,hled,hin,hm]⟩)
 have hr:=N4 (a:=1) (n:=(road.length:Int)) ∅ ∅ (by decide) (by decide);rw[pM,e]at hr;unfold fM;generalize aS L=bk at *;rcases hall with⟨h1,ρ',e1,y,rfl⟩|⟨h1,e1⟩
 .rw[h1]
  simp[Ge,Yd,hc,hr,e1]
 .rw[h1]
  simp[Ge,Yd,hc,hr,e1]
def iO(l:AX):aH:=cY l (l.length-1)
theorem Js{l:AX}(h:0<l.length):aY (l.map af) (-1)=some (af (iO l)):=by
 have e:dM (l.map af).length (-1)=some (l.length-1):=by
  unfold dM;rw[qf,if_neg ∅,if_pos ∅]
  congr 1
  ac_nf
 unfold aY;have hx:l[l.length-1]?=some (l[l.length-1]'∅):=qr _;rw[e,qd,Qm,iO,cY,List.getD_eq_getElem?_getD,hx];rfl
def Jt{l:AX}(h:0<l.length):aY (l.map af) 0=some (af (cY l 0)):=Jq (i:=0) h
theorem r0(h:fM L l=true):0<l.length:=by
 unfold fM at h
 ext
def lp(L:AW):bq .e (L.map Rl.ei)=aS L:=by simp[bq,wu]
def there(L:AW)(o k:AX):Bool:=fM L o&&(fM L k&&(decide (iO o=cY k 0)&&decide (iO k=cY o 0)))
def Ju{L:AW}(hL:L.length<=1000){o k:AX}{co ck:D}(ho:Yc co=some (o.map af))(hk:Yc ck=some (k.map af))(hol:o.length<=200)(hkl:k.length<=200):
 Yx [aS L,co,ck]=some (.bl (there L o k)):=by
 have h1:=Jr hL ho hol;have h2:=Jr hL hk hkl;rw[Yx,Ye (by rfl)];unfold there;generalize aS L=bk at *
 cases d1:fM L o with
 | false=>simp[qQ,Yd,h1,d1]
 | true=>
   cases d2:fM L k with
   | false=>simp[qQ,Yd,h1,h2,d1,d2]
   | true=>
     have p1:=r0 d1;have p2:=r0 d2;have a1:=Js p1;have a2:=Js p2;have a3:=Jt p1;have a4:=Jt p2;by_cases e:iO o=cY k 0
     .simp[qQ,Yd,h1,h2,d1,d2,ho,hk,a1,a2,a3,a4,mY,e]
     .simp[qQ,Yd,h1,h2,d1,d2,ho,hk,a1,a2,a3,a4,mY,e]
abbrev m4(x:String)(ps:AN):D:=.tup (.str (Str.ofString x)::ps)
def xD(x:String)(l:List String):Prop:=∀y∈l,(Str.ofString x==Str.ofString y)=false
def Jv{R:List Rl}{c:D}{hs:AG}(hc:Yc c=some (hs.map aE))(hl:hs.length<=1000){st:Nat}(hst:st<=hs.length){x:String}{ps:AN}(hx:xD x ["broken"]){d:Bool}(h:Yo [m4 x ps,bq .e R,.lst ((aw hs st true).map nD),.lst ((aw hs st false).map nD)]=some (.bl d)):y2 [m4 x ps,bq .e R,c,.int st]=some (.bl d):=by
 rw[y2,Yp,Ye (by rfl)];have b1:=Yi hs hc hl st hst true;have b2:=Yi hs hc hl st hst false;simp[aE]at b1 b2;have e1:=Yu (hx "broken" nofun) false;simp[kW,Yd,b1,b2,e1]at h ⊢;rw[h];simp
noncomputable def m5(r:a_):Rl:=.im r.1 r.2
def Jw(R:List a_):(R.map m5).map aO=R.map dw:=by rw[Qf];rfl
def Jx(R:List a_):bq .i (R.map m5)=Yr R:=by unfold bq Yr;rw[Jw];rfl
def bh(R:List a_)(a:AF):AE:=a.map λi=>bj (ax R i)
theorem Jy{R:List a_}:∀{is:AF}{fs:AE},bP R fs is=true->∀i∈is,(0<=i/\i<R.length)/\aq (ax R i).2=nD (bj (ax R i))/\∃x,(ax R i).2=some x
 | [],_,_,i,hi=>by simp at hi
 | j::is,fs,h,i,hi=>by
   rw[bP,Qe]at h;rcases qu hi with rfl|hi
   .obtain⟨h1,h2⟩:=Qz h.1
    refine⟨h1,h2,?_⟩;have:=h.1;unfold eZ at this;simp only[Qe]at this;exact Option.isSome_iff_exists.mp this.2.1
   .exact Jy h.2 i hi
theorem Jz{R:List a_}{n:Nat}(hR:∀r∈R,∀x,r.2=some x->x<n){is:AF}{fs:AE}(h:bP R fs is=true):∀x∈bh R is,x<n:=λx hx=>by
 obtain⟨i,hi,rfl⟩:=qy hx;obtain⟨h1,_,y,hy⟩:=Jy h i hi
 have hm:ax R i∈R:=by
  unfold ax;rw[List.getD_eq_getElem?_getD,qr ∅];exact List.getElem_mem _
 rw[bj,hy];exact hR _ hm y hy
def QQ{R:List a_}{is:AF}{fs:AE}(h:bP R fs is=true){fe:AU}{r:Ro}(hf:∀i∈is,(0<=i/\i<R.length)->fe (some (.sh (.int i))::r)=some (aq (ax R i).2)):
 dB (aj 0) tY fe (none::r) (is.map D.int)=some ((bh R is).map nD):=by
 rw[bV (fe:=fe) (r:=r) (enc:=D.int) (λi=>nD (bj (ax R i))) (l:=is) (λi hi=>by
  obtain⟨h1,h2,_⟩:=Jy h i hi
  rw[hf i hi h1,h2])]
 simp[bh,wu]
theorem JA(R:List a_){n:Nat}(hn:n<64)(hR:∀r∈R,∀x,r.2=some x->x<n){c d:D}{fs:AE}{is:AF}(hfs:∀x∈fs,x<n)(hc:Yc c=some (fs.map nD))(hd:Yc d=some (is.map D.int))(hl:fs.length+is.length<=1000)(h:bP R fs is=true):
 ∃l:AE,(∀x,x∈l↔x∈fs++bh R is)/\vZ [Yr R,c,d]=some (.lst (l.map nD)):=by
 have hcm:=QQ h (fe:=GW) (r:=[↑(Yr R)]) (λi hi hv=>by
  have hat:=jB hv
  simp[GW,hat])
 obtain⟨l,_,hm,hs⟩:=Qt hn (fs++bh R is) (λx hx=>(qw hx).elim (hfs x) (Jz hR h x)) (by simp[bh];ac_nf);refine⟨l,hm,?_⟩;have hcat:=kM (a:=fs.map nD) (b:=(bh R is).map nD) (by simp[bh];ac_nf);rw[wt]at hs;rw[vZ,Ye (by rfl)];generalize Yr R=bk,fs.map nD=F1,(bh R is).map nD=F2 at *;simp[OY,Yd,hc,hd,ao,hcm,hcat,hs]
theorem JB{α:Type}(f:α->D)(l:List α):cL (l.map f) none (some (-1))=l.dropLast.map f:=by
 have e:HT.sIx (l.map f).length (l.map f).length (some (-1))=l.length-1:=by
  rw[qf];unfold HT.sIx;simp;ac_nf
 unfold cL;rw[e,HT.sIx_none];simp[List.dropLast_eq_take]
theorem JC{l:AF}(h:0<l.length):aY (l.map D.int) (-1)=some (.int (l.getD (l.length-1) 0)):=by
 have e:dM (l.map D.int).length (-1)=some (l.length-1):=by
  unfold dM;rw[qf,if_neg ∅,if_pos ∅]
  congr 1
  ac_nf
 have hx:l[l.length-1]?=some (l[l.length-1]'∅):=qr _;unfold aY;rw[e,qd,Qm,List.getD_eq_getElem?_getD,hx];rfl
theorem QR(a:Bool)(x:Nat)(b:AL):az a (.int (x:Int)) (aq b)=some (if a then !decide (some x=b)else decide (some x=b)):=by
 cases b with
 | none=>
   have:bp (.int x) .non=false:=by simp[bp,aG,PyData.eqv]
   rw[fI nofun nofun];simp[aq,this]
 | some y=>simp[aq]
theorem QS(neg:Bool)(a b:AL):az neg (aq a) (aq b)=some (if neg then !decide (a=b)else decide (a=b)):=by
 cases a with
 | some x=>exact QR neg x b
 | none=>
   rw[fI nofun nofun]
   cases b with
   | none=>
     have:bp .non .non=true:=by simp[bp,aG,PyData.eqv]
     simp[aq,this]
   | some y=>
     have:bp .non (.int (y:Int))=false:=by simp[bp,aG,PyData.eqv]
     simp[aq,this]
noncomputable def eD(b:AL)(S:AE):AE:=S.filter λy=>!decide (some y=b)
theorem QT(S:AE)(b:AL):jw [.lst (S.map nD),aq b]=some (.tup ((eD b S).map nD)):=by
 rw[jw,Ye (by rfl)]
 have h:=gX (fc:=qM) (fe:=qN) (r:=[↑(aq b)]) (enc:=nD) (λy=>!decide (some y=b)) nD (l:=S) (λy _=>by
  simp[qM,QR]) (λ_ _ _=>by simp[qN])
 generalize S.map nD=SS at *;simp[GQ,Yd,ao,h,eD]
def m6(R:List a_)(S:AE)(b:AL)(a:AF):Bool:=match b with
 | none=>decide (a.length=0)
 | some x=>decide (x∈S)&&bP R S a
theorem ZZ(R:List a_){S:AE}(b:AL){is:AF}(hl:S.length+is.length<=1000):wC [aq b,.tup (is.map D.int),Yr R,.lst (S.map nD)]=some (.bl (m6 R S b is)):=by
 have hd:=QB R (c:=.lst (S.map nD)) (d:=.tup (is.map D.int)) S is rfl rfl hl;rw[wC,Ye (by rfl)]
 have hlen:((is.map D.int).length:Int)=(is.length:Int):=by simp
 unfold m6
 cases b with
 | none=>
   have:((is.length:Int)=0)↔is.length=0:=by ac_nf
   simp[G_,Yd,aq,hlen,this]
 | some x=>
   have hin:=cG (c:=.lst (S.map nD)) x S false rfl;generalize hS:D.lst (S.map nD)=SS at *;generalize Yr R=bk at *;generalize D.tup (is.map D.int)=ii at *;by_cases hx:x∈S<;>simp[G_,Yd,aq,hin,hx,hd]
def eE(R:List a_)(a:AE)(b:AL)(c:AF):AE:=match b with
 | none=>[]
 | some x=>a.filter λy=>decide (y<x)&&decide (y∈bh R c)
theorem Z0(R:List a_){S Kp:AE}(b:AL){is:AF}(h:m6 R S b is=true):wB [aq b,.tup (is.map D.int),Yr R,.lst (Kp.map nD)]=some (.lst ((eE R Kp b is).map nD)):=by
 rw[wB,Ye (by rfl)];unfold eE
 cases b with
 | none=>simp[wA,Yd,aq]
 | some x=>
   unfold m6 at h;rw[Qe]at h
   have hcm:=QQ h.2 (fe:=G7) (r:=[↑(Yr R)]) (λi hi hv=>by
    have hat:=jB hv
    simp[G7,hat])
   have hc2:=gX (fc:=G8) (fe:=G9) (r:=[↑(.int (x:Int)),↑(.lst ((bh R is).map nD))]) (enc:=nD) (λy=>decide (y<x)&&decide (y∈bh R is)) nD (l:=Kp) (λy _=>by
    have hin:=cG (c:=.lst ((bh R is).map nD)) y (bh R is) false rfl;generalize D.lst ((bh R is).map nD)=hh at *
    by_cases hy:y<x<;>simp[G8,hy,hin]) (λ_ _ _=>by simp[G9])
   have hsh:aq (some x)=.int (x:Int):=rfl;rw[hsh];generalize Yr R=bk,(bh R is).map nD=hh,Kp.map nD=kk at *;have hit:Yc (.tup (is.map D.int))=some (is.map D.int):=rfl;generalize hti:D.tup (is.map D.int)=ii at *;simp[wA,Yd,hit,ao,hcm,hc2]
def m7(R:List a_)(b:AL)(a:AF)(fs:AE):Bool:=decide (0<a.length)&&(decide (0<=a.getD (a.length-1) 0/\a.getD (a.length-1) 0<R.length)&&(bP R fs a.dropLast&&(kn (ax R (a.getD (a.length-1) 0)).1 (fs++bh R a.dropLast)&&(decide ((ax R (a.getD (a.length-1) 0)).2=none)||decide ((ax R (a.getD (a.length-1) 0)).2=b)))))
theorem r6(h:∀x,x∈ks↔x∈fs):kn b ks=kn b fs:=by
 unfold kn;grind
theorem Z1(R:List a_){n:Nat}(hn:n<64)(hR:∀r∈R,∀x,r.2=some x->x<n)(b:AL){is:AF}{fs:AE}(hfs:∀x∈fs,x<n)(hl:fs.length+is.length<=1000):
 wD [aq b,.tup (is.map D.int),Yr R,.lst (fs.map nD)]=some (.bl (m7 R b is fs)):=by
 rw[wD,Ye (by rfl)]
 have hlen:((is.map D.int).length:Int)=(is.length:Int):=by simp
 unfold m7;by_cases h0:0<is.length
 .have hne:¬is=[]:=λz=>by subst z;simp at h0
  have hla:=JC h0
  have hz:¬(is.length:Int)=0:=by ac_nf
  have hcut:=JB D.int is
  have hdl:is.dropLast.length<=is.length:=by simp
  have hd:=QB R (c:=.lst (fs.map nD)) (d:=.tup (is.dropLast.map D.int)) fs is.dropLast rfl rfl ∅;generalize is.getD (is.length-1) 0=la at *;have hp:=xw R la;by_cases hv:0<=la/\la<R.length
  .have hat:=jB hv
   cases hdb:bP R fs is.dropLast with
   | false=>
     rw[hdb]at hd;rw[wn hv]at hp;generalize Yr R=bk,fs.map nD=FF,is.dropLast.map D.int=dd,is.map D.int=ii at *;simp[qR,Yd,hlen,hne,hla,hp,hcut,hd]
   | true=>
     obtain⟨l,hm,hde⟩:=JA R hn hR (c:=.lst (fs.map nD)) (d:=.tup (is.dropLast.map D.int)) hfs rfl rfl ∅ hdb;have hbk:=IK (d:=.lst (l.map nD)) (ax R la) l rfl;rw[r6 hm]at hbk;rw[hdb]at hd;rw[wn hv]at hp
     have hin:cb false (aq (ax R la).2) (.tup [.non,aq b])=some (decide ((ax R la).2=none)||decide ((ax R la).2=b)):=by
      have q1:=QS false none (ax R la).2;have q2:=QS false b (ax R la).2;rw[fI nofun nofun]at q1 q2
      have q1':bp .non (aq (ax R la).2)=decide (none=(ax R la).2):=by simpa [aq]using q1
      have q2':bp (aq b) (aq (ax R la).2)=decide (b=(ax R la).2):=by simpa using q2
      rw[vm (l:=[.non,aq b]) rfl nofun nofun];have e1:decide ((ax R la).2=none)=decide (none=(ax R la).2):=decide_eq_decide.mpr ⟨Eq.symm,Eq.symm⟩;have e2:decide ((ax R la).2=b)=decide (b=(ax R la).2):=decide_eq_decide.mpr ⟨Eq.symm,Eq.symm⟩;rw[e1,e2,<-q1',<-q2'];simp[gQ]
     have hib:(Yc (Yr R))=some [.str "ifs",.tup (R.map dw)]:=rfl;have hir:Yc (dw (ax R la))=some [.tup ((ax R la).1.map nD),aq (ax R la).2]:=rfl;generalize Yr R=bk,kn (ax R la).1 (fs++bh R is.dropLast)=kk,l.map nD=LL,fs.map nD=FF,is.dropLast.map D.int=dd,is.map D.int=ii,dw (ax R la)=rr at *;cases kk<;>simp[qR,Yd,hlen,hne,hla,hp,hcut,hd,hde,hib,hat,hbk,hir,hin,h0,hv.1,hv.2]
  .rw[wo hv]at hp
   generalize Yr R=bk,is.map D.int=ii at *;simp[qR,Yd,hlen,hne,hla,hp,hv]
 .have hz:is.length=0:=by ac_nf
  have:is=[]:=List.eq_nil_of_length_eq_zero hz;subst this;simp[qR,Yd]
def iP(R:List a_)(c S:AE)(b:AL)(a js:AF):Bool:=m6 R S b a&&m7 R b js (eD b S++eE R c b a)
theorem Z2(R:List a_){n:Nat}(hn:n<64)(hR:∀r∈R,∀x,r.2=some x->x<n){Kp S:AE}(hK:∀x∈Kp,x<n)(hS:∀x∈S,x<n)(hKl:Kp.length<=100)(hSl:S.length<=100)(b:AL){is js:AF}(hil:is.length<=300)(hjl:js.length<=300):
 qS [.tup [.str "lone",aq b,.tup (is.map D.int),.tup (js.map D.int)],Yr R,.lst (Kp.map nD),.lst (S.map nD)]=some (.bl (iP R Kp S b is js)):=by
 have h1:=ZZ R (S:=S) b (is:=is) ∅;have hw:=QT S b;have hwl:(eD b S).length<=100:=Qg (Qn _ _) hSl
 have hfl:(eE R Kp b is).length<=100:=by
  unfold eE
  cases b with
  | none=>simp
  | some x=>exact Qg (Qn _ _) hKl
 have h3:=Z1 R hn hR b (is:=js) (fs:=eD b S++eE R Kp b is) (λx hx=>by
  rcases qw hx with hx|hx
  .exact hS x (Qc hx).1
  .unfold eE at hx
   cases b with
   | none=>simp at hx
   | some y=>exact hK x (Qc hx).1) (by simp;ac_nf)
 rw[qS,Ye (by rfl)];have a2:∀a b c d:D,aY [a,b,c,d] 2=some c:=λa b c d=>rfl;have a3:∀a b c d:D,aY [a,b,c,d] 3=some d:=λa b c d=>rfl;unfold iP
 cases hf:m6 R S b is with
 | false=>
   rw[hf]at h1;generalize D.tup (is.map D.int)=ii,D.tup (js.map D.int)=jj,Yr R=bk,S.map nD=SS,Kp.map nD=KK at *;simp[wG,Yd,a2,h1]
 | true=>
   have h2:=Z0 R (Kp:=Kp) b hf;have hcat:=kM (a:=(eD b S).map nD) (b:=(eE R Kp b is).map nD) (by simp;ac_nf);rw[<-wt]at hcat;rw[hf]at h1;generalize D.tup (is.map D.int)=ii,D.tup (js.map D.int)=jj,Yr R=bk,(eD b S++eE R Kp b is).map nD=WF,(eD b S).map nD=W1,(eE R Kp b is).map nD=W2,S.map nD=SS,Kp.map nD=KK at *;simp[wG,Yd,a2,a3,h1,hw,h2,hcat,h3]
abbrev c9:=Nat×Option Nat×Bool
def aT(r:c9):D:=.tup [.int r.1,aq r.2.1,.bl r.2.2]
@[simp] def QU(r:c9):Yc (aT r)=some [.int r.1,aq r.2.1,.bl r.2.2]:=nr rfl
def QV(a b c:D):aY [a,b,c] 1=some b:=rfl
def r9(a b c:D):aY [a,b,c] 2=some c:=rfl
abbrev e_:=Option Nat×Bool
def bL(e:e_):D:=.tup [aq e.1,.bl e.2]
@[simp] def m8(e:e_):Yc (bL e)=some [aq e.1,.bl e.2]:=nr rfl
def QW(a:Bool)(b:AL):cj a (aq b) .non=some (if a then !decide (b=none)else decide (b=none)):=by
 cases b<;>cases a<;>rfl
def JD(a b:AL):bp (aq a) (aq b)=decide (a=b):=by
 cases a with
 | none=>
   cases b with
   | none=>simp[aq,bp,aG,PyData.eqv]
   | some y=>simp[aq,bp,aG,PyData.eqv]
 | some x=>
   cases b with
   | none=>simp[aq,bp,aG,PyData.eqv]
   | some y=>exact(mw x y).trans nofun
def r_(e f:e_):bp (bL e) (bL f)=decide (e=f):=by
 obtain⟨a,p⟩:=e;obtain⟨b,q⟩:=f;simp [bL,JD,pJ];by_cases d:a=b<;>by_cases c:p=q<;>simp[c]
def xE(e:e_):bB (bL e)<=60:=by simp[bL]
def JE(e:e_)(l:List e_):cb false (bL e) (.lst (l.map bL))=some (decide (e∈l)):=by
 rw[vm rfl (xE e) (vD xE l),vA r_];simp
def JF(e f:e_):az false (bL e) (bL f)=some (decide (e=f)):=by
 rw[fI (xE e) (xE f),r_];simp
theorem JG(c:Bool)(a b:AE):az c (.lst (a.map nD)) (.lst (b.map nD))=some (if c then !decide (a=b)else decide (a=b)):=by
 have h:∀l:AE,bG (l.map nD)<=1:=λl=>vD (λx=>by simp) l;have f:=h a;have d:=h b
 have e:bp (.lst (a.map nD)) (.lst (b.map nD))=d9 (a.map nD) (b.map nD):=by simp
 rw[fI (by simp;ac_nf) (by simp;ac_nf),e,vC mw]
noncomputable def cR(rows:List c9)(s:aH):e_:=
 match rows.find? (λr=>r.1==s.1)with
 | none=>(some s.1,s.2)
 | some r=>(r.2.1,s.2==r.2.2)
def gY(rows:List c9):D:=.dct false (rows.map λr=>nD r.1) (rows.map aT)
theorem QX:∀rows:List c9,el (rows.map λr=>.tup [.int r.1,aT r])=some (rows.map λr=>((r.1:Int),aT r))
 | []=>rfl
 | r::l=>by rw[Qd,el,QX l];rfl
theorem QY{a:Type}:∀(ps:List (Int×a)) (ns:AF) (vs:List a),(ns++ps.map (·.1)).Nodup->aB ns vs ps=(ns++ps.map (·.1),vs++ps.map (·.2))
 | [],ns,vs,_=>by simp[aB]
 | p::ps,ns,vs,h=>by
   rw[aB,bz,if_neg (λb=>by
    rw[List.nodup_append]at h
    exact h.2.2 _ b p.1 nofun rfl)]
   have h':((ns++[p.1])++ps.map (·.1)).Nodup:=by simpa using h
   rw[QY ps _ _ h'];simp
theorem Z3{l:AE}(h:l.Nodup):(l.map λx:Nat=>(x:Int)).Nodup:=by
 induction l with
 | nil=>simp
 | cons a l d=>
   rw[Qd,List.nodup_cons];rw[List.nodup_cons]at h;refine⟨λc=>?_,d h.2⟩;obtain⟨b,hb,e⟩:=qy c
   have:b=a:=by ac_nf
   exact h.1 (this ▸ hb)
theorem Z4{rows:List c9}(h:rows.length<=1000)(f:(rows.map (·.1)).Nodup):kY [.tup (rows.map aT)]=some (gY rows):=by
 have g:bN (.lst (rows.map λr=>.tup [.int r.1,aT r]))=some (rows.map λr=>((r.1:Int),aT r)):=QX rows;have d:=Z3 f
 have c:(rows.map λr=>((r.1:Int),aT r)).length<1000000:=by rw[qf];ac_nf
 rw[kY,Ye (by rfl)]
 have a:(lF (Yv (b1 (ab 0) Yc) [none] (aj 0) tY Yw)) [↑(.tup (rows.map aT))]=some (.lst (rows.map λr=>.tup [.int r.1,aT r])):=by
  simp[ao,(bV (fe:=Yw) (r:=[]) (enc:=aT) (λr=>.tup [.int r.1,aT r]) (l:=rows) (λr _=>by
  simp[Yw]))]
 have e:Yd 1 [D.tup (rows.map aT)]=[↑(.tup (rows.map aT))]:=rfl
 rw[Hr,e,NX,qq,a,qd,g,qd,Fz,if_pos c,(QY (rows.map λr=>(r.1,aT r)) [] [] (by
  rw[Qf];rw[Qf]at d
  exact d))]
 simp[gY,wu]
theorem QZ(x:Nat):∀rows:List c9,Yn (rows.map λr=>((r.1:Nat):Int)) (rows.map aT) (x:Int)=(rows.find? (λr=>r.1==x)).map aT
 | []=>rfl
 | r::l=>by
   rw[Qd,Qd,Yn,QZ x l,List.find?_cons];by_cases h:r.1=x
   .simp[h]
   .have h':¬(r.1)=(x:Int):=by ac_nf
    have a:(r.1==x)=false:=by simp[h]
    rw[if_neg h',a]
theorem JH(rows:List c9)(s:aH):wW [af s,gY rows]=some (bL (cR rows s)):=by
 have f:intsD (rows.map λr=>nD r.1)=some (rows.map λr=>(r.1:Int)):=pN _ rows
 have d:cN (gY rows) (.int s.1)=(rows.find? (λr=>r.1==s.1)).map aT:=by
  rw[gY,jk,f,qd,QZ s.1 rows]
 have b:cO true (.int s.1) (gY rows)=some (rows.find? (λr=>r.1==s.1)).isNone:=by
  rw[gY,o4,f,Option.map_some]
  cases a:rows.find? (λr=>r.1==s.1)with
  | none=>
    rw[List.find?_eq_none]at a
    have:¬(s.1:Int)∈rows.map λr=>r.1:=λg=>by
     obtain⟨r,c,e⟩:=qy g;have:=a r c;ac_nf
    simp only[wo this];rfl
  | some r=>
    have h:=List.find?_some a;have:(s.1:Int)∈rows.map λr=>r.1:=List.mem_map.mpr ⟨r,(List.mem_of_find?_eq_some a),by ac_nf⟩;simp only[wn this];rfl
 rw[wW,Ye (by rfl)];unfold cR
 cases a:rows.find? (λr=>r.1==s.1)with
 | none=>
   rw[a]at b;have hs:bL (some s.1,s.2)=af s:=rfl;rw[hs];have h0:=FH s;simp[Hs,Yd,b]
 | some r=>
   rw[a]at b d;have c:=QU r;simp[Hs,Yd,b,d,r9,bL]
noncomputable def gZ(e:e_):e_:=(e.1,!e.2)
def Z5(e:e_):fZ [bL e]=some (bL (gZ e)):=by
 rw[fZ,Ye (by rfl)];have a:bL (gZ e)=.tup [aq e.1,.bl !e.2]:=rfl;rw[a];simp[Ox,Yd]
def g0(a:List e_):Bool:=a.any λe=>decide (e=(none,true))||decide (gZ e∈a)
theorem Z6(rows:List c9)(l:AX):wY [aO (.ei l),gY rows]=some (.bl (g0 (l.map (cR rows)))):=by
 have c:=bV (fe:=Ht) (r:=[↑(gY rows)]) (enc:=af) (λs=>bL (cR rows s)) (l:=l) (λs _=>by
  simp[Ht,JH rows s])
 have e1:(l.map λs=>bL (cR rows s))=(l.map (cR rows)).map bL:=by rw[Qf];rfl
 rw[e1]at c;generalize l.map (cR rows)=b at *;rw[wY,Ye (by rfl)]
 simp[Pq,Yd,ao,c,(bV (fe:=wX) (r:=[↑(.lst (b.map bL))]) (enc:=bL) (λe=>.bl (decide (e=(none,true))||decide (gZ e∈b))) (l:=b) (λe _=>by
  have a:=JF e (none,true);have d:bL (none,true)=.tup [.non,.bl true]:=rfl;rw[d]at a;by_cases hd:e=(none,true)
  .rw[wn hd]at a ⊢
   simp[wX,a]
  .rw[wo hd]at a ⊢
   simp[wX,a,(JE (gZ e) b),Z5 e])),g0]
noncomputable def dI(S:AE)(r:c9):Bool:=match r.2.1 with
 | none=>true
 | some x=>decide (x∈S)&&decide (x<r.1)
def Z7(r:c9)(S:AE):wV [aT r,.lst (S.map nD)]=some (.bl (dI S r)):=by
 rw[wV,Ye (by rfl)];have a:=QU r;unfold dI
 cases h:r.2.1 with
 | none=>
   rw[h]at a;have b:=QW false none;simp[wU,Yd,a,b]
 | some x=>
   rw[h]at a;have b:=QW false (some x);have i2:=cG (c:=.lst (S.map nD)) x S false rfl;have d:aq (some x)=.int x:=rfl;rw[d]at a b;by_cases c:x∈S
   .simp[wU,Yd,a,b,i2,c]
   .simp[wU,Yd,a,b,i2,c]
def lq(rows:List c9)(L:AW)(K S:AE):Bool:=decide (rows.map (·.1)=K)&&rows.all (dI S)&&L.all λl=>g0 (l.map (cR rows))
theorem Z8{rows:List c9}(g:rows.length<=1000)(L:AW){K:AE}(j:K.Nodup)(S:AE):
 w_ [.tup (rows.map aT),bq .e (L.map Rl.ei),.lst (K.map nD),.lst (S.map nD)]=some (.bl (lq rows L K S)):=by
 have h0:=bV (fe:=Hu) (r:=[]) (enc:=aT) (λr=>nD r.1) (l:=rows) (λr _=>by
  simp[Hu])
 have i:(rows.map λr=>nD r.1)=(rows.map (·.1)).map nD:=by rw[Qf];rfl
 rw[i]at h0
 have f:=bV (fe:=Hv) (r:=[↑(.lst (S.map nD))]) (enc:=aT) (λr=>.bl (dI S r)) (l:=rows) (λr _=>by
  have h:=Z7 r S
  simp[Hv,h])
 have b:=JG true (rows.map (·.1)) K;rw[w_,Ye (by rfl)];have hb:Yc (bq .e (L.map Rl.ei))=some [aW .e,.tup ((L.map Rl.ei).map aO)]:=rfl;by_cases a:rows.map (·.1)=K
 .have n:(rows.map (·.1)).Nodup:=by rw[a];exact j
  have hd:=Z4 g n
  have d:=bV (fe:=Hw) (r:=[↑(gY rows)]) (enc:=λl=>aO (.ei l)) (λl=>.bl (g0 (l.map (cR rows)))) (l:=L) (λl _=>by
   have h:=Z6 rows l
   simp[Hw,h])
  have e2:(L.map λl=>aO (.ei l))=(L.map Rl.ei).map aO:=by rw[Qf];rfl
  rw[e2]at d;simp [a]at b
  have c:lq rows L K S=(rows.all (dI S)&&L.all λl=>g0 (l.map (cR rows))):=by simp[lq,a]
  rw[c];rw[a]at h0;generalize (L.map Rl.ei).map aO=o at *;generalize m:dI S=k at *
  cases e:rows.all k with
  | true=>simp[wZ,Yd,ao,h0,f,b,e,hd,hb,d]
  | false=>simp[wZ,Yd,ao,h0,f,b,e]
 .have c:lq rows L K S=false:=by simp[lq,a]
  rw[c];simp only[a]at b;generalize (rows.map (·.1)).map nD=p at *;simp[wZ,Yd,ao,h0,b]
theorem xF(c:Bool)(a b:AE):az c (.lst (a.map nD)) (.lst (b.map nD))=some (if c then !decide (a=b)else decide (a=b)):=by
 have h:∀l:AE,bG (l.map nD)<=1:=λl=>vD (λx=>by simp) l;have f:=h a;have d:=h b
 have e:bp (.lst (a.map nD)) (.lst (b.map nD))=d9 (a.map nD) (b.map nD):=by simp
 rw[fI (by simp;ac_nf) (by simp;ac_nf),e,vC mw]
noncomputable def gB(l:AE):Bool:=decide (l.Pairwise (·<·))
theorem JK:∀{a b:AE},a.Pairwise (·<·)->b.Pairwise (·<·)->(∀x,x∈a↔x∈b)->a=b
 | [],[],_,_,_=>rfl
 | [],y::b,_,_,h=>absurd ((h y).mpr qh) nofun
 | x::a,[],_,_,h=>absurd ((h x).mp qh) nofun
 | x::a,y::b,d,g,h=>by
   rw[List.pairwise_cons]at d g
   have c:x=y:=by
    have f:=(h x).mp qh;have e:=(h y).mpr qh;grind
   subst c
   have:=JK d.2 g.2 λz=>by
    grind
   rw[this]
theorem JL{l:AE}(h:∀x∈l,x<60)(g:l.length<=3700):∃a:AE,ml (l.map nD)=some (a.map nD)/\decide (l=a)=gB l:=by
 obtain⟨a,b,c,f⟩:=Qt ∅ l h ∅;refine⟨a,f,?_⟩;unfold gB;by_cases d:l.Pairwise (·<·)
 .have:=JK d b λx=>(c x).symm
  simp[d,<-this]
 .have:¬l=a:=λe=>d (e ▸ b)
  simp[d,this]
def JM{l:AE}(h:∀x∈l,x<60)(d:l.length<=3700):mF [.tup (l.map nD)]=some (.bl (gB l)):=by
 obtain⟨c,a,e⟩:=JL h d;have b:=xF false l c;simp [e]at b;rw[mF,Ye (by rfl)];simp[OL,Yd,a,b]
abbrev b_:=Nat×List Nat×Bool
def aF(r:b_):D:=.tup [.int r.1,.tup (r.2.1.map nD),.bl r.2.2]
@[simp] def Q0(r:b_):Yc (aF r)=some [.int r.1,.tup (r.2.1.map nD),.bl r.2.2]:=nr rfl
def JN(a b c:D):aY [a,b,c] 1=some b:=rfl
def se(a b c:D):aY [a,b,c] 2=some c:=rfl
def g7(S:AE)(r:b_):Bool:=gB r.2.1&&r.2.1.all λx=>decide (x∈S)&&decide (x<r.1)
def Z9{r:b_}(h:∀x∈r.2.1,x<60)(f:r.2.1.length<=3700)(S:AE):xb [aF r,.lst (S.map nD)]=some (.bl (g7 S r)):=by
 have b:=Q0 r;have a:=JM h f
 have e:=bV (fe:=xa) (r:=[↑(.lst (S.map nD)),↑(aF r)]) (enc:=nD) (λx=>.bl (decide (x∈S)&&decide (x<r.1))) (l:=r.2.1) (λx _=>by
  have i2:=cG (c:=.lst (S.map nD)) x S false rfl;by_cases c:x∈S
  .simp[xa,b,i2,c]
  .simp[xa,b,i2,c])
 rw[xb,Ye (by rfl)];unfold g7;generalize gB r.2.1=d at *
 cases d with
 | true=>simp[Hx,Yd,b,a,ao,e]
 | false=>simp[Hx,Yd,b,a]
def fN(rows:List b_):D:=.dct false (rows.map λr=>nD r.1) (rows.map aF)
theorem Q1:∀rows:List b_,el (rows.map λr=>.tup [.int r.1,aF r])=some (rows.map λr=>((r.1:Int),aF r))
 | []=>rfl
 | r::l=>by rw[Qd,el,Q1 l];rfl
theorem JO:∀(c:List (Int×a)) (ns:AF) (vs:List a),(ns++c.map (·.1)).Nodup->aB ns vs c=(ns++c.map (·.1),vs++c.map (·.2))
 | [],ns,vs,_=>by simp[aB]
 | p::c,ns,vs,h=>by
   rw[aB,bz,if_neg (λb=>by
    grind)]
   have d:((ns++[p.1])++c.map (·.1)).Nodup:=by simpa using h
   rw[JO c _ _ d];simp
theorem Q3{l:AE}(h:l.Nodup):(l.map λx:Nat=>(x:Int)).Nodup:=by grind
theorem Z_{rows:List b_}(h:rows.length<=1000)(f:(rows.map (·.1)).Nodup):kY [.tup (rows.map aF)]=some (fN rows):=by
 have g:bN (.lst (rows.map λr=>.tup [.int r.1,aF r]))=some (rows.map λr=>((r.1:Int),aF r)):=Q1 rows;have d:=Q3 f
 have c:(rows.map λr=>((r.1:Int),aF r)).length<1000000:=by rw[qf];ac_nf
 rw[kY,Ye (by rfl)]
 have a:(lF (Yv (b1 (ab 0) Yc) [none] (aj 0) tY Yw)) [↑(.tup (rows.map aF))]=some (.lst (rows.map λr=>.tup [.int r.1,aF r])):=by
  simp[ao,(bV (fe:=Yw) (r:=[]) (enc:=aF) (λr=>.tup [.int r.1,aF r]) (l:=rows) (λr _=>by
  simp[Yw]))]
 have e:Yd 1 [D.tup (rows.map aF)]=[↑(.tup (rows.map aF))]:=rfl
 rw[Hr,e,NX,qq,a,qd,g,qd,Fz,if_pos c,(JO (rows.map λr=>(r.1,aF r)) [] [] (by
  rw[Qf];rw[Qf]at d
  exact d))]
 simp[fN,wu]
theorem JP(x:Nat):∀rows:List b_,Yn (rows.map λr=>((r.1:Nat):Int)) (rows.map aF) (x:Int)=(rows.find? (λr=>r.1==x)).map aF
 | []=>rfl
 | r::l=>by
   rw[Qd,Qd,Yn,JP x l]
   split<;>ext
noncomputable def c_(rows:List b_)(x:Nat):b_:=(rows.find? (λr=>r.1==x)).getD (x,[x],false)
def cP(rows:List b_)(x:Nat):Sm:=(λy=>decide (y∈(c_ rows x).2.1),(c_ rows x).2.2)
theorem JQ(h:∀r∈rows,r.2.1.Pairwise (·<·)/\∀y∈r.2.1,y<60)(b:x<60):(c_ rows x).2.1.Pairwise (·<·)/\∀y∈(c_ rows x).2.1,y<60:=by
 unfold c_
 cases e:rows.find? _ with
 | none=>exact⟨by simp,λy a=>by ext⟩
 | some r=>exact h r (List.mem_of_find?_eq_some e)
def JR(rows:List b_)(x:Nat):ji (fN rows) (.int (x:Int)) (.tup [.int (x:Int),.tup [.int (x:Int)],.bl false])=some (aF (c_ rows x)):=by
 rw[fN,CJ,pN _ _,Option.map_some,JP];unfold c_;cases rows.find? _<;>rfl
def JS(h:∀r∈rows,r.2.1.Pairwise (·<·)/\∀y∈r.2.1,y<60)(b:x<60):D.tup [.tup ((c_ rows x).2.1.map nD),.bl (c_ rows x).2.2]=aX (cP rows x):=by
 obtain⟨a,c⟩:=JQ h b;exact rN a c _
def fO(rows:List b_)(a:Sm)(x:Nat):Sm:=(λy=>a.1 y != (cP rows x).1 y,a.2 != (cP rows x).2)
def bb(rows:List b_)(l:AE):Sm:=l.foldl (fO rows) (λ_=>false,false)
theorem JT(rows:List b_)(q:AE)(x:Nat):bb rows (q++[x])=fO rows (bb rows q) x:=by
 unfold bb;grind
theorem Q4(h:∀r∈rows,r.2.1.Pairwise (·<·)/\∀y∈r.2.1,y<60)(a:Sm):mO [aX a,fN rows]=some (aX (bb rows (fl 60 a.1))):=by
 have k:∀x∈fl 60 a.1,x<60:=λx c=>Qb (Qc c).1;have i:Yc (aX a)=some _:=rfl;generalize aX a=d,fl 60 a.1=F at *
 obtain⟨o,n,g,f,rfl⟩:=fJ (gt:=aj 3) (fb:=Hy) nD (λj l=>∃(g f:AQ),l=[↑d,↑(fN rows),↑(aX (bb rows j)),g,f]) F []
  _ ⟨none,none,rfl⟩ (by
   rintro q x r l e ⟨g,f,rfl⟩;have c:=k x (by ext)
   have b:jv [aX (bb rows q),aX (cP rows x)]=some (aX (bb rows (q++[x]))):=by rw[JT];exact(IP _ _ _ _)
   rw[<-(JS h c)]at b;refine⟨_,[some _,some _,some _,↑(nD x),↑(aF (c_ rows x))],rfl,?_,_,_,rfl⟩
   simp[Hy,JR rows x,se,b])
 rw[mO,Ye (by rfl)];have m:.tup [.tup [],.bl false]=aX (bb rows []):=rfl;simp[Pr,Yd,m,i,n]
def jD(rows:List b_)(a:Sm):Bool:=decide (fl 60 (bb rows (fl 60 a.1)).1=[])&&((bb rows (fl 60 a.1)).2==a.2)
theorem JU(a:Sm)(o:Bool):az false (aX a) (.tup [.tup [],.bl o])=some (decide (fl 60 a.1=[])&&(a.2==o)):=by
 have hd:bG ((fl 60 a.1).map nD)<=1:=vD (λx=>by simp) _;have e:d9 ((fl 60 a.1).map nD) []=decide (fl 60 a.1=[]):=vC mw (fl 60 a.1) [];rw[fI (by simp;ac_nf) nofun];simp only[Fo,N0,e];simp
def lr(rows:List b_)(R:List Sm)(K S:AE):Bool:=decide (rows.map (·.1)=K)&&rows.all (g7 S)&&R.all (jD rows)
theorem y20{rows:List b_}(s:rows.length<=1000)(f:∀r∈rows,r.2.1.length<=3700/\∀y∈r.2.1,y<60)(R:List Sm){K:AE}(n:K.Nodup)(S:AE):
 rd [.tup (rows.map aF),.tup [.str "sums",.tup (R.map aX)],.lst (K.map nD),.lst (S.map nD)]=some (.bl (lr rows R K S)):=by
 have h0:=bV (fe:=Hz) (r:=[]) (enc:=aF) (λr=>nD r.1) (l:=rows) (λr _=>by
  have u:=Q0 r
  simp[Hz])
 have m:(rows.map λr=>nD r.1)=(rows.map (·.1)).map nD:=by rw[Qf];rfl
 rw[m]at h0
 have l:=bV (fe:=HA) (r:=[↑(.lst (S.map nD))]) (enc:=aF) (λr=>.bl (g7 S r)) (λr d=>by
  have h:=Z9 (f r d).2 (f r d).1 S
  simp[HA,h])
 have e:=xF true (rows.map (·.1)) K;rw[rd,Ye (by rfl)];have k:bx (rows.map λr=>D.bl (g7 S r))=some (rows.map (g7 S)):=fY _ rows;have hb:Yc (.tup [.str "sums",.tup (R.map aX)])=some [.str "sums",.tup (R.map aX)]:=rfl;by_cases c:rows.map (·.1)=K
 .have t:(rows.map (·.1)).Nodup:=by rw[c];exact n
  have hd:=Z_ s t;simp [c]at e
  have g:lr rows R K S=(rows.all (g7 S)&&R.all (jD rows)):=by simp[lr,c]
  rw[g];rw[c]at h0
  cases i:rows.all (g7 S)with
  | false=>
    simp[xc,Yd,ao,h0,l,e,i]
  | true=>
    have b:∀r∈rows,r.2.1.Pairwise (·<·)/\∀y∈r.2.1,y<60:=λr d=>by
     have h:=List.all_eq_true.mp i r d;unfold g7 gB at h;simp only[Qe,wm]at h;exact⟨h.1,(f r d).2⟩
    have o:=bV (fe:=HB) (r:=[↑(fN rows)]) (enc:=aX) (λa=>.bl (jD rows a)) (l:=R) (λa _=>by
     have h:=Q4 b a;have p:Yc (aX a)=some [.tup ((fl 60 a.1).map nD),.bl a.2]:=rfl;have q:=JU (bb rows (fl 60 a.1)) a.2;unfold jD
     simp[HB,h,q])
    have j:bx (R.map λa=>D.bl (jD rows a))=some (R.map (jD rows)):=fY _ R;simp[xc,Yd,ao,h0,l,e,i,hd,o]
 .have g:lr rows R K S=false:=by simp[lr,c]
  rw[g];simp only[c]at e;generalize (rows.map (·.1)).map nD=v at *;simp[xc,Yd,ao,h0,e]
abbrev er:=Nat×AE
def bM(r:er):D:=.tup [.int r.1,.tup (r.2.map nD)]
@[simp] def JV(r:er):Yc (bM r)=some [.int r.1,.tup (r.2.map nD)]:=nr rfl
def jE(l K:AE):Bool:=gB l&&l.all λx=>decide (x∈K)
theorem Q5{l:AE}(h:∀x∈l,x<60)(c:l.length<=3700)(K:AE):rh [.tup (l.map nD),.lst (K.map nD)]=some (.bl (jE l K)):=by
 have b:=JM h c;have hb:bx (l.map λx=>D.bl (decide (x∈K)))=some (l.map λx=>decide (x∈K)):=fY _ _
 have a:(l.map λx=>decide (x∈K)).all id=l.all λx=>decide (x∈K):=by rw[List.all_map];rfl
 rw[rh,Ye (by rfl)];unfold jE;rw[<-a];generalize (l.map λx=>decide (x∈K))=e,gB l=d at *
 cases d with
 | true=>simp[HD,Yd,b,ao,(bV (fe:=HC) (r:=[↑(.lst (K.map nD))]) (enc:=nD) (λx=>.bl (decide (x∈K))) (l:=l) (λx _=>by
   simp[HC,(cG (c:=.lst (K.map nD)) x K false rfl)])),hb]
 | false=>simp[HD,Yd,b]
theorem JW(l:AE)(x:Nat):mP [.tup (l.map nD),.int x]=some (.lst ((l.filter λy=>decide (y<x)).map nD)):=by
 rw[mP,Ye (by rfl)]
 simp[Pv,Yd,ao,gX (fc:=HE) (fe:=HF) (r:=[↑(.int x)]) (enc:=nD) (λy=>decide (y<x)) nD (l:=l) (λy _=>by
  simp[HE]) (λy _ _=>by simp[HF])]
def dU(first K:AE)(r:er):Bool:=jE r.2 K&&decide ((r.2.filter λy=>decide (y<r.1))=first.filter λy=>decide (y<r.1))
def JY{r:er}(h:∀x∈r.2,x<60)(c:r.2.length<=3700)(first K:AE):xf [bM r,.tup (first.map nD),.lst (K.map nD)]=some (.bl (dU first K r)):=by
 have b:=JV r;have a:=Q5 h c K;rw[xf,Ye (by rfl)];unfold dU;generalize jE r.2 K=d at *
 cases d with
 | true=>simp[HI,Yd,b,a,JW r.2 r.1,JW first r.1,(xF false (r.2.filter λy=>decide (y<r.1)) (first.filter λy=>decide (y<r.1)))]
 | false=>simp[HI,Yd,b,a]
noncomputable def cg(n:Nat)(l:AE):AG:=(List.range n).map λx=>decide (x∈l)
theorem Yno{n:Nat}(e:n<=1000){R:List Rl}(d:∀r∈R,In .i n r)(l:AE):xg [bq .i R,.lst (l.map nD),.int n]=some (.bl (decide (brk .i (cg n l) R=[]))):=by
 have c:=Fw (n:=n) ∅ ∅;rw[pM]at c
 have b:=bV (fe:=HK) (r:=[↑(.lst (l.map nD))]) (enc:=λi=>D.int ((i:Nat))) (λx=>D.bl (decide (x∈l))) (l:=List.range n) (λx _=>by
  simp[HK,(cG (c:=.lst (l.map nD)) x l false rfl)])
 have e1:((List.range n).map λx=>D.bl (decide (x∈l)))=(cg n l).map D.bl:=by unfold cg;rw[Qf];rfl
 rw[e1]at b
 have a:(cg n l).length=n:=by unfold cg;simp
 rw[xg,Ye (by rfl)];simp[Px,Yd,ao,c,b,(IG (c:=.lst ((cg n l).map D.bl)) rfl (by rw[a];exact d))]
theorem y7d(S:AE)(x:Nat):jw [.lst (S.map nD),.int x]=some (.tup ((S.filter λy=>!decide (y=x)).map nD)):=by
 rw[jw,Ye (by rfl)]
 simp[GQ,Yd,ao,(gX (fc:=qM) (fe:=qN) (r:=[↑(.int x)]) (enc:=nD) (λy=>!decide (y=x)) nD (l:=S) (λy _=>by
  simp[qM]) (λy _ _=>by simp[qN]))]
noncomputable def dq(first:AE)(rows:List er)(S:AE):List AE:=(S++first)::rows.map λr=>(S.filter λy=>!decide (y=r.1))++r.2
def iQ(first:AE)(rows:List er)(R:List Rl)(K S:AE)(n:Nat):Bool:=jE first K&&decide (rows.map (·.1)=S)&&rows.all (dU first K)&&(dq first rows S).all λl=>decide (brk .i (cg n l) R=[])
theorem y21{first:AE}(hf:∀x∈first,x<60)(hfl:first.length<=100){rows:List er}(hl:rows.length<=100)(hr:∀r∈rows,r.2.length<=100/\∀y∈r.2,y<60){n:Nat}(hn:n<=1000){R:List Rl}(hR:∀r∈R,In .i n r)(K:AE){S:AE}(hS:S.length<=100):
 xh [.tup (first.map nD),.tup (rows.map bM),bq .i R,.lst (K.map nD),.lst (S.map nD),.int n]=some (.bl (iQ first rows R K S n)):=by
 have hs:=Q5 hf ∅ K
 have h0:=bV (fe:=HL) (r:=[]) (enc:=bM) (λr=>nD r.1) (l:=rows) (λr _=>by
  have hi:=JV r;generalize bM r=rr at *
  simp[HL,hi])
 have e0:(rows.map λr=>nD r.1)=(rows.map (·.1)).map nD:=by rw[Qf];rfl
 rw[e0]at h0;have hq:=xF true (rows.map (·.1)) S
 have h1:=bV (fe:=HM) (r:=[↑(.tup (first.map nD)),↑(.lst (K.map nD))]) (enc:=bM) (λr=>.bl (dU first K r)) (l:=rows) (λr hm=>by
  have h:=JY (hr r hm).2 (by have:=(hr r hm).1;ac_nf) first K
  generalize bM r=rr at *
  generalize first.map nD=F1 at *
  generalize K.map nD=KK at *
  simp[HM,h])
 have hall:bx (rows.map λr=>D.bl (dU first K r))=some (rows.map (dU first K)):=fY _ rows
 have h2:=bV (fe:=HN) (r:=[↑(.lst (S.map nD))]) (enc:=bM) (λr=>.lst (((S.filter λy=>!decide (y=r.1))++r.2).map nD)) (l:=rows) (λr hm=>by
  have hi:=JV r;have hw:=y7d S r.1;have hfi:(S.filter λy=>!decide (y=r.1)).length<=S.length:=Qn _ _;have hc:=kM (a:=(S.filter λy=>!decide (y=r.1)).map nD) (b:=r.2.map nD) (by have:=(hr r hm).1;rw[qf,qf];ac_nf);rw[<-wt]at hc;have l1:∀l:AN,eR [.tup l]=some l:=λl=>rfl;generalize ((S.filter λy=>!decide (y=r.1))++r.2).map nD=C,(S.filter λy=>!decide (y=r.1)).map nD=S1,r.2.map nD=R1,S.map nD=SS,bM r=rr at *
  simp[HN,hi,hw,l1,hc])
 have e2:(rows.map λr=>D.lst (((S.filter λy=>!decide (y=r.1))++r.2).map nD))=(rows.map λr=>(S.filter λy=>!decide (y=r.1))++r.2).map λl=>D.lst (l.map nD):=by rw[Qf];rfl
 rw[e2]at h2;have hcf:=kM (a:=S.map nD) (b:=first.map nD) (by rw[qf,qf];ac_nf);rw[<-wt]at hcf;have hcl:=kM (a:=[D.lst ((S++first).map nD)]) (b:=(rows.map λr=>(S.filter λy=>!decide (y=r.1))++r.2).map λl=>D.lst (l.map nD)) (by simp;ac_nf);have e3:[D.lst ((S++first).map nD)]++((rows.map λr=>(S.filter λy=>!decide (y=r.1))++r.2).map λl=>D.lst (l.map nD))=(dq first rows S).map λl=>D.lst (l.map nD):=rfl;rw[e3]at hcl
 have h3:=bV (fe:=HP) (r:=[↑(bq .i R),↑(.int (n:Int))]) (enc:=λl:AE=>D.lst (l.map nD)) (λl=>.bl (decide (brk .i (cg n l) R=[]))) (l:=dq first rows S) (λl _=>by
  have h:=Yno hn hR l;generalize bq .i R=bk,l.map nD=LL at *
  simp[HP,h])
 have hall3:bx ((dq first rows S).map λl=>D.bl (decide (brk .i (cg n l) R=[])))=some ((dq first rows S).map λl=>decide (brk .i (cg n l) R=[])):=fY _ _
 have hq3:((dq first rows S).map λl=>decide (brk .i (cg n l) R=[])).all id=(dq first rows S).all λl=>decide (brk .i (cg n l) R=[]):=by rw[List.all_map];rfl
 have hlf:eR [.tup (first.map nD)]=some (first.map nD):=rfl;rw[xh,Ye (by rfl)];unfold iQ;rw[<-hq3];generalize ((dq first rows S).map λl=>decide (brk .i (cg n l) R=[]))=B3,((dq first rows S).map λl=>D.bl (decide (brk .i (cg n l) R=[])))=D3,((dq first rows S).map λl=>D.lst (l.map nD))=L3,((rows.map λr=>(S.filter λy=>!decide (y=r.1))++r.2).map λl=>D.lst (l.map nD))=L2,(S++first).map nD=SF,bq .i R=bk at *
 generalize jE first K=sb at *
 generalize (rows.map λr=>D.bl (dU first K r))=RB at *
 generalize hrp:dU first K=rp at *
 generalize rows.map bM=RR at *
 generalize first.map nD=F1 at *
 generalize K.map nD=KK at *
 cases sb with
 | false=>simp[mQ,Yd,hs]
 | true=>
   by_cases hk:rows.map (·.1)=S
   .simp only[hk,decide_true]at hq
    rw[hk]at h0;generalize S.map nD=SS at *
    cases ha:rows.all rp with
    | false=>simp[mQ,Yd,hs,ao,h0,hq,h1,hall,ha,wu]
    | true=>simp[mQ,Yd,hs,ao,h0,hq,h1,hall,ha,wu,hk,hlf,hcf,h2,hcl,h3,hall3]
   .simp only[hk,decide_false]at hq
    generalize (rows.map (·.1)).map nD=R1,S.map nD=SS at *;simp[mQ,Yd,hs,ao,h0,hq,hk]
noncomputable def od(l:AE)(E:AH):Bool:=decide ((l.filter E).length%2=1)
def xG(E:AH):od [] E=false:=rfl
theorem gC(a:Nat)(l:AE)(E:AH):od (a::l) E=(E a != od l E):=by
 unfold od;grind
def gE(h:∀x∈l,E x=F x):od l E=od l F:=by
 unfold od;rw[List.filter_congr h]
theorem m9(h:∀x∈l,E x=false):od l E=false:=by
 unfold od;rw[List.filter_eq_nil_iff.mpr λx a=>by grind];rfl
theorem sf:∀{l:AE},l.Nodup->∀y:Nat,od l (λx=>decide (y=x))=decide (y∈l)
 | [],_,y=>by simp[xG]
 | a::l,h,y=>by
   rw[List.nodup_cons]at h;rw[gC,sf h.2];by_cases e:y=a
   .subst e
    simp[h.1]
   .simp[e]
def xr(T E:AH):Bool:=od (.range 60) (λx=>T x&&E x)
theorem xH(f g:AH):∀l:AE,od l (λx=>f x != g x)=(od l f != od l g)
 | []=>rfl
 | a::l=>by
   rw[gC,gC,gC,xH f g l];cases f a<;>cases g a<;>cases od l f<;>cases od l g<;>rfl
def sg(T S E:AH):xr (λx=>T x != S x) E=(xr T E != xr S E):=by
 unfold xr;rw[<-xH]
 exact gE λx _=>show((T x != S x)&&E x)=((T x&&E x)!=(S x&&E x)) by cases T x<;>cases S x<;>cases E x<;>rfl
theorem si(b:a<60)(E:AH):xr (λx=>decide (x=a)) E=E a:=by
 unfold xr
 have h:od (.range 60) (λx=>decide (x=a)&&E x)=od _ (λx=>decide (a=x)&&E a):=gE λx _=>by
  grind
 rw[h]
 cases E a with
 | false=>exact m9 λx _=>by simp
 | true=>
   have c:od (.range 60) (λx=>decide (a=x)&&true)=od _ (λx=>decide (a=x)):=gE λx _=>by simp
   rw[c,sf List.nodup_range];simp[b]
theorem xI(E:AH):∀{l:AE},l.Nodup->(∀x∈l,x<60)->xr (λx=>decide (x∈l)) E=od l E
 | [],_,_=>m9 λx _=>by simp
 | a::l,b,c=>by
   rw[List.nodup_cons]at b
   have e:(λx=>decide (x∈a::l))=λx=>decide (x=a)!=decide (x∈l):=funext λx=>by
    by_cases h:x=a
    .subst h
     simp[b.1]
    .simp[h]
   rw[e,sg,si (c a nofun),xI E b.2 λx d=>c x (by simp[d]),gC]
def sj(f E:AH):od (fl 60 f) E=xr f E:=by
 unfold od xr od fl;rw[List.filter_filter,List.filter_congr λx _=>Bool.and_comm _ _]
theorem sk(rows:List b_):∀(l:AE) (a:Sm),(∀y,(l.foldl (fO rows) a).1 y=(a.1 y != od l (λx=>(cP rows x).1 y)))/\(l.foldl (fO rows) a).2=(a.2 != od l (λx=>(cP rows x).2))
 | [],a=>⟨λy=>by rw[xG];ext,by rw[xG];ext⟩
 | x::l,a=>by
   obtain⟨b,c⟩:=sk _ l _;refine⟨λy=>?_,?_⟩
   .rw[List.foldl_cons,b y,gC]
    show((a.1 y != _)!=_)=_
    ext
   .rw[List.foldl_cons,c,gC]
    show((a.2 != _)!=_)=_
    ext
def kp(rows:List b_)(T:AH)(o:Bool):Prop:=(∀y,y<60->xr T (λx=>(cP rows x).1 y)=false)/\xr T (λx=>(cP rows x).2)=o
def lu(h:∀x,x<60->(T x&&E x)=(S x&&F x)):xr T E=xr S F:=gE λx a=>h x (Qb a)
theorem lx(rows:List b_)(T:AH):(∀y,(bb rows (fl 60 T)).1 y=xr T (λx=>(cP rows x).1 y))/\(bb rows (fl 60 T)).2=xr T (λx=>(cP rows x).2):=by
 obtain⟨a,b⟩:=sk _ _ _;refine⟨λy=>?_,?_⟩
 .show((fl 60 T).foldl (fO _) _).1 y=_
  rw[a y,sj];symm
 .show((fl 60 T).foldl (fO _) _).2=_
  rw[b,sj];symm
theorem fl_nil:fl 60 T=[]↔∀x,x<60->T x=false:=by ext
def kept_kp{rows:List b_}{T:AH}{o:Bool}:jD rows (T,o)=true↔kp rows T o:=by
 obtain⟨h1,h2⟩:=lx rows T;unfold jD kp;rw[Qe,wm,fl_nil,beq_iff_eq,h2]
 refine and_congr_left λ_=>⟨λh y hy=>by rw[<-h1 y];exact h y hy,λh y hy=>by rw[h1 y];exact h y hy⟩
def JZ(h:kp rows T o)(h':kp rows S u):kp rows (λx=>T x != S x) (o != u):=
 ⟨λy a=>by rw[sg,h.1 y a,h'.1 y a];rfl,by rw[sg,h.2,h'.2]⟩
theorem sq(h:∀x,x<60->T x=false):xr T E=false:=m9 λx a=>by
 ext
def J0(h:∀x,x<60->T x=false):kp rows T false:=⟨λ_ _=>sq h,sq h⟩
theorem Red.kp(a:∀r∈BL,kp rows (tP R r.2) (aK R (fl 60 r.2)))(h:Red R BL false T o):Lw.kp rows T o:=by
 induction h with
 | zero e d=>
   rw[d rfl];exact J0 e
 | step r b f _ c=>
   have:=JZ c (a r b)
   ext
theorem J1(h:x≠r.1):c_ (rows++[r]) x=c_ rows x:=by
 unfold c_;grind
def y7e(h:r.1∉rows.map (·.1)):c_ (rows++[r]) r.1=r:=by
 unfold c_;rw[List.find?_append]
 have e:(rows.find? λq=>q.1==r.1)=none:=by
  rw[List.find?_eq_none];intro q a z;exact h (List.mem_map.mpr ⟨q,a,by simpa using z⟩)
 rw[e];simp
def xJ(h:x∉rows.map (·.1)):c_ rows x=(x,[x],false):=by
 unfold c_
 have e:(rows.find? λq=>q.1==x)=none:=by
  rw[List.find?_eq_none];intro q hq z;exact h (List.mem_map.mpr ⟨q,hq,by simpa using z⟩)
 rw[e];rfl
theorem J2(h:x∈rows.map (·.1)):c_ rows x∈rows/\(c_ rows x).1=x:=by
 unfold c_
 cases e:rows.find? _ with
 | none=>
   grind
 | some q=>grind
noncomputable def wl(T:AH)(k:Nat):AH:=λx=>T x&&!decide (x=k)
def iR(a:k<60)(b:T k=true)(E:AH):xr T E=(xr (wl T k) E != E k):=by
 rw[<-si a E,<-sg];refine lu λx _=>?_;unfold wl;by_cases e:x=k
 .subst e
  simp[b]
 .simp[e]
def fg(rows:List b_)(k:Nat)(T:AH)(o:Bool):b_:=(k,fl 60 (bb rows (fl 60 (wl T k))).1,(bb rows (fl 60 (wl T k))).2 != o)
inductive Mk (S:AE) (Tf:Nat->AH) (of:AH):List b_->Prop
 | nil:Mk S Tf of []
 | snoc {rows:List b_}{k:Nat}:Mk S Tf of rows->(∀r∈rows,r.1<k)->Last (Tf k) k->(∀x,x<k->Tf k x=true->x∈S\/x∈rows.map (·.1))->Mk S Tf of (rows++[fg rows k (Tf k) (of k)])
theorem J3(h:Mk S c e rows):∀r∈rows,∀x,x<60->c r.1 x=true->x<=r.1:=by
 induction h with
 | nil=>simp
 | snoc g f d i b=>
   intro r a;rcases qw a with a|a
   .exact b r a
   .rw[List.mem_singleton]at a
    subst a;exact d.2.2
theorem J4(h:Mk S a b rows):∀r∈rows,kp rows (a r.1) (b r.1):=by
 induction h with
 | nil=>grind
 | snoc q B i F C=>
   rename_i rows k;have u:∀x,x<k->c_ (rows++[fg rows k (a k) (b k)]) x=c_ rows x:=λx e=>J1 (λz=>by have G:x=k:=z;lia)
   have l:k∉rows.map (·.1):=λz=>by
    grind
   have g:c_ (rows++[fg rows k (a k) (b k)]) k=fg rows k (a k) (b k):=y7e (r:=fg rows k (a k) (b k)) l;intro r d;rcases qw d with d|d
   .have v:=B r d
    obtain⟨E,s⟩:=C r d;have n:∀x,x<60->a r.1 x=true->x<k:=λx e o=>Nat.lt_of_le_of_lt (J3 q r d x e o) v;refine⟨λy p=>?_,?_⟩
    .rw[<-E y p]
     refine lu λx e=>?_
     cases o:a r.1 x with
     | false=>rfl
     | true=>
       unfold cP
       ext
    .rw[<-s]
     refine lu λx e=>?_
     cases o:a r.1 x with
     | false=>rfl
     | true=>
       unfold cP
       ext
   .rw[List.mem_singleton]at d
    subst d;show kp _ (a k) (b k);obtain⟨D,A⟩:=lx rows (wl (a k) k)
    have n:∀x,x<60->wl (a k) k x=true->x<k:=λx e j=>by
     unfold wl at j;rw[Qe]at j;have:=i.2.2 x e j.1
     (simp;lia)
    have c:∀f:b_->Bool,xr (wl (a k) k) (λx=>f (c_ (rows++[fg rows k (a k) (b k)]) x))=xr (wl (a k) k) (λx=>f (c_ rows x)):=λf=>lu λx e=>by
     grind
    refine⟨λy p=>?_,?_⟩
    .rw[iR i.1 i.2.1]
     have t:(cP (rows++[fg rows k (a k) (b k)]) k).1 y=(bb rows (fl 60 (wl (a k) k))).1 y:=by
      unfold cP;rw[g];show decide (y∈fl 60 (bb rows (fl 60 (wl (a k) k))).1)=_
      ext
     have m:=c λr=>decide (y∈r.2.1)
     have w:xr (wl (a k) k) (λx=>(cP (rows++[fg rows k (a k) (b k)]) x).1 y)=(bb rows (fl 60 (wl (a k) k))).1 y:=by
      rw[D y];exact m
     ext
    .rw[iR i.1 i.2.1]
     have t:(cP (rows++[fg rows k (a k) (b k)]) k).2=((bb rows (fl 60 (wl (a k) k))).2 != b k):=by
      unfold cP;rw[g];rfl
     have m:=c λr=>r.2.2
     have w:xr (wl (a k) k) (λx=>(cP (rows++[fg rows k (a k) (b k)]) x).2)=(bb rows (fl 60 (wl (a k) k))).2:=by
      rw[A];exact m
     ext
theorem sr:∀{l:AE}{E:AH},od l E=true->∃x∈l,E x=true
 | [],_,h=>by cases h
 | a::l,E,h=>by
   rw[gC]at h
   cases c:E a with
   | true=>ext
   | false=>
     have b:od l E=true:=by grind
     obtain⟨x,d,e⟩:=sr b;grind
def sv(h:xr T E=true):∃x,x<60/\T x=true/\E x=true:=by
 obtain⟨x,a,e⟩:=sr h;rw[Qe]at e;exact⟨x,Qb a,e.1,e.2⟩
theorem sx(h:Mk S v t rows):∀r∈rows,r.1<60/\r.2.1.Pairwise (·<·)/\∀y∈r.2.1,y∈S/\y<r.1:=by
 induction h with
 | nil=>simp
 | snoc u w i m j=>
   rename_i rows k;intro r b;rcases qw b with b|b
   .exact j r b
   .rw[List.mem_singleton]at b
    subst b;refine⟨i.1,.filter _ List.pairwise_lt_range,λy n=>?_⟩;have d:=(Qc n).2;rw[(lx _ _).1 y]at d;obtain⟨x,q,f,p⟩:=sv d;unfold wl at f;rw[Qe]at f
    have e:x<k:=by
     have:=i.2.2 x q f.1;grind
    have c:=wq p;by_cases a:x∈rows.map (·.1)
    .obtain⟨s,A⟩:=J2 a
     obtain⟨_,_,o⟩:=j _ s;obtain⟨l,z⟩:=o y c;exact⟨l,by show y<k;lia⟩
    .rw[xJ a]at c
     have g:y=x:=by grind
     subst g;exact⟨(m y e f.1).resolve_right a,e⟩
def Q6(S:AE)(T:AH)(o:Bool):Prop:=fl 60 T=[]/\o=true\/∃l∈S,Last T l
theorem never(w:rows.map (·.1)=K)(v:∀r∈rows,∀y∈r.2.1,y<r.1)(i:∀x∈S,x∉K)(h:kp rows T o):¬Q6 S T o:=λn=>by
 rcases n with⟨f,rfl⟩|⟨l,p,b⟩
 .have:=h.2
  rw[sq (fl_nil.mp f)]at this;cases this
 .have m:=h.1 l b.1
  rw[iR b.1 b.2.1]at m
  have q:(cP rows l).1 l=true:=by
   unfold cP;rw[xJ (by grind)];simp
  have u:xr (wl T l) (λx=>(cP rows x).1 l)=false:=by
   cases e:xr _ _ with
   | false=>rfl
   | true=>
     obtain⟨x,k,c,g⟩:=sv e;unfold wl at c;rw[Qe]at c
     have j:x<l:=by
      have:=b.2.2 x k c.1
      (simp;lia)
     have d:=wq g;by_cases a:x∈rows.map (·.1)
     .obtain⟨t,s⟩:=J2 a
      grind
     .rw[xJ a]at d
      ext
  grind
def J5(R:List Sm)(W:AH):Yc (aN R W)=some [.tup ((fl 60 W).map nD),.tup [.tup ((fl 60 (tP R W)).map nD),.bl (aK R (fl 60 W))]]:=rfl
def Q7(h:Last (tP R W) b):ry [aN R W]=some (.int (b:Int)):=by
 rcases IX (tP R W)with d|⟨c,f,_,a⟩
 .have:=fl_nil.mp d b h.1
  rw[h.2.1]at this;cases this
 .have e:=h.uniq f
  subst e;rw[ry,Ye (by rfl)];simp[PL,Yd,J5 R W,a]
def fP(R:List Sm)(S:AE)(W:AH):Prop:=(∀p,W p=true->p<R.length)/\Q6 S (tP R W) (aK R (fl 60 W))
theorem Yr5(d:jC R R.length BL)(j:rR R R.length U)(S:AE):
 ∃V:Option AH,(V=none->U=none/\∀r∈BL,r.1∉S)/\(∀W,V=some W->fP R S W)/\mS [.lst (bo R BL),dg U,.lst (S.map nD)]=some (dg V):=by
 cases U with
 | some g=>
   refine⟨some g,λh=>(nomatch h),λW b=>?_,?_⟩
   .cases b
    obtain⟨n,m,k⟩:=j g rfl;exact⟨k,.inl ⟨n,m⟩⟩
   .rw[mS,Ye (by rfl)]
    constructor<;>lia
 | none=>
   have c:=gX (fc:=HW) (fe:=PN) (r:=[↑(.lst (S.map nD))]) (enc:=λr:dn=>aN R r.2) (λr=>decide (r.1∈S)) (λr=>.tup ((fl 60 r.2).map nD)) (λr a=>by
    have i:=Q7 (d.1 r a).1;have e:=cG (c:=.lst _) r.1 S false rfl
    simp[HW,i,e]) (λr a _=>by
    have p:=J5 R r.2
    constructor<;>lia)
   have l:(BL.map _)=bo R BL:=rfl
   cases f:BL.filter _ with
   | nil=>
     rw[f]at c;refine⟨none,λ_=>⟨rfl,λr a z=>?_⟩,λW b=>(nomatch b),?_⟩
     .have:r∈BL.filter λr=>decide (r.1∈S):=List.mem_filter.mpr ⟨a,wn z⟩
      grind
     .rw[mS,Ye (by rfl)]
      simp[HX,Yd,dg,ao,c]
   | cons r L=>
     rw[f]at c;have a:=Qc (by rw[f];exact qh);refine⟨some r.2,λh=>(nomatch h),λW b=>?_,?_⟩
     .cases b
      exact⟨(d.1 r a.1).2,.inr ⟨r.1,wq a.2,(d.1 r a.1).1⟩⟩
     .rw[mS,Ye (by rfl)]
      have o:dg (some r.2)=_:=rfl;simp[HX,Yd,dg,ao,c]
theorem sy(h:Last T k):fl 60 T=fl 60 (wl T k)++[k]:=by
 refine JK (.filter _ List.pairwise_lt_range) ?_ λx=>?_
 .rw[List.pairwise_append]
  refine⟨.filter _ List.pairwise_lt_range,by simp,λa e b f=>?_⟩;obtain⟨d,c⟩:=Qc e;unfold wl at c;rw[Qe]at c;have:=h.2.2 a (Qb d) c.1
  ext<;>lia
 .rw[List.mem_append,List.mem_singleton,Ql,Ql,List.mem_range]
  unfold wl;constructor
  .simp_all<;>lia
  .rintro(⟨d,c⟩|rfl)
   .simp_all
   .exact⟨h.1,h.2.1⟩
theorem J6(h:Last T k):cL ((fl 60 T).map nD) none (some (-1))=(fl 60 (wl T k)).map nD:=by
 have e:HT.sIx ((fl 60 T).map nD).length ((fl 60 T).map nD).length (some (-1))=(fl 60 T).length-1:=by
  unfold HT.sIx;simp;ac_nf
 unfold cL;rw[e,HT.sIx_none,sy h];simp
def cz(R:List Sm)(BL:List dn)(k:Nat):AH:=if k∈BL.map (·.1)then tP R (cx BL k)else λx=>decide (x=k)
def eF(R:List Sm)(BL:List dn)(k:Nat):Bool:=if k∈BL.map (·.1)then aK R (fl 60 (cx BL k))else false
theorem Q8(f:(AH)->D){b:Nat}:∀{BL:List dn},b∉BL.map (·.1)->Yn ((BL.map (·.1)).map λx:Nat=>(x:Int)) (BL.map λr=>f r.2) (b:Int)=none
 | [],_=>rfl
 | r::BL,h=>by
   show Yn (_::_) (f r.2::_) _=none;have e:¬r.1=b:=λz=>h (by grind);rw[Yn,if_neg (by lia)];exact Q8 f λz=>h (qg _ z)
abbrev iS(R:List Sm)(BL:List dn):AN:=BL.map λr=>aV R (fl 60 r.2)
theorem J7(R:List Sm)(BL:List dn){k:Nat}(a:k<60):ji (.dct false (bQ BL) (iS R BL)) (.int (k:Int)) (.tup [.tup [.int (k:Int)],.bl false])=some (aX (cz R BL k,eF R BL k)):=by
 rw[CJ,gA,Option.map_some];unfold cz eF;by_cases h:k∈BL.map (·.1)
 .have:=(mX (λW=>aV R (fl 60 W)) h).2
  rw[this,if_pos h,if_pos h];rfl
 .have:=Q8 (λW=>aV R (fl 60 W)) h
  have e:=xy a
  split<;>ext
theorem sA(b:jC R R.length BL)(a:k<60):Last (cz R BL k) k:=by
 unfold cz;by_cases h:k∈BL.map (·.1)
 .rw[if_pos h]
  exact(b.1 _ (mX (λ_=>.non) h).1).1
 .rw[if_neg h]
  exact⟨a,by simp,λx _ c=>by ext⟩
theorem Q9(R:List Sm):∀BL:List dn,el (BL.map λr=>.tup [.int r.1,aV R (fl 60 r.2)])=some (BL.map λr=>((r.1:Int),aV R (fl 60 r.2)))
 | []=>rfl
 | r::l=>by rw[Qd,el,Q9 R l];rfl
def J8(a:Sm):jg (aX a)=true:=by
 simp [jg,ej,lg (fl 60 a.1)]
theorem y22(J:jC R R.length BL)(w:k<60)(O:rows.length<=1000)(x:∀r∈rows,r.1<k/\r.2.1.Pairwise (·<·)/\∀y∈r.2.1,y<60)(h j C l:AQ):
 ∃I F:AQ,xl [h,j,some (.od false (bQ BL) (iS R BL)),some (.od false (rows.map λr=>nD r.1) (rows.map aF)),↑(nD k),C,l] =
  some (.nx [h,j,some (.od false (bQ BL) (iS R BL)),some (.od false ((rows++[fg rows k (cz R BL k) (eF R BL k)]).map λr=>nD r.1) ((rows++[fg rows k (cz R BL k) (eF R BL k)]).map aF)),↑(nD k),I,F]):=by
 have A:=sA J w;have H:=J7 R BL w;have s:Yc (aX (cz R BL k,eF R BL k))=some [.tup ((fl 60 (cz R BL k)).map nD),.bl (eF R BL k)]:=rfl;have v:=J6 A;have b:=Q4 (rows:=rows) (λr K=>(x r K).2) (wl (cz R BL k) k,false);have p:aX (wl (cz R BL k) k,false)=.tup [.tup ((fl 60 (wl (cz R BL k) k)).map nD),.bl false]:=rfl;rw[p]at b;have u:Yc (aX (bb rows (fl 60 (wl (cz R BL k) k))))=some _:=rfl;have E:=J8 (bb rows (fl 60 (wl (cz R BL k) k)))
 have f:k∉rows.map (·.1):=λz=>by
  grind
 have e:(rows.map λr=>nD r.1)=(rows.map (·.1)).map nD:=by ext
 have g:∀d:D,md (rows.map λr=>nD r.1) (rows.map aF) (.int (k:Int)) d=some ((rows.map λr=>nD r.1)++[.int (k:Int)],rows.map aF++[d]):=λd=>by
  rw[mf,e,gA,qd,if_pos (show(rows.map aF).length<aA by rw[qf];show rows.length<1000000;lia),if_neg (λz=>f (mem_castI.mp z))]
 have c:((rows++[fg rows k (cz R BL k) (eF R BL k)]).map λr=>nD r.1)=(rows.map λr=>nD r.1)++[.int (k:Int)]:=by rw[wt];rfl
 have a:(rows++[fg rows k (cz R BL k) (eF R BL k)]).map aF=rows.map aF++[.tup [.int (k:Int),.tup ((fl 60 (bb rows (fl 60 (wl (cz R BL k) k))).1).map nD),.bl ((bb rows (fl 60 (wl (cz R BL k) k))).2 != eF R BL k)]]:=by rw[wt];rfl
 rw[c,a];have i:fN rows=.dct false (rows.map λr=>nD r.1) (rows.map aF):=rfl;rw[i]at b;refine⟨some (.sh (aX (cz R BL k,eF R BL k))),↑(aX (bb rows (fl 60 (wl (cz R BL k) k)))),?_⟩;generalize (bb rows (fl 60 (wl (cz R BL k) k))).2=Q at *;generalize (fl 60 (bb rows (fl 60 (wl (cz R BL k) k))).1).map nD=N at *;generalize aX (bb rows (fl 60 (wl (cz R BL k) k)))=G,(fl 60 (wl (cz R BL k) k)).map nD=S,(fl 60 (cz R BL k)).map nD=L,aX (cz R BL k,eF R BL k)=q at *;generalize eF R BL k=M at *;clear e c a i x f;generalize (rows.map λr=>nD r.1)=n,rows.map aF=o,bQ BL=KB,iS R BL=m at *
 have t:gT [3] (cC (Yb (av (Yb (jm (b2 (aa 5) (aaa 0) ai) none (some (b1 (aaa 1) bD))) (Yb (kD (.bl false)) ae))) (Yb (ab 3) ae)) mO) [h,j,some (.od false KB m),some (.od false n o),↑(nD k),↑q,l]=some G:=by
  unfold gT;have T:frz [3] [h,j,some (.od false KB m),some (.od false n o),↑(nD k),↑q,l]=[h,j,some (.od false KB m),↑(.dct false n o),↑(nD k),↑q,l]:=rfl
  ext
 simp[xl,H,t,u,s,g,-CJ,-mf];grind
theorem J9(hn:(rows.map (·.1)).Nodup)(c:r∈rows):cN (fN rows) (.int (r.1:Int))=some (aF r):=by
 have b:intsD (rows.map λr=>nD r.1)=_:=pN _ _;rw[fN,jk,b,qd,JP]
 have f:rows.find? (λq=>q.1==r.1)=some r:=by
  cases e:rows.find? _ with
  | none=>
    grind
  | some q=>
    have g:=List.mem_of_find?_eq_some e
    have d:q.1=r.1:=by grind
    clear e b
    induction rows with
    | nil=>cases c
    | cons a l h=>
      grind
 rw[f];rfl
theorem y7f(hB:jC R R.length BL)(hBl:BL.length<=1000)(hK:K.Pairwise (·<·))(hK60:∀k∈K,k<60)(hS60:∀x∈S,x<60)(hT:∀k∈K,∀x,x<60->cz R BL k x=true->x∈S\/x∈K):
 ∃rows:List b_,Mk S (cz R BL) (eF R BL) rows/\rows.map (·.1)=K/\xm [.lst (bo R BL),.lst (K.map nD)]=some (.tup (rows.map aF)):=by
 have hKl:K.length<=60:=xA (hK.imp λh=>qm h) hK60
 have hc:=bV (fe:=rz) (r:=[]) (enc:=λr:dn=>aN R r.2) (λr=>.tup [.int r.1,aV R (fl 60 r.2)]) (l:=BL) (λr hr=>by
  have hl:=Q7 (hB.1 r hr).1;have hi:=J5 R r.2;have ht:aV R (fl 60 r.2)=.tup [.tup ((fl 60 (tP R r.2)).map nD),.bl (aK R (fl 60 r.2))]:=rfl;rw[<-ht]at hi;generalize aV R (fl 60 r.2)=TT,aN R r.2=PW at *
  simp[rz,hl,hi])
 have hrw:(BL.map λr:dn=>aN R r.2)=bo R BL:=rfl;rw[hrw]at hc;have h1:bN (.lst (BL.map λr=>.tup [.int r.1,aV R (fl 60 r.2)]))=some (BL.map λr=>((r.1:Int),aV R (fl 60 r.2))):=Q9 R BL;have hn2:=Q3 hB.2
 have hd:=JO (BL.map λr=>((r.1:Int),aV R (fl 60 r.2))) [] [] (by
  rw[Qj,Qf];rw[Qf]at hn2
  exact hn2)
 have hlen:(BL.map λr=>((r.1:Int),aV R (fl 60 r.2))).length<1000000:=by rw[qf];ac_nf
 obtain⟨ρ',e1,rows,y4,y5,y6,hM,hrk,rfl⟩:=fJ (gt:=aj 4) (fb:=xl) nD (λpre ρ=>∃(rows:List b_) (y4 y5 y6:AQ),Mk S (cz R BL) (eF R BL) rows/\rows.map (·.1)=pre/\
  ρ=[↑(.lst (bo R BL)),↑(.lst (K.map nD)),some (.od false (bQ BL) (iS R BL)),some (.od false (rows.map λr=>nD r.1) (rows.map aF)),y4,y5,y6]) K []
  [↑(.lst (bo R BL)),↑(.lst (K.map nD)),some (.od false (bQ BL) (iS R BL)),some (.od false [] []),none,none,none] ⟨[],none,none,none,.nil,rfl,rfl⟩ (by
   rintro q k r ρ e ⟨rows,y4,y5,y6,hM,hrk,rfl⟩;rw[Qj]at e
   have hkK:k∈K:=by rw[e];simp
   have hk60:=hK60 k hkK;have hpw:=hK;rw[e,List.pairwise_append]at hpw;have hlt:∀r∈rows,r.1<k:=λr hr=>hpw.2.2 r.1 (by rw[<-hrk];exact Qs (f:=(·.1)) hr) k nofun;have hok:=sx hM
   have hrl:rows.length<=1000:=by
    have g1:=congrArg List.length hrk;have g2:=congrArg List.length e;simp at g1 g2;ac_nf
   obtain⟨z5,z6,hst⟩:=y22 hB hk60 (rows:=rows) hrl (λr hr=>⟨hlt r hr,(hok r hr).2.1,λy hy=>hS60 y ((hok r hr).2.2 y hy).1⟩) (↑(.lst (bo R BL))) (↑(.lst (K.map nD))) y5 y6;refine⟨_,_,rfl,hst,rows++[fg rows k (cz R BL k) (eF R BL k)],_,_,_,.snoc hM hlt (sA hB hk60) λx hx hTx=>?_,?_,rfl⟩
   .rcases hT k hkK x ∅ hTx with h|h
    .exact .inl h
    .right
     rw[hrk];rw[e]at h;rcases qw h with h|h
     .exact h
     .rcases qu h with h|h
      .lia
      .have h3:=hpw.2.1
       rw[List.pairwise_cons]at h3;have:=h3.1 x h;ac_nf
   .rw[wt,hrk]
    rfl)
 rw[Qj]at hrk
 have hn:(rows.map (·.1)).Nodup:=by rw[hrk];exact hK.imp λh=>qm h
 have hc1:=bV (fe:=HY) (r:=[↑(fN rows)]) (enc:=λr:b_=>nD r.1) aF (l:=rows) (λr hr=>by
  have hg:=J9 hn hr;generalize fN rows=sd,aF r=rr at *
  simp[HY,hg])
 have hkk:(rows.map λr:b_=>nD r.1)=K.map nD:=by rw[<-hrk,Qf];rfl
 rw[hkk]at hc1;refine⟨rows,hM,hrk,?_⟩
 have hdct:fH 2 (lF (Yv (b1 (ab 0) Yc) [none] (aj 0) tY (rz))) [↑(.lst (bo R BL)),↑(.lst (K.map nD)),none,none,none,none,none]=some (.nx [↑(.lst (bo R BL)),↑(.lst (K.map nD)),some (.od false (bQ BL) (iS R BL)),none,none,none,none]):=by
  have hcomp:(lF (Yv (b1 (ab 0) Yc) [none] (aj 0) tY rz)) [↑(.lst (bo R BL)),↑(.lst (K.map nD)),none,none,none,none,none]=some (.lst (BL.map λr=>.tup [.int r.1,aV R (fl 60 r.2)])):=by
   generalize bo R BL=RB at *;simp[ao,hc]
  rw[Ny,hcomp,qd,h1,qd,Fz,if_pos hlen,hd];simp[wu,bQ,iS]
 have hsd:fN rows=.dct false (rows.map λr=>nD r.1) (rows.map aF):=rfl;rw[hsd]at hc1;rw[xm,Ye (by rfl)];have hst0:Yd 7 [.lst (bo R BL),.lst (K.map nD)]=[↑(.lst (bo R BL)),↑(.lst (K.map nD)),none,none,none,none,none]:=rfl;rw[hst0,HZ,iB,hdct,qd,mn];clear hdct hd hc h1 hn2 hlen hrw hsd hkk hn hrk hM;generalize (rows.map λr=>nD r.1)=RK,rows.map aF=RS,bQ BL=KB,iS R BL=TB,bo R BL=RB,K.map nD=KK at *
 have h3:rA [↑(.lst RB),↑(.lst KK),some (.od false KB TB),some (.od false RK RS),y4,y5,y6]=some (.rt (.tup RS)):=by
  have hfz:frz [3] [↑(.lst RB),↑(.lst KK),some (.od false KB TB),some (.od false RK RS),y4,y5,y6]=[↑(.lst RB),↑(.lst KK),some (.od false KB TB),↑(.dct false RK RS),y4,y5,y6]:=rfl;rw[rA,kI,hfz];simp[ao,hc1]
 simp[e1,h3,-rA]
abbrev d5(R:List Sm):D:=.tup [.str "sums",.tup (R.map aX)]
theorem y23(R:List Sm)(i:Nat)(h:i<R.length):jx [d5 R,.int (i:Int)]=some (.bl true):=by
 rw[jx,Ye (by rfl)]
 have hlen:((R.map aX).length:Int)=(R.length:Int):=by simp
 have h1:(0:Int)<=(i:Int):=by ac_nf
 have h2:(i:Int)<(R.length:Int):=by ac_nf
 generalize R.map aX=RR at *;simp[GS,Yd,hlen,h,h1,h2]
theorem J_{l:AE}(x:Nat):aY ((l++[x]).map nD) (-1)=some (.int (x:Int)):=by
 unfold aY dM;rw[qf,if_neg ∅,if_pos (by simp;ac_nf)];simp
 have e:(-1+((l.length:Int)+1)).toNat=l.length:=by ac_nf
 rw[e];simp
theorem Ka(h:tP R W x=true):∃p,(rg R p).1 x=true:=by
 have a:=by simpa [tP]using h
 unfold ba at a
 cases e:(fl 60 W).filter λp=>decide (x∈fl 60 (rg R p).1)with
 | nil=>grind
 | cons p l=>
   have:p∈(fl 60 W).filter λp=>decide (x∈fl 60 (rg R p).1):=by rw[e];simp
   grind
theorem Kb(h:(rg R p).1 x=true):rg R p∈R/\p<R.length:=by
 by_cases a:p<R.length
 .unfold rg
  ext
 .unfold rg at h
  ext
theorem y24{S:AE}{R:List Sm}{W:AH}(hR:R.length<=60)(h:fP R S W):v_ [.tup ((fl 60 W).map nD),d5 R,.lst (S.map nD)]=some (.bl true):=by
 have hps60:∀x∈fl 60 W,x<60:=λx hx=>Qb (Qc hx).1;have hlt:∀x∈fl 60 W,x<R.length:=λx hx=>h.1 x (Qc hx).2
 have hpl:(fl 60 W).length<=3700:=by have:=IM 60 W;ac_nf
 have hri:=JM hps60 hpl;have hr1:gB (fl 60 W)=true:=wn (List.Pairwise.filter _ List.pairwise_lt_range);rw[hr1]at hri;have hadd:qF [d5 R,.tup ((fl 60 W).map nD)]=some (aV R (fl 60 W)):=IT rfl hlt;have hti:Yc (aV R (fl 60 W))=some [.tup ((fl 60 (tP R W)).map nD),.bl (aK R (fl 60 W))]:=rfl;have hbad:=h.2;clear h
 have hc:=bV (fe:=GZ) (r:=[↑(d5 R)]) (enc:=nD) (λ_=>.bl true) (l:=fl 60 W) (λp hp=>by
  have hpl:=y23 R p (hlt p hp);generalize d5 R=bk at *
  simp[GZ,hpl])
 have hb:bx ((fl 60 W).map λ_=>D.bl true)=some ((fl 60 W).map λ_=>true):=fY _ _
 have hall:((fl 60 W).map λ_=>true).all id=true:=by rw[List.all_map];exact List.all_eq_true.mpr λ_ _=>rfl
 rw[v_,Ye (by rfl)];have hst:Yd 4 [.tup ((fl 60 W).map nD),d5 R,.lst (S.map nD)]=[↑(.tup ((fl 60 W).map nD)),↑(d5 R),↑(.lst (S.map nD)),none]:=rfl;rw[hst];have hbi:Yc (d5 R)=some [.str "sums",.tup (R.map aX)]:=rfl;rcases hbad with⟨hfl,ho⟩|⟨l,hl,hL⟩
 .have hv:=Qx (k:=.s) (n:=60) (r:=.su [] true) ⟨rfl,by simp⟩ (by decide)
  have hsv:aV R (fl 60 W)=aO (.su [] true):=by
   show D.tup [.tup ((fl 60 (tP R W)).map nD),.bl (aK R (fl 60 W))]=_;rw[hfl,ho];rfl
  have hvt:bp (aO (.su [] true)) (aO (vd .s))=true:=by decide +kernel
  rw[hvt]at hv;have hks:aW .s=.str "sums":=rfl;rw[hks]at hv;rw[hsv]at hadd hti;rw[hfl,List.map_nil,ho]at hti;generalize aO (.su [] true)=vr at *;clear hsv;generalize ((fl 60 W).map λ_=>true)=B1,((fl 60 W).map λ_=>D.bl true)=B2,(fl 60 W).map nD=PP,d5 R=bk,R.map aX=RR,S.map nD=SS at *;simp[G6,hri,ao,hc,hb,hall,hadd,hti,hbi,hv]
 .have hF:=sy hL
  have ha:=J_ (l:=fl 60 (wl (tP R W) l)) l;have n1:=cG (c:=.lst (S.map nD)) l S false rfl;simp only[nD,hl,decide_true,Qo,if_false]at n1;rw[hF]at hti
  have htr:aD (.tup ((fl 60 (wl (tP R W) l)++[l]).map nD))=some true:=by simp
  generalize aV R (fl 60 W)=wh,aK R (fl 60 W)=oo,(fl 60 (wl (tP R W) l)++[l]).map nD=FF,((fl 60 W).map λ_=>true)=B1,((fl 60 W).map λ_=>D.bl true)=B2,(fl 60 W).map nD=PP,d5 R=bk,S.map nD=SS at *;simp[G6,hri,ao,hc,hb,hall,hadd,hti,ha,n1,htr]
def g8(h:x∈aw hs st b):x<hs.length:=Qb (Qc h).1
def Q_(R:List Sm)(st n:Nat):Prop:=∀q∈R,∀x,x<60->q.1 x=true->st<=x/\x<n
theorem sC(d:st<=x)(c:x<hs.length):x∈aw hs st false\/x∈aw hs st true:=by
 have a:∀b,hs.getD x false=b->x∈aw hs st b:=λb e=>by
  unfold aw;grind
 grind
theorem xK:∀x∈aw hs st false,x∉aw hs st true:=λx a b=>by
 unfold aw at a b;grind
structure gF(R:List Sm)(K S:AE)(rows:List b_):Prop where
 ks:rows.map (·.1)=K
 row:∀r∈rows,r.1<60/\r.2.1.Pairwise (·<·)/\∀y∈r.2.1,y∈S/\y<r.1
 kept:∀p,p<R.length->kp rows (rg R p).1 (rg R p).2
noncomputable def bE(a:Bool)(b:D):D:=.tup [.str (if a=true then .ofString "storm" else .ofString "keeper"),b]
theorem Yw8(hR:R.length<=60)(N:Yc c=some (hs.map aE))(O:hs.length<=60)(y:st<=hs.length)(B:Q_ R st hs.length):
 (∃W:AH,fP R (aw hs st false) W/\mT [d5 R,c,.int st]=some (bE true (.tup [.str "odd",.tup ((fl 60 W).map nD)])))\/
 (∃rows:List b_,gF R (aw hs st true) (aw hs st false) rows/\mT [d5 R,c,.int st]=some (bE false (.tup [.str "sums",.tup (rows.map aF)]))):=by
 have b1:=Yi hs N (by lia) st y true;have b2:=Yi hs N (by lia) st y false;simp only[aE,if_true,Qo,if_false]at b1 b2;obtain⟨BL,U,i,T,Q,u,b⟩:=Je hR;have a:qH [d5 R]=_:=b;clear b;obtain⟨V,H,C,d⟩:=Yr5 i T (aw hs st false)
 have m:∀W x,x<60->tP R W x=true->st<=x/\x<hs.length:=λW x v E=>by
  obtain⟨p,A⟩:=Ka E;exact B _ (Kb A).1 x v A
 have Y:BL.length<=60:=by
  have:=xA i.2 (λx v=>by
   obtain⟨r,j,rfl⟩:=qy v
   exact(i.1 r j).1.1)
  ext
 cases V with
 | some W=>
   refine .inl ⟨W,C W rfl,?_⟩;have Z:dg (some W)=.tup ((fl 60 W).map nD):=rfl;rw[Z]at d;rw[mT,Ye (by rfl)];simp[H_,Yd,b1,b2,a,d,bE]
 | none=>
   obtain⟨G,F⟩:=H rfl;subst G;have s:(aw hs st true).Pairwise (·<·):=List.Pairwise.filter _ List.pairwise_lt_range
   have E:∀k∈aw hs st true,∀x,x<60->cz R BL k x=true->_:=λk z x v g=>by
    unfold cz at g;by_cases h:k∈BL.map (·.1)
    .rw[if_pos h]at g
     obtain⟨K,L⟩:=m _ x v g;exact sC K L
    ext
   obtain⟨rows,M,l,f⟩:=y7f i (by lia) (K:=aw hs st true) (S:=aw hs st false) s (λk z=>Qi (g8 z) O) (λk z=>Qi (g8 z) O) E;refine .inr ⟨rows,⟨l,sx M,λp A=>?_⟩,?_⟩
   .refine Red.kp (R:=R) (BL:=BL) (λr j=>?_) (u p A)
    have w:=(i.1 r j).1;obtain⟨K,L⟩:=m _ r.1 w.1 w.2.1;have n:=(sC K L).resolve_left (F r j);rw[<-l]at n;obtain⟨q,hq,e⟩:=qy n;have t:=J4 M q hq;rw[e]at t;have o:r.1∈BL.map (·.1):=Qs (f:=(·.1)) j;have I:=(mX (λ_=>D.non) o).1;have S:=QG i.2 I j rfl;unfold cz eF at t
    ext<;>lia
   .rw[mT,Ye (by rfl)]
    have J:dg none=.non:=rfl;rw[J]at d a;simp[H_,Yd,b1,b2,a,d,f,bE]
def Hl(A:AE)(r:a_):Prop:=(∀x∈r.1,x∈A)->∃y,r.2=some y/\y∈A
theorem sD{A b fs:AE}(h:kn b fs=true)(a:∀x∈fs,x∈A):∀x∈b,x∈A:=λx c=>by
 unfold kn at h
 ext
theorem xM(h:0<=i/\i<R.length):ax R i∈R:=by
 unfold ax
 ext
theorem Kc(h:r∈R):∃i:Nat,i<R.length/\ax R (i:Int)=r:=by
 obtain⟨i,a,e⟩:=List.mem_iff_getElem.mp h;refine⟨i,a,?_⟩;unfold ax
 ext
structure eu(R:List a_)(K S:AE)(first:AE)(rows:List er):Prop where
 fK:first.Pairwise (·<·)/\∀y∈first,y∈K
 rs:rows.map (·.1)=S
 rK:∀r∈rows,r.2.Pairwise (·<·)/\(∀y∈r.2,y∈K)/\(r.2.filter λy=>decide (y<r.1))=first.filter λy=>decide (y<r.1)
 h0:∀q∈R,Hl (S++first) q
 hb:∀r∈rows,∀q∈R,Hl ((S.filter λy=>!decide (y=r.1))++r.2) q
noncomputable abbrev ci(js:AE):AF:=js.map λi:Nat=>i
theorem iT:∀{js fs:AE},Der R fs js->bP R fs (ci js)=true
 | [],_,_=>rfl
 | i::js,fs,h=>by
   obtain⟨⟨b,⟨x,c⟩,d⟩,a⟩:=h;show(_&&_)=true;rw[Qe];refine⟨?_,iT a⟩;unfold eZ
   ext
def sE(R:List a_)(js:AE):bh R (ci js)=js.map λi:Nat=>bj (ax R i):=by
 unfold bh;rw[Qf];rfl
theorem Ra:∀{p:AF}{fs:AE}{i:Int}{q:AF},bP R fs (p++i::q)=true->bP R fs p=true/\eZ R (fs++bh R p) i=true
 | [],fs,i,q,h=>by
   have h':(eZ R fs i&&bP R (fs++[bj (ax R i)]) q)=true:=h;rw[Qe]at h';refine⟨rfl,?_⟩;have:fs++bh R []=fs:=w6 _;rw[this];exact h'.1
 | a::p,fs,i,q,h=>by
   have h':(eZ R fs a&&bP R (fs++[bj (ax R a)]) (p++i::q))=true:=h;rw[Qe]at h';obtain⟨g1,g2⟩:=Ra h'.2;refine⟨?_,?_⟩
   .show(eZ R fs a&&bP R (fs++[bj (ax R a)]) p)=true
    rw[h'.1,g1];rfl
   .have e:fs++bh R (a::p)=(fs++[bj (ax R a)])++bh R p:=by rw[w9];rfl
    rw[e];exact g2
theorem sF(a:bP R fs (ci p)=true)(e:i<R.length)(d:kn (ax R (i:Int)).1 (fs++bh R (ci p))=true)(c:(ax R (i:Int)).2=none\/(ax R (i:Int)).2=b):m7 R b (ci (p++[i])) fs=true:=by
 unfold m7
 ext
theorem Rb(h:cW R fs l js)(j:cW R a k d)(hs:∀x∈a,x∈l):∀x∈k,x∈l:=by
 have v:∀r∈R,r.2≠none->Hl l r:=λr s D F=>by
  obtain⟨i,m,rfl⟩:=Kc s
  cases e:(ax R i).2 with
  | none=>symm
  | some y=>
    refine⟨y,rfl,h.none i m y e ?_⟩;unfold kn
    ext
 have f:∀(b c:_),Der R c b->(∀x∈c,x∈l)->∀x∈c++b.map λi:Nat=>bj (ax R i),x∈l:=λb=>by
  induction b with
  | nil=>simp
  | cons i b u=>
    intro c hd n x g;obtain⟨⟨E,⟨y,q⟩,t⟩,p⟩:=hd;obtain⟨z,A,o⟩:=v _ (xM ⟨by ac_nf,by ac_nf⟩) (by rw[q];simp) (sD t n)
    have C:bj (ax R i)=z:=by unfold bj;rw[A];rfl
    refine u _ p (λw B=>?_) x (by ext);symm
 intro x g;exact f d a j.der hs x ((j.mem x).mp g)
theorem Rc(h:cW R fs l js)(hn:∀r∈R,r.2=none->kn r.1 l=false)(a:∀x,x∈A↔x∈l):∀q∈R,Hl A q:=λq b f=>by
 have d:kn q.1 l=true:=by
  unfold kn
  ext
 cases e:q.2 with
 | none=>
   grind
 | some y=>
   obtain⟨i,c,rfl⟩:=Kc b;exact⟨y,rfl,(a y).mpr (h.none i c y e d)⟩
def jF{α:Type}(enc:α->D)(I:List α->Ro->Prop)(O:D->Prop):∀(l pre:List α) (ρ:Ro),I pre ρ->
 (∀q a r ρ,pre++l=q++a::r->I q ρ->∃ρ1,gt (enc a) ρ=some ρ1/\((∃ρ2,fb ρ1=some (.nx ρ2)/\I (q++[a]) ρ2)\/∃d,fb ρ1=some (.rt d)/\O d))->
 (∃ρ',M.forM gt fb (l.map enc) ρ=some (.nx ρ')/\I (pre++l) ρ')\/∃d,M.forM gt fb (l.map enc) ρ=some (.rt d)/\O d
 | [],pre,ρ,h0,_=>.inl ⟨ρ,rfl,by rw[w6];exact h0⟩
 | a::l,pre,ρ,h0,hs=>by
   obtain⟨ρ1,e1,h⟩:=hs pre a l ρ rfl h0;rw[Qd,M.forM,e1,qd];rcases h with⟨ρ2,e2,h2⟩|⟨d,e2,h2⟩
   .rw[e2,qd]
    have:=jF enc I O l (pre++[a]) ρ2 h2 λq b r ρ e=>hs q b r ρ (by rw[<-e];simp);rw[w9]at this;exact this
   .rw[e2,qd]
    exact .inr ⟨d,rfl,h2⟩
def Re(r:a_):Yc (dw r)=some [.tup (r.1.map nD),aq r.2]:=rfl
def dy(l js:AE):D:=.tup [.lst (l.map nD),.tup (js.map nD)]
def xN(l js:AE):Yc (dy l js)=some [.lst (l.map nD),.tup (js.map nD)]:=rfl
def jG(R:List a_)(l:AE)(i:Nat):Bool:=(ax R i).2.isNone&&kn (ax R i).1 l
theorem Yo1(R:List a_)(q:js.length<=1000):
 (∃i,i<R.length/\jG R l i=true/\rq [Yr R,dy l js]=some (.tup ((js++[i]).map nD)))\/((∀i,i<R.length->jG R l i=false)/\rq [Yr R,dy l js]=some .non):=by
 rw[rq,Ye (by rfl)];have g:Yd 4 [Yr R,dy l js]=[some _,some _,none,none]:=rfl;rw[g]
 have h:=Jm (gt:=fU 2 3) (fb:=rn) (λi:Nat=>.tup [.int i,dw (ax R i)]) (jG R l) (λi=>.tup ((js++[i]).map nD)) (λm=>∃y z,m=[↑(Yr R),↑(dy l js),y,z]) (.range R.length)
  _ ⟨none,none,rfl⟩ (by
   rintro i p m ⟨y,z,rfl⟩;refine⟨[some _,some _,some _,some _],rfl,?_⟩;have e:=IK (d:=.lst _) (ax R i) l rfl;have c:=xN l js;have a:=Re (ax R i)
   have b:o9 (.tup (js.map nD)) (.tup [.int i])=some (.tup ((js++[i]).map nD)):=by
    rw[wt];exact if_pos (by simp;lia)
   unfold jG
   cases k:(ax R _).2 with
   | some x=>
     left;rw[k]at a;simp only[aq]at a;simp[rn,a,i7]
   | none=>
     rw[k]at a;simp only[aq]at a
     cases d:kn _ l with
     | false=>
       left;rw[d]at e;refine⟨rfl,[some _,some _,↑(.int i),↑(dw (ax R i))],?_,_,_,rfl⟩;simp[rn,a,c,e]
     | true=>
       right;rw[d]at e;refine⟨rfl,?_⟩;generalize (js++[i]).map nD=s at *
       simp[rn,a,c,e,b])
 rw[PH];rcases h with⟨i,j,f⟩|⟨j,o,f,t⟩
 .left
  have n:=List.mem_of_find?_eq_some j;have r:=List.find?_some j;refine⟨i,Qb n,r,?_⟩;simp[gn,xC,f]
 .right
  refine⟨λi p=>?_,?_⟩
  .simp_all
  .simp[gn,xC,f]
theorem Rf(x:Nat):∀l:AE,(l.map λy:Nat=>(y:Int)).idxOf (x:Int)=l.idxOf x
 | []=>rfl
 | y::l=>by
   rw[Qd,List.idxOf_cons,Rf x l];grind
theorem Rg{x:Nat}:∀{js:AE},x∈js.map f->∃p i q,js=p++i::q/\f i=x/\js.take ((js.map f).idxOf x+1)=p++[i]
 | [],h=>nomatch h
 | j::js,h=>by
   by_cases e:f j=x
   .refine⟨[],j,js,rfl,e,?_⟩
    ext
   .have a:x∈js.map f:=by
     grind
    obtain⟨p,i,q,b,c,d⟩:=Rg a;grind
theorem Ke{b:Type}(f:b->D)(l:List b)(k:Nat):cL (l.map f) none (some (k:Int))=(l.take k).map f:=by
 have a:HT.sIx (l.map f).length (l.map f).length (some k)=min k l.length:=by
  have:=HT.sIx_nat (l.map f).length (l.map f).length k;grind
 unfold cL;rw[a,HT.sIx_none]
 ext
theorem Der.mem:∀{b ks:AE},Der R ks b->∀i∈b,i<R.length/\aq (ax R (i:Int)).2=nD (bj (ax R (i:Int)))
 | [],_,_,i,a=>nomatch a
 | j::b,ks,h,i,a=>by
   rcases qu a with rfl|a
   .obtain⟨⟨c,⟨x,d⟩,_⟩,_⟩:=h
    refine⟨c,?_⟩;unfold bj;rw[d];rfl
   .exact Der.mem h.2 i a
theorem Ymc(h:cW R fs l js)(x:Nat):
 (∃(p:AE) (i:Nat) (q:AE),js=p++i::q/\bj (ax R (i:Int))=x/\mR [Yr R,dy l js,.int (x:Int)]=some (.tup ((p++[i]).map nD)))\/(x∉js.map (λi:Nat=>bj (ax R (i:Int)))/\mR [Yr R,dy l js,.int (x:Int)]=some .non):=by
 have k:=bV (fe:=HQ) (r:=[↑(Yr R)]) (enc:=nD) (λi:Nat=>nD (bj (ax R i))) (λi w=>by
  obtain⟨z,t⟩:=h.der.mem i w;have j:=jB (R:=R) (i:=i) ⟨by ac_nf,by ac_nf⟩;have f:=Re (ax R (i:Int));have g:=IJ R
  simp[HQ,g,j,f,t])
 have s:(js.map λi:Nat=>nD (bj (ax R (i:Int))))=(js.map λi:Nat=>bj (ax R (i:Int))).map nD:=by ext
 rw[s]at k;have c:=xN l js;have b:=cG (c:=.lst _) x (js.map λi:Nat=>bj (ax R i)) true rfl;by_cases d:x∈js.map λi:Nat=>bj (ax R i)
 .obtain⟨p,i,q,u,r,o⟩:=Rg d
  refine .inl ⟨p,i,q,u,r,?_⟩
  have m:iE (.lst ((js.map λi:Nat=>bj (ax R (i:Int))).map nD)) (.int (x:Int))=some (.int ((js.map λi:Nat=>bj (ax R (i:Int))).idxOf x)):=by
   have e:∀L:AE,L.map nD=(L.map λy:Nat=>(y:Int)).map D.int:=λL=>by ext
   rw[e,FQ,if_pos (Qs d),Rf]
  have a:=Ke nD js ((js.map λi:Nat=>bj (ax R (i:Int))).idxOf x+1);rw[o]at a
  have n:(((js.map λi:Nat=>bj (ax R (i:Int))).idxOf x+1:Nat))=((js.map λi:Nat=>bj (ax R (i:Int))).idxOf x:Int)+1:=by ac_nf
  rw[n]at a;simp only[d,if_true]at b;rw[mR,Ye (by rfl)];generalize (js.map _).map nD=v,(p++[i]).map nD=A at *;simp[HR,Yd,c,ao,k,b,m,a]
 .refine .inr ⟨d,?_⟩
  simp only[d,if_true]at b;rw[mR,Ye (by rfl)];generalize (js.map _).map nD=v at *;simp[HR,Yd,c,ao,k,b]
noncomputable def cA(K l:AE):AE:=K.filter λy=>decide (y∈l)
theorem Rh(K l:AE):ru [.lst (K.map nD),.lst (l.map nD)]=some (.tup ((cA K l).map nD)):=by
 rw[ru,Ye (by rfl)];unfold cA
 simp[PJ,Yd,ao,gX (fc:=HS) (fe:=HU) (r:=[↑(.lst (l.map nD))]) (enc:=nD) (λy=>decide (y∈l)) nD (l:=K) (λy _=>by
  simp[HS,cG (c:=.lst _) y l false rfl]) (λy _ _=>by simp[HU])]
def fj(x:Nat)(S first:AE):AE:=eD (some x) S++first.filter λy=>decide (y<x)
theorem Ytt{x:Nat}(hS:S.length<=100)(hf:first.length<=100):xi [.int (x:Int),.lst (S.map nD),.tup (first.map nD)]=some (.lst ((fj x S first).map nD)):=by
 have h1:=QT S (some x)
 have h2:=JW first x
 have hs:aq (some x)=.int (x:Int):=rfl;rw[hs]at h1;have hwl:(eD (some x) S).length<=100:=Qg (Qn _ _) hS;have hfl:(first.filter λy=>decide (y<x)).length<=100:=Qg (Qn _ _) hf
 have hcat:cu (.lst ((eD (some x) S).map nD)) (.lst ((first.filter λy=>decide (y<x)).map nD))=some ((fj x S first).map nD):=by
  unfold fj;rw[kM (by simp;lia),wt]
 have hlf:∀l:AN,eR [.tup l]=some l:=λ_=>rfl;rw[xi,Ye (by rfl)];generalize (fj x S first).map nD=FB,(eD (some x) S).map nD=W1,(first.filter λy=>decide (y<x)).map nD=F1,S.map nD=SS at *
 generalize first.map nD=FF at *
 simp[PK,Yd,h1,h2,hlf,hcat]
def ly(R:List a_)(st n:Nat):Prop:=∀r∈R,r.1.Pairwise (·<·)/\(∀x∈r.1,st<=x/\x<n)/\∀x,r.2=some x->st<=x/\x<n
def fQ(b:AL)(a js:AF):AN:=[.str "lone",aq b,.tup (a.map .int),.tup (js.map .int)]
def lz(first:AE)(rows:List er):AN:=[.str "rows",.tup (first.map nD),.tup (rows.map bM)]
theorem lA(l:AE):l.map nD=(ci l).map D.int:=by ext
def gG(R:List a_)(K S:AE)(b:AL)(a js:AF):Prop:=iP R K S b a js=true/\a.length<=100/\js.length<=100
theorem Kf(c:ly R st n)(h:cW R fs l js)(d:x∈l):x∈fs\/(st<=x/\x<n):=by
 rcases qw ((h.mem x).mp d)with w|w
 .exact .inl w
 .obtain⟨i,b,rfl⟩:=qy w
  obtain⟨f,a⟩:=h.der.mem i b
  cases e:(ax R i).2 with
  | none=>rw[e]at a;cases a
  | some y=>
    have:bj (ax R i)=y:=by unfold bj;rw[e];rfl
    rw[this];exact .inr ((c _ (xM (R:=R) (i:=i) ⟨by ac_nf,by ac_nf⟩)).2.2 y e)
def sG(h:cW R fs l js)(a:x∈fs):x∈l:=(h.mem x).mpr (List.mem_append.mpr (.inl a))
theorem Kg(h:cW R S l js)(c:i<R.length)(a:jG R l i=true):gG R K S none [] (ci (js++[i])):=by
 unfold jG at a;rw[Qe,Option.isNone_iff_eq_none]at a;refine⟨?_,by simp,by have:=h.len;simp;lia⟩;unfold iP;rw[Qe];refine⟨rfl,?_⟩
 have b:eD none S=S:=List.filter_eq_self.mpr λy _=>by simp
 have d:eD none S++eE R K none []=S:=by rw[b];exact w6 _
 rw[d];refine sF (iT h.der) c ?_ (.inl a.1);rw[sE,<-a.2];exact(r6 λx=>h.mem x).symm
theorem Kh(h:cW R S l js)(a:∀x∈S,x∉K)(x:Nat):fj x S (cA K l)=eD (some x) S++eE R K (some x) (ci js):=by
 unfold fj cA
 congr 1
 rw[List.filter_filter];refine List.filter_congr λy b=>?_
 congr 1
 rw[sE];refine decide_eq_decide.mpr ⟨λw=>?_,λw=>(h.mem y).mpr (List.mem_append.mpr (.inr w))⟩;rcases qw ((h.mem y).mp w)with z|z
 .grind
 .exact z
theorem Ki{p q:AE}(h:cW R S l js)(a:∀x∈S,x∉K)(c:x∈S)(d:cW R (fj x S (cA K l)) s (p++i::q))(o:bj (ax R (i:Int))=x):gG R K S (some x) (ci js) (ci (p++[i])):=by
 have f:=d.len;have k:=h.len;refine⟨?_,by simp;lia,by ext<;>lia⟩;unfold iP;rw[Qe];refine⟨?_,?_⟩
 .show(_&&_)=true
  rw[iT h.der,wn c];rfl
 .rw[<-Kh h a x]
  have hd:=iT d.der
  have e:ci (p++i::q)=ci p++(i:Int)::ci q:=by
   grind
  rw[e]at hd;obtain⟨m,b⟩:=Ra hd;unfold eZ at b;rw[Qe,Qe]at b;obtain⟨r,j,n⟩:=b;refine sF m (by ext) n (.inr ?_);obtain⟨y,g⟩:=Option.isSome_iff_exists.mp j
  have:bj (ax R i)=y:=by unfold bj;rw[g];rfl
  grind
def sH(R:List a_)(K S c:AE)(r:er):Prop:=∃b a:AE,cW R (fj r.1 S (cA K c)) b a/\r.1∉a.map (λi:Nat=>bj (ax R i))/\r.2=cA K b
theorem Kj(E:ly R st n)(p:K.Pairwise (·<·))(C:∀x∈S,x∉K)(t:∀x,st<=x->x<n->x∈S\/x∈K)(h:cW R S l js)(hn:∀i,i<R.length->jG R l i=false)(o:rows.map (·.1)=S)(g:∀r∈rows,sH R K S l r):eu R K S (cA K l) rows:=by
 have s:∀x∈l,x∈S\/x∈K:=λx b=>by
  rcases Kf E h b with w|w
  .exact .inl w
  ext
 have m:∀r∈R,r.2=none->kn r.1 l=false:=λr g e=>by
  obtain⟨i,D,rfl⟩:=Kc g;have:=hn i D;unfold jG at this;grind
 refine⟨⟨p.filter _,λy c=>(Qc c).1⟩,o,λr j=>?_,?_,λr j=>?_⟩
 .obtain⟨f,u,b,k,e⟩:=g r j
  have a:=Rb h b λy c=>by
   rcases qw c with w|w
   .exact sG h (Qc w).1
   .exact wq (Qc (Qc w).1).2
  refine⟨by rw[e];exact p.filter _,λy c=>by rw[e]at c;exact(Qc c).1,?_⟩;rw[e];unfold cA;rw[List.filter_filter,List.filter_filter];refine List.filter_congr λy c=>?_;by_cases d:y<r.1
  .have:(y∈f)↔(y∈l):=⟨a y,λw=>sG b (List.mem_append.mpr (.inr (List.mem_filter.mpr ⟨List.mem_filter.mpr ⟨c,wn w⟩,wn d⟩)))⟩
   ext
  .simp[d]
 .refine Rc h m λx=>?_
  rw[List.mem_append];constructor
  .rintro(w|w)
   .exact sG h w
   .exact wq (Qc w).2
  .intro w
   rcases s x w with z|z
   .exact .inl z
   .exact .inr (List.mem_filter.mpr ⟨z,wn w⟩)
 .obtain⟨f,u,b,k,e⟩:=g r j
  have a:=Rb h b λy c=>by
   rcases qw c with w|w
   .exact sG h (Qc w).1
   .exact wq (Qc (Qc w).1).2
  have v:r.1∉f:=λw=>by
   rcases qw ((b.mem _).mp w)with z|z
   .rcases qw z with z|z
    .have:=(Qc z).2
     simp at this
    ext
   grind
  refine Rc b (λq F e=>?_) λx=>?_
  .cases B:kn q.1 f with
   | false=>rfl
   | true=>
     have:kn q.1 l=true:=by
      exact List.all_eq_true.mpr λx b=>wn (sD B a x b)
     grind
  .rw[List.mem_append]
   constructor
   .rintro(w|w)
    .obtain⟨A,G⟩:=Qc w
     refine sG b (List.mem_append.mpr (.inl (List.mem_filter.mpr ⟨A,?_⟩)));grind
    .rw[e]at w
     exact wq (Qc w).2
   .intro w
    rcases s x (a x w)with z|z
    .grind
    .rw[e]
     exact .inr (List.mem_filter.mpr ⟨z,wn w⟩)
def sI(h:K.length<=60):(cA K l).length<=60:=Qg (Qn _ _) h
theorem y0k(hc:Yc c=some (hs.map aE))(hl:hs.length<=60)(hst:st<=hs.length)(j:ly R st hs.length):
 (∃b E js,gG R (aw hs st true) (aw hs st false) b E js/\kZ [Yr R,c,.int st]=some (bE true (.tup (fQ b E js))))\/
 (∃first rows,eu R (aw hs st true) (aw hs st false) first rows/\kZ [Yr R,c,.int st]=some (bE false (.tup (lz first rows)))):=by
 have b1:=Yi hs hc (by lia) st hst true;have b2:=Yi hs hc (by lia) st hst false;simp only[aE,if_true,Qo,if_false]at b1 b2;have a:(aw hs st true).Pairwise (·<·):=List.Pairwise.filter _ List.pairwise_lt_range;have h:=xK (hs:=hs) (st:=st);have f:∀x,st<=x->x<hs.length->x∈aw hs st false\/x∈aw hs st true:=λx h1 h2=>sC h1 h2;have hSl:(aw hs st false).length<=60:=Qg (Qn _ _) (by ext);have U:(aw hs st true).length<=60:=Qg (Qn _ _) (by ext);have C:∀x∈aw hs st false,x<60:=λx V=>Qi (g8 V) hl;have hK60:∀x∈aw hs st true,x<60:=λx V=>Qi (g8 V) hl;have Y:∀r∈R,∀x,r.2=some x->x<60:=λr t x V=>Qi ((j r t).2.2 x V).2 hl;generalize aw hs st false=S,aw hs st true=K at *;obtain⟨l,js,u,k⟩:=rY (c:=.lst (S.map nD)) R Y S C (by lia) rfl;have g:kU [Yr R,.lst (S.map nD)]=some (dy l js):=k;clear k;have Q:=xN l js;have hso:=Rh K l;have hst0:Yd 11 [Yr R,c,.int (st:Int)]=[↑(Yr R),↑c,↑(.int st),none,none,none,none,none,none,none,none]:=rfl;rw[kZ,Ye (by rfl),hst0];rcases Yo1 R (l:=l) (js:=js) (by have:=u.len;lia)with⟨i,hi,hp,J⟩|⟨T,J⟩
 .refine .inl ⟨none,[],ci (js++[i]),Kg u hi hp,?_⟩
  have H:D.tup (fQ none [] (ci (js++[i])))=.tup [.str "lone",.non,.tup [],.tup ((js++[i]).map nD)]:=by
   unfold fQ;rw[<-lA];rfl
  rw[H];clear u f j h a;generalize (js++[i]).map nD=JI,dy l js=fu,S.map nD=SS,K.map nD=KK,Yr R=bk at *;simp[xk,b1,b2,g,J,bE]
 .have A:xk [↑(Yr R),↑c,↑(.int st),none,none,none,none,none,none,none,none] =
   HV [↑(Yr R),↑c,↑(.int st),↑(.lst (K.map nD)),↑(.lst (S.map nD)),↑(dy l js),↑.non,↑(.tup ((cA K l).map nD)),some (.ow []),none,none]:=by
   clear u f j h a T;generalize (cA K l).map nD=SO at *;generalize l.map nD=LL at *;generalize js.map nD=JJ,dy l js=fu,S.map nD=SS,K.map nD=KK,Yr R=bk at *;simp[xk,b1,b2,g,J,Q,hso,-HV]
  rw[A]
  have F:=jF (gt:=aj 9) (fb:=xj) nD (λA ρ=>∃(rows:List er) (y6 y9 v:AQ),rows.map (·.1)=A/\(∀r∈rows,sH R K S l r)/\
   ρ=[↑(Yr R),↑c,↑(.int st),↑(.lst (K.map nD)),↑(.lst (S.map nD)),↑(dy l js),y6,↑(.tup ((cA K l).map nD)),some (.ow (rows.map bM)),y9,v])
   (λd=>∃b E js,gG R K S b E js/\d=bE true (.tup (fQ b E js))) S []
   [↑(Yr R),↑c,↑(.int st),↑(.lst (K.map nD)),↑(.lst (S.map nD)),↑(dy l js),↑.non,↑(.tup ((cA K l).map nD)),some (.ow []),none,none] ⟨[],_,_,_,rfl,λr t=>(nomatch t),rfl⟩ (by
    rintro q x r ρ e ⟨rows,y6,y9,v,z,o,rfl⟩;rw[Qj]at e
    have hxS:x∈S:=by rw[e];simp
    have hrl:rows.length<=1000:=by
     grind
    have O:=Ytt (x:=x) (S:=S) (first:=cA K l) (by lia) (by have:=sI (l:=l) U;lia)
    have hfl:(fj x S (cA K l)).length<=1000:=by
     have g1:(eD (some x) S).length<=S.length:=Qn _ _;have g3:=sI (l:=l) U;unfold fj;grind
    obtain⟨n,I,L,s⟩:=rY (c:=.lst ((fj x S (cA K l)).map nD)) R Y (fj x S (cA K l)) (λy hy=>by
     rcases qw hy with w|w
     .exact C y (Qc w).1
     grind) hfl rfl
    have m:kU [Yr R,.lst ((fj x S (cA K l)).map nD)]=some (dy n I):=s;clear s;refine⟨[↑(Yr R),↑c,↑(.int st),↑(.lst (K.map nD)),↑(.lst (S.map nD)),↑(dy l js),y6,↑(.tup ((cA K l).map nD)),some (.ow (rows.map bM)),↑(.int (x:Int)),v],rfl,?_⟩;rcases Ymc L x with⟨p,i,q',hj,he,G⟩|⟨M,G⟩
    .right
     rw[hj]at L;refine⟨bE true (.tup (fQ (some x) (ci js) (ci (p++[i])))),?_,some x,ci js,ci (p++[i]),Ki u h hxS L he,rfl⟩
     have H:D.tup (fQ (some x) (ci js) (ci (p++[i])))=.tup [.str "lone",.int (x:Int),.tup (js.map nD),.tup ((p++[i]).map nD)]:=by
      unfold fQ;rw[<-lA,<-lA];rfl
     rw[H];clear u f j h a T o L hj;generalize (p++[i]).map nD=PI,(fj x S (cA K l)).map nD=FA at *;generalize (cA K l).map nD=SO at *;generalize l.map nD=LL,js.map nD=JJ,dy n I=fx,dy l js=fu,S.map nD=SS,K.map nD=KK,Yr R=bk,rows.map bM=RW at *;simp[xj,O,m,G,Q,bE]
    .left
     have hsx:=Rh K n;have hfx:=xN n I;have N:∀d:D,bY (rows.map bM) d=some (rows.map bM++[d]):=λd=>iC (by ext<;>lia)
     have Z:(rows++[(x,cA K n)]).map bM=rows.map bM++[.tup [.int (x:Int),.tup ((cA K n).map nD)]]:=by rw[wt];rfl
     refine⟨[↑(Yr R),↑c,↑(.int st),↑(.lst (K.map nD)),↑(.lst (S.map nD)),↑(dy l js),↑.non,↑(.tup ((cA K l).map nD)),some (.ow ((rows++[(x,cA K n)]).map bM)),↑(.int (x:Int)),↑(dy n I)],?_,rows++[(x,cA K n)],_,_,_,by ext,λr t=>?_,rfl⟩
     .rw[Z]
      clear u f j h a T o L M Z;generalize (cA K n).map nD=SX,(fj x S (cA K l)).map nD=FA at *;generalize (cA K l).map nD=SO at *;generalize l.map nD=LL,n.map nD=LX,js.map nD=JJ,I.map nD=JX,dy n I=fx,dy l js=fu,S.map nD=SS,K.map nD=KK,Yr R=bk,rows.map bM=RW at *;simp[xj,O,m,G,hfx,hsx,N]
     .rcases qw t with t|t
      .grind
      .rw[List.mem_singleton]at t
       subst t
       exact⟨n,I,L,M,rfl⟩)
  rcases F with⟨ρ',e1,rows,y6,y9,v,z,o,rfl⟩|⟨d,e1,b,E,js',hW,rfl⟩
  .rw[Qj]at z
   refine .inr ⟨cA K l,rows,Kj j a h f u T z o,?_⟩;clear u f j h a T o z A;unfold lz;generalize (cA K l).map nD=SO,dy l js=fu,S.map nD=SS,K.map nD=KK,Yr R=bk,rows.map bM=RW at *;simp[e1,bE]
  .refine .inl ⟨b,E,js',hW,?_⟩
   ext
def eG(l:AX):Prop:=l.length<=2/\l.Nodup
def iU(s:aH):aR (aR s)=s:=by
 simp[aR]
def Kk(s:aH):aR s≠s:=by
 obtain⟨a,b⟩:=s;simp[aR]
def ed(L:AW)(s t:aH):Prop:=∃l∈L,aR s∈l/\t∈l/\(t=aR s->l.length=1)
def Kl(h:ed L s t):ed L (aR t) (aR s):=by
 obtain⟨l,a,c,d,b⟩:=h;refine⟨l,a,by rwa [iU],c,λe=>b ?_⟩;rw[iU]at e;exact e.symm
inductive Rch (L:AW) (s:aH):aH->Prop
 | refl:Rch L s s
 | step {t u:aH}:Rch L s t->ed L t u->Rch L s u
theorem Rch.trans(h:Rch L s t)(h':Rch L t u):Rch L s u:=by
 induction h' with
 | refl=>exact h
 | step _ e a=>exact .step a e
def Rch.one(h:ed L s t):Rch L s t:=.step .refl h
theorem Rch.skew(h:Rch L s t):Rch L (aR t) (aR s):=by
 induction h with
 | refl=>exact .refl
 | step _ e a=>exact(Rch.one (Kl e)).trans a
def Km(e:e_):gZ e≠e:=by
 obtain⟨a,b⟩:=e;simp[gZ]
def Kn(h:s.1∉rows.map (·.1)):cR rows s=(some s.1,s.2):=by
 unfold cR
 have e:rows.find? (λr=>r.1==s.1)=none:=by
  rw[List.find?_eq_none];intro q hq z;exact h (List.mem_map.mpr ⟨q,hq,by simpa using z⟩)
 rw[e]
def Ko(h:s.1∈rows.map (·.1)):∃r∈rows,r.1=s.1/\cR rows s=(r.2.1,s.2==r.2.2):=by
 unfold cR
 cases e:rows.find? (λr=>r.1==s.1)with
 | none=>
   rw[List.find?_eq_none]at e;obtain⟨q,hq,z⟩:=qy h;exact absurd (by simpa using z) (e q hq)
 | some r=>exact⟨r,List.mem_of_find?_eq_some e,by simpa using List.find?_some e,rfl⟩
structure fw(L:AW)(K S:AE)(rows:List c9):Prop where
 ks:rows.map (·.1)=K
 row:∀r∈rows,dI S r=true
 kept:∀l∈L,g0 (l.map (cR rows))=true
inductive cy (L:AW) (K S:AE):Prop
 | broken:[]∈L->cy L K S
 | clash (s:aH):Rch L s (aR s)->Rch L (aR s) s->cy L K S
 | cross (s t:aH):s.1∈S->t.1∈S->s≠t->Rch L s t->cy L K S
 | late (s t:aH):s.1∈S->t.1∈K->t.1<s.1->Rch L s t->Rch L t s->cy L K S
def bS(L:AW)(S:AE)(k:Nat)(s:aH):Prop:=s.1∈S/\Rch L s (k,true)/\Rch L (k,true) s
def loose(L:AW)(S:AE)(k:Nat):Prop:=∀s,¬bS L S k s
structure fm(L:AW)(K S:AE)(τ:AH)(rows:List c9):Prop where
 ks:rows.map (·.1)=K
 row:∀r∈rows,(∃s,bS L S r.1 s/\r.2=(some s.1,s.2))\/(loose L S r.1/\r.2=(none,τ r.1))
structure Tr(L:AW)(K S:AE)(τ:AH):Prop where
 one:∀k∈K,loose L S k->∀s:aH,s.1∈S->∀v,Rch L s (k,v)->τ k=v
 two:∀k∈K,loose L S k->∀j∈K,loose L S j->∀v,Rch L (k,τ k) (j,v)->τ j=v
def Ri(c:¬cy L K S)(hs:s.1∈S)(b:t.1∈S)(h:Rch L s t):s=t:=
 Classical.byContradiction λz=>c (.cross s t hs b z h)
theorem cls(l:∀x∈S,x∉K)(c:fm L K S τ rows)(b:a.1∈S\/a.1∈K):
 (∃e:aH,e.1∈S/\cR rows a=(some e.1,e.2)/\Rch L a e/\Rch L e a)\/(a.1∈K/\loose L S a.1/\cR rows a=(none,a.2==τ a.1)):=by
 rcases b with b|b
 .exact .inl ⟨a,b,Kn (by rw[c.ks];grind),.refl,.refl⟩
 .obtain⟨r,o,m,h⟩:=Ko (by rwa [c.ks])
  rcases c.row r o with⟨s,n,g⟩|⟨k,g⟩
  .left
   rw[g]at h;obtain⟨i,d,f⟩:=n;rw[m]at d f;obtain⟨p,j⟩:=a
   cases j with
   | true=>
     refine⟨s,i,?_,f,d⟩
     ext
   | false=>
     refine⟨aR s,i,?_,d.skew,f.skew⟩;rw[h];show(some s.1,_)=(some s.1,!s.2);cases s.2<;>rfl
  ext
def xO(h:((none,true):e_)∈a):g0 a=true:=List.any_eq_true.mpr ⟨_,h,by simp⟩
def Kq(h:e∈a)(b:gZ e∈a):g0 a=true:=List.any_eq_true.mpr ⟨e,h,by simp[b]⟩
def Kr(h:¬v=a.2):(a.1,v)=aR a:=by
 obtain⟨x,y⟩:=a
 cases v<;>cases y<;>first|rfl|exact absurd rfl h
theorem Rj(c:∀x∈S,x∉K)(t:¬cy L K S)(d:fm L K S τ rows)(i:Tr L K S τ)(r:a.1∈S\/a.1∈K)(o:b.1∈S\/b.1∈K)(h:Rch L (aR a) b):
 cR rows a=(none,true)\/cR rows b=(none,true)\/gZ (cR rows a)=cR rows b:=by
 have q:=by
  have:=h.skew
  rwa [iU]at this
 rcases cls c d r with⟨e,n,v,p,w⟩|⟨l,m,y⟩
 .rcases cls c d o with⟨f,j,k,g,s⟩|⟨b1,b2,b3⟩
  .have:=Ri t (s:=aR e) n j ((p.skew.trans h).trans g)
   refine .inr (.inr ?_);rw[v,k,<-this];rfl
  .have:=i.one b.1 b1 b2 (aR e) n b.2 (p.skew.trans h)
   symm
 .by_cases u:τ a.1=a.2
  .simp_all
  .rcases cls c d o with⟨f,j,k,g,s⟩|⟨b1,b2,b3⟩
   .have:=i.one a.1 l m (aR f) j a.2 (g.skew.trans q)
    symm
   .have e:=Kr u
    have:=i.two a.1 l m b.1 b1 b2 b.2 ⋯;symm
theorem Ks(w:∀l∈L,eG l)(d:∀l∈L,∀s∈l,s.1∈S\/s.1∈K)(g:∀x∈S,x∉K)(i:¬cy L K S)(f:fm L K S τ rows)(m:Tr L K S τ):fw L K S rows:=by
 refine⟨f.ks,λr q=>?_,λl c=>?_⟩
 .rcases f.row r q with⟨s,⟨A,y,v⟩,p⟩|⟨_,p⟩
  .have j:r.1∈K:=by rw[<-f.ks];grind
   have u:s.1<r.1:=by
    rcases Nat.lt_trichotomy s.1 r.1 with h|h|h
    .exact h
    .simp_all
    .exact absurd (.late s _ A j h y v) i
   unfold dI
   ext
  .unfold dI
   rw[p]
 .obtain⟨t,n⟩:=w l c
  match l,t,n,c with
  | [],_,_,c=>exact absurd (.broken c) i
  | [a],_,_,c=>
    have h:Rch L (aR a) a:=.one ⟨[a],c,by rw[iU];simp,by simp,λ_=>rfl⟩;have o:=d [a] c a nofun;rcases Rj g i f m o o h with e|e|e
    .exact xO (by simp[e])
    .exact xO (by simp[e])
    .exact absurd e (Km _)
  | [a,b],_,n,c=>
    have k:¬a=b:=by grind
    have h:Rch L (aR a) b:=.one ⟨[a,b],c,by rw[iU];simp,by simp,λz=>absurd (by rw[z,iU]) k⟩;rcases Rj g i f m (d _ c a nofun) (d _ c b nofun) h with e|e|e
    .exact xO (by simp[e])
    .exact xO (by simp[e])
    .exact Kq (e:=cR rows a) nofun (by rw[e];simp)
def lB(L:AW)(s:aH)(f g:Nat->Option Bool):Prop:=∀j,(∀v,Rch L s (j,v)->(g j).isSome=true)/\(∀v,g j=some v->Rch L s (j,v)\/((∀u,¬Rch L s (j,u))/\f j=some v))/\((∀u,¬Rch L s (j,u))->g j=f j)
structure sJ(L:AW)(T:AX)(f:Nat->Option Bool):Prop where
 up:∀j v,f j=some v->∃s∈T,Rch L s (j,v)
 dom:∀j,∀s∈T,∀v,Rch L s (j,v)->(f j).isSome=true
def Kt(L:AW):sJ L [] λ_=>none:=⟨λj v h=>(nomatch h),λj s a=>nomatch a⟩
theorem Ku(h:sJ L T f)(a:lB L s f g):sJ L (T++[s]) g:=by
 refine⟨λj v e=>?_,λj t b v c=>?_⟩
 .rcases(a j).2.1 v e with w|⟨_,w⟩
  .grind
  .obtain⟨t,b,c⟩:=h.up j v w
   grind
 .by_cases z:∃u,Rch L s (j,u)
  .obtain⟨u,d⟩:=z
   exact(a j).1 u d
  .rw[(a j).2.2 (λu a=>z ⟨u,a⟩)]
   rcases qw b with b|b
   .exact h.dom j t b v c
   grind
def Kv(k:Nat)(v:Bool):aR (k,v)=(k,!v):=rfl
def Kw(nb:¬cy L K S)(hlo:loose L S k)(hs:s.1∈S)(ht:t.1∈S)(h1:Rch L s (k,v))(h2:Rch L t (k,u)):v=u:=by
 refine Classical.byContradiction λz=>?_
 have e:(k,u)=aR (k,v):=by
  rw[Kv]
  cases v<;>cases u<;>first|rfl|exact absurd rfl z
 rw[e]at h2;have h3:=h2.skew;rw[iU]at h3;have h4:=Ri nb (s:=s) (t:=aR t) hs ht (h1.trans h3)
 have h5:Rch L (k,v) s:=by rw[h4];exact h3
 cases v with
 | true=>exact hlo s ⟨hs,h1,h5⟩
 | false=>
   refine hlo (aR s) ⟨hs,?_,?_⟩
   .have:=h5.skew
    exact this
   .have:=h1.skew
    exact this
structure m_(L:AW)(K S:AE)(f:Nat->Option Bool):Prop where
 one:∀k,loose L S k->∀s:aH,s.1∈S->∀v,Rch L s (k,v)->f k=some v
 two:∀k j,loose L S k->loose L S j->∀v u,f k=some v->Rch L (k,v) (j,u)->f j=some u
 dom:∀k,¬loose L S k->(f k).isSome=true
theorem Kx(r:¬cy L K S)(d:∀s:aH,s∈T↔s.1∈S)(h:sJ L T f):m_ L K S f:=by
 have c:∀k,_->∀s,_->∀v,_->f k=some v:=λk m s i v g=>by
  have hd:=h.dom k s ((d s).mpr i) v g
  cases e:f k with
  | none=>grind
  | some u=>
    obtain⟨t,l,a⟩:=h.up k u e;rw[Kw r m i ((d t).mp l) g a]
 refine⟨c,λk j n q v u e g=>?_,λk n=>?_⟩
 .obtain⟨t,l,a⟩:=h.up k v e
  exact c j q t ((d t).mp l) u (a.trans g)
 .have:∃s,_:=Classical.byContradiction λz=>n λs i=>z ⟨s,i⟩
  obtain⟨s,p,o,_⟩:=this;exact h.dom k s ((d s).mpr p) _ o
def sL(L:AW)(k:Nat)(l:aH):Prop:=l.1=k/\¬Rch L l (aR l)
theorem Ky(G:¬cy L K S)(h:m_ L K S f)(E:f k=none)(p:sL L k l)(b:lB L l f g):m_ L K S g/\(g k).isSome=true/\∀j,(f j).isSome=true->(g j).isSome=true:=by
 have q:=Classical.byContradiction λz=>by
  have:=h.dom k z;grind
 have y:∀j v u,Rch L l (j,v)->Rch L l (j,u)->v=u:=λj v u B t=>by
  refine Classical.byContradiction λz=>p.2 ?_
  have e:(j,u)=aR (j,v):=by
   cases v<;>cases u<;>first|rfl|grind
  rw[e]at t;have m:=t.skew;rw[iU]at m;exact B.trans m
 have o:∀j v,_->g j=some v:=λj v n=>by
  have hd:=(b j).1 v n
  cases e:g j with
  | none=>grind
  | some u=>
    rcases(b j).2.1 u e with w|⟨w,_⟩
    .grind
    grind
 have c:∀j,_->∀v,_->g j=some v:=λj d v e=>by
  by_cases z:∃u,Rch L l (j,u)
  .obtain⟨u,x⟩:=z
   have:u=v:=Classical.byContradiction λF=>by
    have A:(j,u)=aR (j,v):=by
     cases v<;>cases u<;>first|rfl|grind
    rw[A]at x;have m:=x.skew;rw[iU]at m
    have r:aR l=(k,!l.2):=by rw[<-p.1];rfl
    rw[r]at m;have:=h.two j k d q v _ e m;grind
   grind
  .rw[(b j).2.2 λu b=>z ⟨u,b⟩]
   exact e
 refine⟨⟨λj d s D v n=>c j d v (h.one j d s D v n),λi j C d v u e n=>?_,λj d=>?_⟩,?_,λj d=>?_⟩
 .rcases(b i).2.1 v e with w|⟨_,w⟩
  .exact o j u (w.trans n)
  .exact c j d u (h.two i j C d v u w n)
 .have hd:=h.dom j d
  by_cases z:∃u,Rch L l (j,u)
  .grind
  .rw[(b j).2.2 λu b=>z ⟨u,b⟩]
   exact hd
 .have:Rch L l (k,l.2):=by rw[<-p.1];exact .refl
  grind
 .by_cases z:∃u,Rch L l (j,u)
  .grind
  .rw[(b j).2.2 λu b=>z ⟨u,b⟩]
   exact d
theorem Kz(h:m_ L K S f)(hd:∀k∈K,(f k).isSome=true):Tr L K S λk=>(f k).getD false:=by
 have g:∀k∈K,f k=some ((f k).getD false):=λk b=>by
  cases e:f k with
  | none=>grind
  | some v=>rfl
 refine⟨λk b a s i v c=>?_,λk b a j l d v c=>?_⟩
 .rw[h.one k a s i v c]
  rfl
 .rw[h.two k j a d _ v (g k b) c]
  rfl
noncomputable def kN(s:aH):AF:=[s.1,if s.2 then 1 else 0]
theorem lC(h:kN s=kN t):s=t:=by
 unfold kN at h;grind
def xP(s:aH):eW (af s)=some (kN s):=rfl
theorem nc:∀l:AX,fF (l.map af)=some (l.map kN)
 | []=>rfl
 | s::l=>by
   rw[Qd,fF,nc l];rfl
def mem_kN{l:AX}:kN s∈l.map kN↔s∈l:=by
 constructor
 .intro h
  obtain⟨t,ht,e⟩:=qy h;rw[<-lC e];exact ht
 .exact λh=>Qs h
def Rk(a:Bool)(s:aH)(l:AX)(vs:AN):c8 a (af s) (.dct true (l.map af) vs)=some (decide (s∈l)!=a):=by
 show(fF _).bind _=_;rw[nc,qd,xP,Option.map_some,decide_eq_decide.mpr mem_kN]
def cq:Option aH->D
 | none=>.non
 | some s=>af s
abbrev Wy:=List (aH×Option aH)
noncomputable def ay(W:Wy):AX:=W.map (·.1)
def bT(W:Wy):D:=.dct true ((ay W).map af) (W.map λp=>cq p.2)
structure WOk(L:AW)(s:aH)(W:Wy):Prop where
 nd:(ay W).Nodup
 hd:∃X,W=(s,none)::X
 par:∀i p,W[i]?=some p->0<i->∃(k:Nat) (q:aH×Option aH),k<i/\W[k]?=some q/\p.2=some q.1/\p.1∈bR L q.1
theorem KA(h:WOk L s W){j:Nat}(hj:W[j]?=some q)(ht:t∈bR L q.1)(hn:t∉ay W):WOk L s (W++[(t,some q.1)]):=by
 refine⟨?_,?_,λi p hi hp=>?_⟩
 .unfold ay
  rw[wt,List.nodup_append];refine⟨h.nd,by simp,λx hx y hy e=>?_⟩;simp at hy;subst hy e;exact hn hx
 .obtain⟨X,e⟩:=h.hd
  exact⟨X++[(t,some q.1)],by rw[e];rfl⟩
 .by_cases hlt:i<W.length
  .rw[List.getElem?_append_left hlt]at hi
   obtain⟨k,r,h1,h2,h3⟩:=h.par i p hi hp;exact⟨k,r,h1,by rw[List.getElem?_append_left ∅];exact h2,h3⟩
  .rw[List.getElem?_append_right ∅]at hi
   have hi0:i-W.length=0:=by
    by_cases z:i-W.length=0
    .exact z
    .rw[List.getElem?_eq_none (by simp;ac_nf)]at hi
     cases hi
   rw[hi0]at hi;have:p=(t,some q.1):=(w4 hi).symm;subst this;have hjl:j<W.length:=(qo hj).1;exact⟨j,q,by ac_nf,by rw[List.getElem?_append_left hjl];exact hj,rfl,ht⟩
def dN(bk:D)(s:aH)(W:Wy)(j:Nat)(y:AQ):Ro:=[↑bk,↑(af s),some (.od true ((ay W).map af) (W.map λp=>cq p.2)),some (.ow ((ay W).map af)),↑(.int j),y]
theorem KC(a:W.length<=1000)(hn:t∉ay W)(d:D):km ((ay W).map af) (W.map λp=>cq p.2) (af t) d=some ((ay W).map af++[af t],(W.map λp=>cq p.2)++[d]):=by
 unfold km;rw[nc,qd,xP,qd,if_pos (by rw[qf];show _<1000000;ac_nf),if_neg (λz=>hn (mem_kN.mp z))]
theorem KD:∀(b:AX) (W:Wy) (y:AQ),WOk L s W->W.length+b.length<=1000->W[j]?=some q->(∀t∈b,t∈bR L q.1)->
 ∃(X:Wy) (g:AQ),WOk L s (W++X)/\(∀t∈b,t∈ay (W++X))/\(∀p∈X,p.1∈b)/\M.forM (aj 5) mD (b.map af) (dN bk s W j y)=some (.nx (dN bk s (W++X) j g))
 | [],W,y,v,_,_,_=>⟨[],y,by grind,λt h=>(nomatch h),λp l=>(nomatch l),by rw[w6];rfl⟩
 | t::b,W,y,v,O,w,h=>by
   have N:aY ((ay W).map af) (j:Int)=some (af q.1):=by
    have K:j<W.length:=(qo w).1;rw[gW]
    have:(ay W)[j]?=some q.1:=by unfold ay;grind
    rw[lV this];rfl
   rw[Qd,M.forM];have H:aj 5 (af t) (dN bk s W j y)=some (dN bk s W j (↑(af t))):=rfl;rw[H,qd]
   have G:W.length+b.length+1<=1000:=by omega
   have n:=Rk true t (ay W) (W.map λp=>cq p.2);by_cases d:t∈ay W
   .have A:mD (dN bk s W j (↑(af t)))=some (.nx (dN bk s W j (↑(af t)))):=by
     simp only[d,decide_true]at n;unfold dN;generalize (ay W).map af=c,(W.map λp=>cq p.2)=k,af t=f,af s=m at *;simp[mD,n]
    obtain⟨X,g,o,D,F,r⟩:=KD b W (↑(af t)) v (by lia) w λu a=>h u (qg _ a);refine⟨X,g,o,λu a=>?_,λp l=>qg _ (F p l),?_⟩
    .rcases qu a with rfl|a
     .unfold ay
      rw[wt];exact List.mem_append.mpr (.inl d)
     grind
    .rw[A,qd]
     exact r
   .have z:=KA v w (h t nofun) d
    have A:mD (dN bk s W j (↑(af t)))=some (.nx (dN bk s (W++[(t,some q.1)]) j (↑(af t)))):=by
     simp only[d,decide_false]at n;have l:=KC (by lia) d (af q.1);have e:bY ((ay W).map af) (af t)=some ((ay W).map af++[af t]):=iC (by unfold ay;simp;lia)
     have E:(ay (W++[(t,some q.1)])).map af=(ay W).map af++[af t]:=by unfold ay;grind
     have C:((W++[(t,some q.1)]).map λp=>cq p.2)=(W.map λp=>cq p.2)++[af q.1]:=by rw[wt];rfl
     unfold dN;rw[E,C];clear E C;generalize (ay W).map af=c,(W.map λp=>cq p.2)=k,af t=f,af s=m,af q.1=J at *;have I:ip 2 [↑bk,↑m,some (.od true c k),some (.ow c),↑(.int (j:Int)),↑f]=some (c,k):=rfl
     have i:iq 2 (aa 5) (b2 (aa 3) (aa 4) ai) [↑bk,↑m,some (.od true c k),some (.ow c),↑(.int (j:Int)),↑f]=some (.nx [↑bk,↑m,some (.od true (c++[f]) (k++[J])),some (.ow c),↑(.int (j:Int)),↑f]):=by
      unfold iq
      ext
     simp[mD,n,i,e]
    have x:(W++[(t,some q.1)])[j]?=some q:=by
     grind
    obtain⟨X,g,o,D,F,r⟩:=KD b (W++[(t,some q.1)]) (↑(af t)) z (by ext<;>lia) x λu a=>h u (qg _ a);rw[w9]at o D r;refine⟨[(t,some q.1)]++X,g,o,λu a=>?_,λp l=>?_,?_⟩
    .rcases qu a with rfl|a
     .unfold ay
      grind
     grind
    .grind
    .rw[A,qd]
     exact r
theorem sM(hn:(ay W).Nodup)(h:∀s∈ay W,s.1<60):W.length<=120:=by
 have hm:((ay W).map λs:aH=>2*s.1+(if s.2 then 1 else 0)).Nodup:=by
  rw[List.Nodup,List.pairwise_map];refine hn.imp λ{a b} hab e=>hab ?_;obtain⟨a1,a2⟩:=a;obtain⟨b1,b2⟩:=b
  cases a2<;>cases b2<;>simp at e<;>first|(exfalso;lia)|(rw[show a1=b1 by lia])
 have:=lh 120 _ hm λx hx=>by
  obtain⟨s,hs,rfl⟩:=qy hx;have:=h s hs;cases s.2<;>simp<;>lia
 simpa [ay]using this
def KE(c:∀l∈L,∀s∈l,s.1<60)(h:t∈bR L s):t.1<60:=by
 obtain⟨l,b,e⟩:=List.mem_filterMap.mp h;unfold iN at e
 split at e
 .rename_i d
  injection e with e;subst e
  cases f:l.filter _ with
  | nil=>exact c l b _ d
  | cons a r=>
    have:a∈l.filter λt=>!decide (t=aR s):=by rw[f];simp
    exact c l b a (Qc this).1
 .cases e
def xQ(L:AW)(W:Wy)(j:Nat):Prop:=∀k q,W[k]?=some q->k<j->∀t∈bR L q.1,t∈ay W
theorem y7g(u:L.length<=500)(J:∀l∈L,∀s∈l,s.1<60):∀(m a j:Nat) (W:Wy) (y:AQ),121<=j+m->m+1<=a->WOk L s W->(∀t∈ay W,t.1<60)->j<=W.length->xQ L W j->
 ∃(f:Wy) (C:Nat) (x:AQ),WOk L s f/\(∀t∈ay f,t.1<60)/\xQ L f f.length/\dv (b2 (aa 4) (cC (Yb (aa 3) ae) bw) eP) qC a (dN (aS L) s W j y)=some (.nx (dN (aS L) s f C x)):=by
 intro m
 induction m with
 | zero=>
   intro a j W y S K n c O E;have:=sM n.nd c;omega
 | succ m N=>
   intro a j W y S K n c O E
   cases a with
   | zero=>ext
   | succ a=>
     have d:(b2 (aa 4) (cC (Yb (aa 3) ae) bw) eP) (dN (aS L) s W j y)=some (decide (j<W.length)):=by
      have F:(((ay W).map af).length:Int)=(W.length:Int):=by unfold ay;simp
      unfold dN
      ext
     rw[dv,d];by_cases w:j<W.length
     .have H:W[j]?=some W[j]:=qr w
      have i:=QO (L:=L) (by lia) W[j].1;have M:=sM n.nd c;have T:(bR L W[j].1).length<=500:=Qg (List.length_filterMap_le _ _) u;obtain⟨X,A,R,k2,Q,D⟩:=KD (bk:=aS L) (j:=j) (q:=W[j]) (bR L W[j].1) W y n (by lia) H λt b=>b
      have r:qC (dN (aS L) s W j y)=some (.nx (dN (aS L) s (W++X) (j+1) A)):=by
       have v:aY ((ay W).map af) (j:Int)=some (af W[j].1):=by
        rw[gW]
        have:(ay W)[j]?=some W[j].1:=by unfold ay;ext
        rw[lV this];rfl
       have h:((j+1:Nat):Int)=(j:Int)+1:=by lia
       unfold dN at D ⊢;rw[h];generalize ((W++X).map λp=>cq p.2)=VX,(ay W).map af=Y,af W[j].1=Z,af s=V,aS L=bk at *;simp[qC,v,i,D]
      have g:∀t∈ay (W++X),t.1<60:=λt b=>by
       unfold ay at b;rw[wt]at b;rcases qw b with b|b
       .exact c t b
       .obtain⟨p,G,rfl⟩:=qy b
        exact KE J (Q p G)
      have o:xQ L (W++X) (j+1):=λk q z I t b=>by
       by_cases e:k=j
       .grind
       .rw[List.getElem?_append_left (by grind)]at z
        have:=E k q z (by lia) t b;unfold ay at this ⊢;grind
      obtain⟨f,C,x,U,r2,r3,r4⟩:=N a (j+1) (W++X) A (by lia) (by lia) R g (by grind) o;grind
     grind
structure fo(L:AW)(s:aH)(W:Wy):Prop extends WOk L s W where
 cl:xQ L W W.length
 lt:∀t∈ay W,t.1<60
theorem y26(hLl:L.length<=500)(hL:∀l∈L,∀s∈l,s.1<60)(hs:s.1<60):∃W:Wy,fo L s W/\mE [aS L,af s]=some (bT W):=by
 have h0:WOk L s [(s,none)]:=⟨by simp[ay],⟨[],rfl⟩,λi p hi hp=>by
  rw[List.getElem?_eq_none (by simp;lia)]at hi
  cases hi⟩
 obtain⟨W,j,y,h1,h2,h3,h4⟩:=y7g hLl hL (s:=s) 121 4000 0 [(s,none)] none (by lia) (by lia) h0 (λt ht=>by simp[ay]at ht;rw[ht];exact hs) (Qh _) (λk q _ hk=>by lia);refine⟨W,{h1 with cl:=h3,lt:=h2},?_⟩;rw[mE,Ye (by rfl)];have hst0:Yd 6 [aS L,af s]=[↑(aS L),↑(af s),none,none,none,none]:=rfl;have hdisp:ko 2 (ab 1) (kD .non) [↑(aS L),↑(af s),none,none,none,none]=some (.nx [↑(aS L),↑(af s),some (.od true [af s] [.non]),none,none,none]):=rfl;rw[hst0,Gh,iB,hdisp,qd,mn];have h4':dv (b2 (aa 4) (cC (Yb (aa 3) ae) bw) eP) qC 4000 [↑(aS L),↑(af s),some (.od true [af s] [.non]),some (.ow [af s]),↑(.int 0),none]=some (.nx (dN (aS L) s W j y)):=h4;have h5:vM (dN (aS L) s W j y)=some (.rt (bT W)):=rfl;generalize dN (aS L) s W j y=sw,bT W=wd,af s=ds,aS L=bk at *;simp[h4',h5,-vM]
theorem lD(j:∀l∈L,eG l):t∈bR L s↔ed L s t:=by
 unfold bR ed;rw[List.mem_filterMap];constructor
 .rintro⟨l,g,e⟩
  unfold iN at e
  split at e
  .rename_i i
   injection e with e
   cases k:l.filter _ with
   | nil=>
     rw[k]at e;refine⟨l,g,i,by grind,λ_=>?_⟩
     have c:∀x∈l,x=aR s:=λx o=>by
      grind
     obtain⟨_,f⟩:=j l g
     match l,f,i,c with
     | [a],_,_,_=>rfl
     | a::b::r,f,_,c=>
       ext
   | cons a r=>
     grind
  .cases e
 .rintro⟨l,g,d,h,m⟩
  refine⟨l,g,?_⟩;unfold iN;obtain⟨n,f⟩:=j l g;by_cases e:t=aR s
  .match l,m e,d with
   | [a],_,d=>
     ext
  .have k:l.filter (λt=>!decide (t=aR s))=[t]:=by
    match l,n,f,d,h with
    | [a],_,_,d,h=>
      (simp at*;lia)
    | [a,b],_,f,d,h=>
      grind
   ext
theorem xR(f:∀l∈L,eG l)(h:fo L s W):t∈ay W↔Rch L s t:=by
 have b:∀(n i:Nat) p,i<n->W[i]?=some p->Rch L s p.1:=λn=>by
  induction n with
  | zero=>ext
  | succ n d=>
    intro i p c a;by_cases r:i=0
    .subst r
     obtain⟨X,e⟩:=h.hd;rw[e]at a;cases a;exact .refl
    .obtain⟨k,q,u,g,v,o⟩:=h.par i p a (by lia)
     exact .step (d k q (by lia) g) ((lD f).mp o)
 constructor
 .intro m
  obtain⟨p,a,rfl⟩:=qy m;obtain⟨i,c,e⟩:=List.mem_iff_getElem.mp a;exact b (i+1) i p (by lia) (by ext)
 .intro j
  induction j with
  | refl=>
    obtain⟨X,e⟩:=h.hd;rw[e];constructor<;>lia
  | step _ e d=>
    obtain⟨p,a,rfl⟩:=qy d;obtain⟨i,c,w⟩:=List.mem_iff_getElem.mp a;exact h.cl i p (by ext) c _ ((lD f).mpr e)
inductive ew (L:AW) (s:aH):AX->aH->Prop
 | one:ew L s [s] s
 | cons {p:AX}{q t:aH}:ew L s p q->t∈bR L q->ew L s (t::p) t
theorem KF:∀{W:List (aH×b)}{i:Nat}{p:aH×b},(W.map (·.1)).Nodup->W[i]?=some p->Yn ((W.map (·.1)).map kN) (W.map (·.2)) (kN p.1)=some p.2
 | [],i,p,_,h=>by simp at h
 | w::W,i,p,a,h=>by
   rw[Qd,List.nodup_cons]at a;rw[Qd,Qd,Qd,Yn]
   cases i with
   | zero=>
     ext
   | succ i=>
     rw[List.getElem?_cons_succ]at h;rw[if_neg (λz=>a.1 (by rw[lC z];exact(Qs (f:=(·.1)) (List.mem_of_getElem? h))))];exact KF a.2 h
theorem KG(hn:(ay W).Nodup){i:Nat}(h:W[i]?=some p):bU (bT W) (af p.1)=some (cq p.2):=by
 show(fF _).bind _=_;rw[nc,xP];have:=KF (W:=W.map λp=>(p.1,cq p.2)) (i:=i) (p:=(p.1,cq p.2)) (by rwa [Qf]) (by ext)
 have a:((W.map λp=>(p.1,cq p.2)).map (·.1))=ay W:=by rw[Qf];rfl
 have b:((W.map λp=>(p.1,cq p.2)).map (·.2))=W.map λp=>cq p.2:=by ext
 ext
theorem y7h(h:WOk L s W)(C:W.length<=120)(d:AQ):∀(n a i:Nat) (p:aH×Option aH) (R:AX),i<n->i+2<=a->R.length+i<=500->W[i]?=some p->
 ∃b:AX,ew L s b p.1/\b.length<=i+1/\dv (b2 (aa 3) (kD .non) (cj true)) vL a [↑(bT W),d,some (.ow (R.map af)),↑(af p.1)]=some (.nx [↑(bT W),d,some (.ow ((R++b).map af)),↑.non]):=by
 intro n
 induction n with
 | zero=>symm
 | succ n r=>
   intro a i p R A E v l
   cases a with
   | zero=>ext
   | succ a=>
     have c:∀(x:aH) (R:AX),b2 (aa 3) (kD .non) (cj true) [↑(bT W),d,some (.ow (R.map af)),↑(af x)]=some true:=λx R=>rfl;have j:∀R:AX,b2 (aa 3) (kD .non) (cj true) [↑(bT W),d,some (.ow (R.map af)),↑.non]=some false:=λR=>rfl;have u:=KG h.nd l
     have f:vL [↑(bT W),d,some (.ow (R.map af)),↑(af p.1)]=some (.nx [↑(bT W),d,some (.ow ((R++[p.1]).map af)),↑(cq p.2)]):=by
      have g:bY (R.map af) (af p.1)=_:=iC ⋯;rw[wt];have m:[p.1].map af=[af p.1]:=rfl;rw[m];simp[vL,g,u]
     rw[dv,c,qd,if_pos rfl,f,qd];by_cases o:i=0
     .subst o
      obtain⟨X,e⟩:=h.hd;rw[e]at l;cases l;refine⟨[s],.one,by simp,?_⟩
      cases a with
      | zero=>ext
      | succ a=>
        show dv _ _ (a+1) [_,d,some (.ow ((R++[s]).map af)),↑.non]=_;rw[dv,j,qd,if_neg qi]
     .obtain⟨k,q,D,t,y,w⟩:=h.par i p l ∅
      obtain⟨b,b1,z,b3⟩:=r a k q (R++[p.1]) ∅ ∅ (by simp;ac_nf) t;refine⟨p.1::b,.cons b1 w,by simp;ac_nf,?_⟩;rw[y]
      have e:R++p.1::b=(R++[p.1])++b:=by simp
      rw[e];exact b3
structure cI(L:AW)(s t:aH)(r:AX):Prop where
 ok:fM L r=true
 fst:cY r 0=s
 lst:iO r=t
 len:r.length<=120
theorem xS(h:i<r.length)(x:aH):cY (r++[x]) i=cY r i:=by
 unfold cY;grind
def sN(r:AX)(x:aH):cY (r++[x]) r.length=x:=by
 unfold cY;simp
theorem KH(h:ew L s b t):fM L b.reverse=true/\cY b.reverse 0=s/\iO b.reverse=t:=by
 induction h with
 | one=>
   refine⟨?_,rfl,rfl⟩;unfold fM;simp
 | @cons p q t _ d j=>
   obtain⟨a,l,f⟩:=j;rw[List.reverse_cons];refine⟨?_,by rwa [xS (r0 a)],?_⟩
   .unfold fM at a ⊢
    rw[Qe,List.all_eq_true]at a ⊢;refine⟨by simp,λi k=>?_⟩;have c:=Qb k;rw[qz,ja]at c;unfold rZ;by_cases e:i+1<p.reverse.length
    .have:=a.2 i (List.mem_range.mpr (by omega))
     rwa [xS e,xS (by ext)]
    .have g:i+1=p.reverse.length:=by lia
     rw[g,sN,xS (by ext)]
     have:cY p.reverse i=q:=by
      rw[<-f]
      congr 1
      grind
     rw[this];exact wn d
   .unfold iO
    rw[qz,ja,Nat.add_sub_cancel,sN]
theorem sO(h:fo L s W)(g:t∈ay W):∃r:AX,cI L s t r/\ju [bT W,af t]=some (.tup (r.map af)):=by
 obtain⟨p,o,rfl⟩:=qy g;obtain⟨i,u,e⟩:=List.mem_iff_getElem.mp o;have l:=sM h.nd h.lt;obtain⟨b,b1,m,b3⟩:=y7h h.toWOk l (↑(af p.1)) (i+1) 4000 i p [] (by lia) (by lia) (by simp;lia) (by grind);obtain⟨f,n,k⟩:=KH b1;refine⟨b.reverse,⟨f,n,k,by ext<;>lia⟩,?_⟩;rw[ju,Ye (by rfl)];have a:Yd 4 [bT W,af p.1]=[_,_,none,none]:=rfl;rw[a];rw[Qj,List.map_nil]at b3;rw[List.map_reverse];generalize b.map _=d,bT W=q,af p.1=j at *;have c:kg (aa 2) [↑q,↑j,some (.ow d),↑.non]=some _:=rfl;simp[OE,b3,c]
noncomputable def aL(B:AE):AX:=B.flatMap λb=>[(b,false),(b,true)]
theorem mem_sayL{B:AE}:s∈aL B↔s.1∈B:=by
 unfold aL;rw[List.mem_flatMap];constructor
 .grind
 .intro h
  refine⟨s.1,h,?_⟩;obtain⟨a,b⟩:=s;cases b<;>simp
theorem KI(B:AE):(aL B).length=2*B.length:=by
 induction B with
 | nil=>rfl
 | cons b B a=>
   have:aL (b::B)=_++aL B:=rfl
   ext<;>lia
theorem ng{B:AE}(i:Yc c=some (B.map nD))(n:B.length<=1000):y8 [c]=some (.lst ((aL B).map af)):=by
 obtain⟨k,j,g,rfl⟩:=fJ (gt:=aj 2) (fb:=Hc) nD (λd h=>∃g:Option M.B,h=[↑c,some (.ow ((aL d).map af)),g]) B []
  [↑c,some (.ow []),none] ⟨none,rfl⟩ (by
   rintro q b r h e ⟨g,rfl⟩
   have m:q.length<=1000:=by
    ext<;>lia
   refine⟨_,[↑c,some _,↑(nD b)],rfl,?_,_,rfl⟩
   have f:(aL (q++[b])).map af=(aL q).map af++[.tup [.int (b:Int),.bl false],.tup [.int (b:Int),.bl true]]:=by
    unfold aL;rw[List.flatMap_append,wt];rfl
   have l:=KI q
   have a:gu ((aL q).map af) (.lst [.tup [.int (b:Int),.bl false],.tup [.int (b:Int),.bl true]])=some ((aL q).map af++[.tup [.int (b:Int),.bl false],.tup [.int (b:Int),.bl true]]):=by
    unfold gu;simp;lia
   rw[f]
   simp[Hc,a])
 rw[y8,Ye (by rfl)];simp[He,Yd,i,j]
def aU(A:AX)(wf:aH->Wy):D:=.dct true (A.map af) (A.map λs=>bT (wf s))
theorem g9(hn:A.Nodup)(h:s∈A):bU (aU A wf) (af s)=some (bT (wf s)):=by
 show(fF (A.map af)).bind _=_;rw[nc,qd,xP,qd];obtain⟨i,hi,e⟩:=List.mem_iff_getElem.mp h;have:=KF (W:=A.map λs=>(s,bT (wf s))) (i:=i) (p:=(s,bT (wf s))) (by rw[Qf];simpa [wu]using hn) (by rw[Qm,qr hi,e];rfl)
 have e1:((A.map λs=>(s,bT (wf s))).map (·.1))=A:=by rw[Qf];simp[wu]
 have e2:((A.map λs=>(s,bT (wf s))).map (·.2))=A.map λs=>bT (wf s):=by rw[Qf];rfl
 rw[e1,e2]at this;exact this
structure dV(L:AW)(A:AX)(wf:aH->Wy):Prop where
 nd:A.Nodup
 all:∀s∈A,fo L s (wf s)
def xT(t:aH):c8 false (af t) (bT W)=some (decide (t∈ay W)):=by
 unfold bT;rw[Rk];simp
def lE(h:dV L A wf)(hs:s∈A)(d:t∈A):Yy [aU A wf,af s,af t]=some (.bl (decide (t∈ay (wf s))&&decide (s∈ay (wf t)))):=by
 have c:=g9 (wf:=wf) h.nd hs;have a:=xT (W:=wf s) t;rw[Yy,Ye (by rfl)]
 cases b:decide (t∈ay _)with
 | true=>
   rw[b]at a;simp[Hf,Yd,c,g9 (wf:=wf) h.nd d,a,xT (W:=wf t) s]
 | false=>
   rw[b]at a;simp[Hf,Yd,c,a]
inductive bg (L:AW) (K S:AE):D->Prop
 | clash {s:aH}{a b:AX}:cI L s (aR s) a->cI L (aR s) s b->bg L K S (.tup [.str "clash",.tup (a.map af),.tup (b.map af)])
 | cross {s t:aH}{a:AX}:s.1∈S->t.1∈S->s≠t->cI L s t a->bg L K S (.tup [.str "cross",.tup (a.map af)])
 | late {s t:aH}{a b:AX}:s.1∈S->t.1∈K->t.1<s.1->cI L s t a->cI L t s b->bg L K S (.tup [.str "late",.tup (a.map af),.tup (b.map af)])
theorem Yxe(C:A.length<=1000)(h:dV L A wf)(g:∀s∈A,aR s∈A)(K S:AE):
 (∃d,bg L K S d/\qU [aU A wf]=some d)\/((∀s∈A,¬(aR s∈ay (wf s)/\s∈ay (wf (aR s))))/\qU [aU A wf]=some .non):=by
 have f:=jF (gt:=aj 1) (fb:=wI) af (λm w=>(∀s∈m,¬(aR s∈ay (wf s)/\s∈ay (wf (aR s))))/\∃o j:Option M.B,w=[↑(aU A wf),o,j]) (bg L K S) A []
  _ ⟨λs c=>(nomatch c),none,none,rfl⟩ (by
   rintro q s r w e ⟨p,o,j,rfl⟩;rw[Qj]at e
   have c:s∈A:=by rw[e];simp
   have u:=rG s;have k:=lE h c (g s c);refine⟨[some _,some _,j],rfl,?_⟩;by_cases i:aR s∈ay (wf s)/\s∈ay (wf (aR s))
   .right
    obtain⟨a,z,F⟩:=sO (h.all s c) i.1;obtain⟨b,E,B⟩:=sO (h.all _ (g s c)) i.2;refine⟨_,?_,.clash z E⟩;have D:=g9 (wf:=wf) h.nd c;have y:=g9 (wf:=wf) h.nd (g s c);simp [i.1,i.2,Bool.and_self]at k;simp[wI,u,k,D,y,F,B]
   .left
    have l:(decide (aR s∈ay (wf s))&&decide (s∈ay (wf (aR s))))=false:=by
     ext
    rw[l]at k;refine⟨[some _,↑(af s),↑(af (aR s))],?_,λt G=>?_,_,_,rfl⟩
    .simp[wI,u,k]
    symm)
 have v:pY (aU A wf)=some (A.map af):=by
  unfold aU;rw[UP,if_pos (by rw[qf];show _<=1000000;ac_nf)]
 rw[qU,Ye (by rfl)];rcases f with⟨x,n,p,o,j,rfl⟩|⟨d,n,hd⟩
 .refine .inr ⟨p,?_⟩
  simp[Hh,Yd,v,n]
 .refine .inl ⟨d,hd,?_⟩
  simp[Hh,Yd,v,n]
theorem Yxf(h:dV L A wf)(y:S.length<=1000)(O:∀s∈aL S,s∈A)(K:AE):
 (∃d,bg L K S d/\qW [aU A wf,.lst (S.map nD)]=some d)\/((∀s∈aL S,∀t∈aL S,¬(t≠s/\t∈ay (wf s)))/\qW [aU A wf,.lst (S.map nD)]=some .non):=by
 have g:=ng (c:=.lst (S.map nD)) (B:=S) rfl y
 have l:=jF (gt:=aj 2) (fb:=wJ) af (λj v=>(∀s∈j,∀t∈aL S,¬(t≠s/\t∈ay (wf s)))/\∃D o:Option M.B,v=[↑(aU A wf),↑(.lst (S.map nD)),D,o]) (bg L K S) (aL S) []
  _ ⟨λs m=>(nomatch m),none,none,rfl⟩ (by
   rintro q s r v e ⟨x,D,o,rfl⟩;rw[Qj]at e
   have p:s∈aL S:=by rw[e];simp
   have m:=O s p;have G:=g9 (wf:=wf) h.nd m;refine⟨[↑(aU A wf),some _,↑(af s),o],rfl,?_⟩
   have C:=jF (gt:=aj 3) (fb:=qV) af (λj v=>(∀t∈j,¬(t≠s/\t∈ay (wf s)))/\∃o:Option M.B,v=[↑(aU A wf),↑(.lst (S.map nD)),↑(af s),o]) (bg L K S) (aL S) []
    _ ⟨λs m=>(nomatch m),o,rfl⟩ (by
     rintro I t V v H ⟨E,N,rfl⟩;rw[Qj]at H
     have B:t∈aL S:=by rw[H];simp
     have f:=mY true t s;have w:=xT (W:=wf s) t;refine⟨[↑(aU A wf),some _,↑(af s),↑(af t)],rfl,?_⟩
     have i:_->(∀u∈I++[t],¬_):=λn u b=>by
      rcases qw b with b|b
      .exact E u b
      .rw[List.mem_singleton]at b
       rw[b];exact n
     by_cases c:t=s
     .left
      refine⟨[↑(aU A wf),some _,↑(af s),↑(af t)],?_,i (λz=>z.1 c),_,rfl⟩;simp only[c,decide_true,if_true,Bool.not_true]at f;rw[c];simp[qV,f]
     .simp only[c,decide_false,if_true,Bool.not_false]at f
      by_cases n:t∈ay (wf s)
      .right
       obtain⟨a,Q,R⟩:=sO (h.all s m) n;refine⟨_,?_,.cross (mem_sayL.mp p) (mem_sayL.mp B) (λz=>c z.symm) Q⟩;simp only[n,decide_true]at w;simp[qV,f,G,w,R]
      .left
       refine⟨[↑(aU A wf),some _,↑(af s),↑(af t)],?_,i (λz=>n z.2),_,rfl⟩;simp only[n,decide_false]at w
       simp[qV,f,G,w])
   rcases C with⟨T,k,F,J,rfl⟩|⟨d,k,hd⟩
   .left
    refine⟨[↑(aU A wf),some _,↑(af s),J],?_,λu b=>?_,_,_,rfl⟩
    .simp[wJ,g,k]
    .rcases qw b with b|b
     .exact x u b
     .rw[List.mem_singleton]at b
      rw[b];exact F
   .right
    refine⟨d,?_,hd⟩
    simp[wJ,g,k])
 rw[qW,Ye (by rfl)];rcases l with⟨U,k,x,Y,D,rfl⟩|⟨d,k,hd⟩
 .refine .inr ⟨x,?_⟩
  simp[Hi,Yd,g,k]
 .refine .inl ⟨d,hd,?_⟩
  simp[Hi,Yd,g,k]
def gH(wf:aH->Wy)(s t:aH):Prop:=t.1<s.1/\t∈ay (wf s)/\s∈ay (wf t)
theorem y0n(h:dV L A wf)(H:K.length<=1000)(F:S.length<=1000)(Y:∀s∈aL K,s∈A)(V:∀s∈aL S,s∈A):
 (∃d,bg L K S d/\qY [aU A wf,.lst (K.map nD),.lst (S.map nD)]=some d)\/((∀s∈aL S,∀t∈aL K,¬gH wf s t)/\qY [aU A wf,.lst (K.map nD),.lst (S.map nD)]=some .non):=by
 have x:=ng (c:=.lst (S.map nD)) (B:=S) rfl F;have B:=ng (c:=.lst (K.map nD)) (B:=K) rfl H
 have j:=jF (gt:=aj 3) (fb:=wK) af (λm y=>(∀s∈m,∀t∈aL K,¬gH wf s t)/\∃E o:Option M.B,y=[↑(aU A wf),↑(.lst (K.map nD)),↑(.lst (S.map nD)),E,o]) (bg L K S) (aL S) []
  _ ⟨λs k=>(nomatch k),none,none,rfl⟩ (by
   rintro q s r y e ⟨N,E,o,rfl⟩;rw[Qj]at e
   have w:s∈aL S:=by rw[e];simp
   have k:=V s w;have g1:=g9 (wf:=wf) h.nd k;refine⟨[↑(aU A wf),↑(.lst (K.map nD)),↑(.lst (S.map nD)),↑(af s),o],rfl,?_⟩
   have D:=jF (gt:=aj 4) (fb:=qX) af (λm y=>(∀t∈m,¬gH wf s t)/\∃o:Option M.B,y=[↑(aU A wf),↑(.lst (K.map nD)),↑(.lst (S.map nD)),↑(af s),o]) (bg L K S) (aL K) []
    _ ⟨λs k=>(nomatch k),o,rfl⟩ (by
     rintro Z t r' y Q ⟨hq',y3',rfl⟩;rw[Qj]at Q
     have v:t∈aL K:=by rw[Q];simp
     have G:=Y t v;have T:=g9 (wf:=wf) h.nd G;have C:=lE h k G;have i:Yc (af s)=some [.int (s.1:Int),.bl s.2]:=rfl;have n:Yc (af t)=some [.int (t.1:Int),.bl t.2]:=rfl;refine⟨[↑(aU A wf),↑(.lst (K.map nD)),↑(.lst (S.map nD)),↑(af s),↑(af t)],rfl,?_⟩
     have g:¬gH wf s t->(∀u∈Z++[t],¬gH wf s u):=λp u hu=>by
      grind
     by_cases f:t.1<s.1
     .have c:(t.1:Int)<(s.1:Int):=by ext
      by_cases p:t∈ay (wf s)/\s∈ay (wf t)
      .right
       obtain⟨a,ra,U⟩:=sO (h.all s k) p.1;obtain⟨b,rb,eb⟩:=sO (h.all t G) p.2;refine⟨_,?_,.late (mem_sayL.mp w) (mem_sayL.mp v) f ra rb⟩;simp only[p.1,p.2,decide_true,Bool.and_self]at C;simp[qX,i,n,f,c,C,g1,T,U,eb]
      .left
       refine⟨[↑(aU A wf),↑(.lst (K.map nD)),↑(.lst (S.map nD)),↑(af s),↑(af t)],?_,g (λz=>p z.2),_,rfl⟩
       have I:(decide (t∈ay (wf s))&&decide (s∈ay (wf t)))=false:=by
        ext
       rw[I]at C;simp[qX,i,n,f,c,C]
     .left
      have c:¬(t.1:Int)<(s.1:Int):=by ext
      refine⟨[↑(aU A wf),↑(.lst (K.map nD)),↑(.lst (S.map nD)),↑(af s),↑(af t)],?_,g (λz=>f z.1),_,rfl⟩
      simp[qX,i,n,f,c])
   rcases D with⟨ρ2,l,J,y4,rfl⟩|⟨d,l,hd⟩
   .left
    rw[Qj]at J;refine⟨[↑(aU A wf),↑(.lst (K.map nD)),↑(.lst (S.map nD)),↑(af s),y4],?_,λu hu=>?_,_,_,rfl⟩
    .generalize af s=R at *
     simp[wK,B,l]
    grind
   .right
    refine⟨d,?_,hd⟩;generalize af s=R,S.map nD=O at *
    simp[wK,B,l])
 rw[qY,Ye (by rfl)];rcases j with⟨ρ',l,N,y1,E,rfl⟩|⟨d,l,hd⟩
 .rw[Qj]at N
  refine .inr ⟨N,?_⟩;generalize aU A wf=ws,S.map nD=O,K.map nD=KK at *;simp[Hj,Yd,x,l]
 .refine .inl ⟨d,hd,?_⟩
  generalize aU A wf=ws,S.map nD=O,K.map nD=KK at *;simp[Hj,Yd,x,l]
theorem KJ(l:AX):fv .e (.ei l)=decide (l=[]):=by
 show bp (.tup _) (.tup [])=_
 cases l with
 | nil=>simp
 | cons a l=>
   ext
theorem Rm(L:AW):(L.map Rl.ei).any (fv .e)=decide ([]∈L):=by
 rw[List.any_map]
 cases h:decide ([]∈L)with
 | true=>
   have:=wq h;exact List.any_eq_true.mpr ⟨[],this,rfl⟩
 | false=>
   rw[List.any_eq_false];intro l a;show ¬fv .e _=true;rw[KJ];grind
def InE(L:AW)(st n:Nat):Prop:=∀l∈L,eB (.ei l)/\∀s∈l,st<=s.1/\s.1<n
theorem KM(h:InE L st n):mL [aS L]=some (.bl (decide ([]∈L))):=by
 have c:=QH (R:=L.map .ei) (λr b=>by
  obtain⟨l,a,rfl⟩:=qy b;refine⟨⟨rfl,λs d=>((h l a).2 s d).2⟩,?_⟩;have:=(h l a).1.1;show l.length<=_
  lia)
 rwa [Rm,lp]at c
theorem jH(h:bg L K S d):∃l,d=.tup l:=by
 cases h
 .grind
 .grind
 grind
def sP(L:AW)(K S:AE)(d:D):Prop:=bg L K S d\/([]∈L/\d=.tup [.str "broken"])
theorem Ytu(hL:∀l∈L,eG l)(u:InE L st n)(hKl:K.length<=60)(hSl:S.length<=60)(v:∀x,st<=x->x<n->x∈S\/x∈K)(p:∀s:aH,s∈A↔s.1∈S\/s.1∈K)(O:A.length<=1000)(h:dV L A wf):
 (∃d,sP L K S d/\mM [aS L,aU A wf,.lst (K.map nD),.lst (S.map nD)]=some d)\/(¬cy L K S/\mM [aS L,aU A wf,.lst (K.map nD),.lst (S.map nD)]=some .non):=by
 have c:=KM u;have hK:∀s∈aL K,s∈A:=λs m=>(p s).mpr (.inr (mem_sayL.mp m));have U:∀s∈aL S,s∈A:=λs m=>(p s).mpr (.inl (mem_sayL.mp m));have I:∀s∈A,aR s∈A:=λs m=>(p _).mpr ((p s).mp m);have q1:=Yxe O h I K S;have V:=Yxf h (S:=S) (by lia) U K;have E:=y0n h (K:=K) (S:=S) (by lia) (by lia) hK U;rw[mM,Ye (by rfl)];by_cases y:[]∈L
 .left
  refine⟨_,.inr ⟨y,rfl⟩,?_⟩;simp only[y,decide_true]at c;generalize aU A wf=i,aS L=k at *;simp[y0,Yd,c]
 .simp only[y,decide_false]at c
  have q:∀(a:D) (l:AN),aY (a::l) 0=some a:=λa l=>by ext
  rcases q1 with⟨d1,G,g⟩|⟨n1,g⟩
  .left
   refine⟨d1,.inl G,?_⟩;obtain⟨l1,rfl⟩:=jH G;clear G;rcases V with⟨T,F,f⟩|⟨R,f⟩
   .obtain⟨Z,rfl⟩:=jH F
    rcases E with⟨C,j,b⟩|⟨B,b⟩
    .obtain⟨Q,rfl⟩:=jH j
     generalize aU A wf=i,aS L=k at *;simp[y0,Yd,c,g,f,b,ao,dB,Yt,Yz,q]
    .generalize aU A wf=i at *
     generalize aS L=k at *;simp[y0,Yd,c,g,f,b,ao,dB,Yt,Yz,q]
   .rcases E with⟨C,j,b⟩|⟨B,b⟩
    .obtain⟨Q,rfl⟩:=jH j
     generalize aU A wf=i,aS L=k at *;simp[y0,Yd,c,g,f,b,ao,dB,Yt,Yz,q]
    .generalize aU A wf=i at *
     generalize aS L=k at *;simp[y0,Yd,c,g,f,b,ao,dB,Yt,Yz,q]
  .rcases V with⟨T,F,f⟩|⟨R,f⟩
   .left
    refine⟨T,.inl F,?_⟩;obtain⟨Z,rfl⟩:=jH F;rcases E with⟨C,j,b⟩|⟨B,b⟩
    .obtain⟨Q,rfl⟩:=jH j
     generalize aU A wf=i,aS L=k at *;simp[y0,Yd,c,g,f,b,ao,dB,Yt,Yz,q]
    .generalize aU A wf=i at *
     generalize aS L=k at *;simp[y0,Yd,c,g,f,b,ao,dB,Yt,Yz,q]
   .rcases E with⟨C,j,b⟩|⟨B,b⟩
    .left
     refine⟨C,.inl j,?_⟩;obtain⟨Q,rfl⟩:=jH j;generalize aU A wf=i,aS L=k at *;simp[y0,Yd,c,g,f,b,ao,dB,Yt,Yz,q]
    .right
     refine⟨λr=>?_,?_⟩
     .have M:∀s∈A,∀t,t∈ay (wf s)↔Rch L s t:=λs m t=>xR hL (h.all s m)
      cases r with
      | broken z=>exact y z
      | clash s o w=>
        have hsA:s∈A:=by
         have hne:s≠aR s:=λz=>Kk s z.symm
         have:s.1∈S\/s.1∈K:=by
          have H:∀t,Rch L s t->t=s\/∃l∈L,t∈l:=λt ht=>by
           cases ht with
           | refl=>grind
           | step _ e=>
             obtain⟨l,Y,_,h2,_⟩:=e;grind
          rcases H _ o with z|⟨l,Y,hm⟩
          .grind
          .obtain⟨g1,g2⟩:=(u l Y).2 _ hm
           exact v s.1 g1 g2
         grind
        grind
      | cross s t o w N J=>exact R s (mem_sayL.mpr o) t (mem_sayL.mpr w) ⟨λz=>N z.symm,(M s ((p s).mpr (.inl o)) _).mpr J⟩
      | late s t o w N J z5=>exact B s (mem_sayL.mpr o) t (mem_sayL.mpr w) ⟨N,(M s ((p s).mpr (.inl o)) _).mpr J,(M t ((p t).mpr (.inr w)) _).mpr z5⟩
     .generalize aU A wf=i at *
      generalize aS L=k at *;simp[y0,Yd,c,g,f,b,ao,dB,Yt]
theorem Rn(i:Int)(y:b)(k:Int):∀{ns:AF}{vs:List b},ns.length=vs.length->i∈ns->Yn ns (aQ ns vs i y) k=if k=i then some y else Yn ns vs k
 | [],_,_,h=>nomatch h
 | n::ns,[],a,_=>by simp at a
 | n::ns,v::vs,a,h=>by
   rw[aQ];by_cases e:n=i
   .subst e
    rw[if_pos rfl,Yn,Yn];grind
   .have c:i∈ns:=by
     grind
    rw[if_neg e,Yn,Yn,Rn i y k (by ext) c]
    split<;>ext
theorem Rq(i:Int)(y:b)(k:Int):∀{ns:AF}{vs:List b},ns.length=vs.length->i∉ns->Yn (ns++[i]) (vs++[y]) k=if k=i then some y else Yn ns vs k
 | [],[],_,_=>by
   show Yn [i] [y] k=_;rw[Yn];grind
 | [],_::_,a,_=>by simp at a
 | n::ns,[],a,_=>by simp at a
 | n::ns,v::vs,a,h=>by
   rw[List.cons_append,List.cons_append,Yn,Yn,Rq i y k (by grind) (λz=>h (qg _ z))];grind
def KN(a:ns.length=vs.length)(i:Int)(y:b)(k:Int):Yn (bz ns vs i y).1 (bz ns vs i y).2 k=if k=i then some y else Yn ns vs k:=by
 unfold bz;by_cases h:i∈ns
 .rw[if_pos h]
  exact Rn i y k a h
 .rw[if_neg h]
  exact Rq i y k a h
noncomputable def f6{β:Type}(k:Int):List (Int×β)->Option β->Option β
 | [],z=>z
 | p::ps,z=>f6 k ps (if k=p.1 then some p.2 else z)
theorem KO(k:Int):∀(ps:List (Int×b)) {ns:AF}{vs:List b},ns.length=vs.length->Yn (aB ns vs ps).1 (aB ns vs ps).2 k=f6 k ps (Yn ns vs k)
 | [],_,_,_=>rfl
 | p::ps,ns,vs,a=>by
   rw[aB,KO k ps (CT a),KN a];rfl
theorem lG:∀(ps:List (Int×c)) {ns:AF}{vs:List c},ns.Nodup->ns.length=vs.length->(aB ns vs ps).1.Nodup/\(aB ns vs ps).1.length=(aB ns vs ps).2.length
 | [],_,_,a,b=>⟨a,b⟩
 | p::ps,ns,vs,a,b=>lG ps (Nx a) (CT b)
theorem Rr(k:Int):∀{a:AF}{b:List g}{z:Option g},a.length=b.length->a.Nodup->f6 k (a.zip b) z=(Yn a b k).or z
 | [],[],z,_,_=>by
   rfl
 | [],_::_,_,c,_=>by simp at c
 | _::_,[],_,c,_=>by simp at c
 | m::a,w::b,z,c,d=>by
   rw[List.nodup_cons]at d;rw[List.zip_cons_cons,f6,Rr k ⋯ d.2,Yn];by_cases e:k=m
   .subst e
    have f:Yn a b k=none:=(kf (by ext)).mpr d.1
    ext
   symm
theorem Rt(k:Int):∀{ps:List (Int×a)}{z:Option a}{y:a},f6 k ps z=some y->(k,y)∈ps\/((∀p∈ps,p.1≠k)/\z=some y)
 | [],z,y,h=>.inr ⟨λp b=>(nomatch b),h⟩
 | p::ps,z,y,h=>by
   rw[f6]at h;rcases Rt k h with c|⟨c,d⟩
   .grind
   grind
theorem KP(k:Int):∀{ps:List (Int×a)}{z:Option a},(∃p∈ps,p.1=k)\/z.isSome=true->(f6 k ps z).isSome=true
 | [],z,h=>by
   rcases h with⟨p,b,_⟩|h
   .cases b
   .exact h
 | p::ps,z,h=>by
   rw[f6];refine KP k ?_;symm
theorem Ru(k:Int):∀{ps:List (Int×a)}{z:Option a},(∀p∈ps,p.1≠k)->f6 k ps z=z
 | [],z,_=>rfl
 | p::ps,z,h=>by
   rw[f6,if_neg (λe=>h p qh e.symm)];exact Ru k λq b=>h q (qg _ b)
structure lH(ns:AF)(vs:AG):Prop where
 nd:ns.Nodup
 len:ns.length=vs.length
def b7(ns:AF)(vs:AG)(j:Nat):Option Bool:=Yn ns vs j
noncomputable def cZ(l:AX):List (Int×Bool):=l.map λs=>(s.1,s.2)
def b8(ns:AF)(vs:AG)(l:AX):List Int×AG:=aB ns vs ((aB [] [] (cZ l)).1.zip (aB [] [] (cZ l)).2)
def sQ(h:lH ns vs)(l:AX):lH (b8 ns vs l).1 (b8 ns vs l).2:=by
 obtain⟨a,b⟩:=lG _ h.nd h.len;exact⟨a,b⟩
theorem Rv(n:∀l∈L,eG l)(i:fo L s W)(h:lH ns vs):lB L s (b7 ns vs) (b7 (b8 ns vs (ay W)).1 (b8 ns vs (ay W)).2):=λj=>by
 obtain⟨o,m⟩:=lG (cZ (ay W)) (vs:=[]) List.nodup_nil rfl
 have g:∀k,Yn (b8 ns vs _).1 (b8 ns vs _).2 k=(f6 k _ none).or _:=λk=>by
  unfold b8;rw[KO k _ h.len,Rr k m o,KO k (cZ _) rfl];rfl
 have f:∀v,Rch L s _↔((j:Int),v)∈cZ _:=λv=>by
  rw[<-xR n i];constructor
  .intro c
   exact List.mem_map.mpr ⟨(j,v),c,rfl⟩
  .intro c
   obtain⟨t,q,e⟩:=qy c
   (simp at*;lia)
 have d:(∀u,¬Rch L s (j,u))->∀p∈cZ (ay W),p.1≠j:=λb p r e=>by
  grind
 unfold b7;refine⟨λv a=>?_,λv a=>?_,λb=>?_⟩
 .have:=KP j (z:=none) (.inl ⟨_,(f v).mp a,rfl⟩)
  ext
 .rw[g]at a
  cases e:f6 _ _ _ with
  | some y=>
    rw[e]at a;rcases Rt _ e with w|⟨_,w⟩
    .grind
    .cases w
  | none=>
    rw[e]at a;refine .inr ⟨λu b=>?_,a⟩;have:=KP j (z:=none) (.inl ⟨_,(f u).mp b,rfl⟩);grind
 .rw[g,Ru _ (d b)]
  rfl
theorem sR(i:Int)(y:Bool):∀(ns:AF) (vs:AG),aQ ns (vs.map D.bl) i (.bl y)=(aQ ns vs i y).map D.bl
 | [],vs=>by cases vs<;>simp[aQ]
 | n::ns,[]=>by simp[aQ]
 | n::ns,v::vs=>by
   rw[Qd,aQ,aQ];by_cases e:n=i
   .rw[if_pos e,if_pos e]
    rfl
   .rw[if_neg e,if_neg e,sR i y ns vs]
    rfl
theorem KQ:∀(ps:List (Int×Bool)) (ns:AF) (vs:AG),aB ns (vs.map D.bl) (ps.map λp=>(p.1,D.bl p.2))=((aB ns vs ps).1,(aB ns vs ps).2.map D.bl)
 | [],ns,vs=>rfl
 | p::ps,ns,vs=>by
   rw[Qd,aB]
   have e:bz ns (vs.map D.bl) p.1 (.bl p.2)=((bz ns vs p.1 p.2).1,(bz ns vs p.1 p.2).2.map .bl):=by
    unfold bz;by_cases h:p.1∈ns
    .rw[if_pos h,if_pos h,sR]
    ext
   rw[e];exact KQ ps _ _
theorem Rw:∀l:AX,el (l.map af)=some ((cZ l).map λp=>(p.1,D.bl p.2))
 | []=>rfl
 | s::l=>by
   show el (.tup _::_)=_;rw[el,Rw l];rfl
theorem sS(b:W.length<=1000)(f:AU)(ρ:Ro)(e:f ρ=some (.lst ((ay W).map af))):
 eY f ρ=some (.dct false ((aB [] [] (cZ (ay W))).1.map D.int) ((aB [] [] (cZ (ay W))).2.map D.bl)):=by
 have c:=Rw (ay W);have d:=KQ (cZ (ay W)) [] []
 have a:((cZ (ay W)).map λp=>(p.1,D.bl p.2)).length<1000000:=by simp[cZ,ay];ac_nf
 ext
def KU:(ay W).length=W.length:=by simp[ay]
theorem xU:∀(ps:List (Int×a)) (ns:AF) (vs:List a),(aB ns vs ps).2.length<=vs.length+ps.length
 | [],_,vs=>by simp[aB]
 | p::ps,ns,vs=>by
   rw[aB];have:=xU ps (bz ns vs p.1 p.2).1 (bz ns vs p.1 p.2).2
   have b:(bz ns vs p.1 p.2).2.length<=vs.length+1:=by
    unfold bz
    split
    .rw[oA];lia
    .simp
   grind
theorem sT(a:vs.length<=500000)(c:W.length<=1000):
 iH (ns.map D.int,vs.map D.bl) (.dct false ((aB [] [] (cZ (ay W))).1.map D.int) ((aB [] [] (cZ (ay W))).2.map D.bl))=some ((b8 ns vs (ay W)).1.map D.int,(b8 ns vs (ay W)).2.map D.bl):=by
 have b:=xU (cZ (ay W)) [] []
 have d:(cZ (ay W)).length=W.length:=by simp[cZ,ay]
 show(intsD _).bind _=_
 rw[mv,qd,mv,qd,if_pos (by
  show _<1000000
  ext<;>lia)]
 have e:(aB [] [] (cZ (ay W))).1.zip ((aB [] [] (cZ (ay W))).2.map .bl)=((aB [] [] (cZ (ay W))).1.zip (aB [] [] (cZ (ay W))).2).map λp=>(p.1,D.bl p.2):=by
  rw[List.zip_map_right];rfl
 rw[e,KQ];rfl
def y28(j:∀l∈L,eG l)(m:¬cy L K S)(h:dV L A wf)(d:(k,false)∈A)(e:(k,true)∈A):
 ∃l:aH,l∈A/\sL L k l/\kX [.int (k:Int),aU A wf]=some (af l):=by
 have g:=g9 (wf:=wf) h.nd d;have b:=xT (W:=wf (k,false)) (k,true);have f:=rG (k,false);have c:aR (k,false)=(k,true):=rfl;rw[c]at f;have i:∀t,_↔Rch L _ t:=λt=>xR j (h.all _ d);have hd:.tup [_,.bl false]=af (k,_):=rfl;by_cases a:(k,true)∈ay (wf (k,false))
 .refine⟨(k,true),e,⟨rfl,λz=>m (.clash _ z ((i _).mp a))⟩,?_⟩
  simp [a]at b;rw[kX,Ye (by rfl)];simp[Hk,Yd,hd,f,g,b]
 .refine⟨(k,false),d,⟨rfl,λz=>a ((i _).mpr z)⟩,?_⟩
  simp [a]at b;rw[kX,Ye (by rfl)];simp[Hk,Yd,hd,f,g,b]
theorem Rx{A:AX}{wf:aH->Wy}(a:(wf s).length<=1000):iG [bT (wf s)]=some ((ay (wf s)).map af):=by
 unfold bT;rw[UT,if_pos (by rw[qf,KU];show _<=1000000;lia)]
theorem Ry(ns:AF)(vs:AG)(W:Wy)(d:W.length<=120):(b8 ns vs (ay W)).2.length<=vs.length+120:=by
 unfold b8;have c:=xU ((aB [] [] (cZ (ay W))).1.zip (aB [] [] (cZ (ay W))).2) ns vs;have b:=xU (cZ (ay W)) [] []
 have a:(cZ (ay W)).length=W.length:=by simp[cZ,ay]
 ext<;>ac_nf
theorem Yxh(hL:∀l∈L,eG l)(hKl:K.length<=60)(hSl:S.length<=60)(nb:¬cy L K S)(hA:∀s:aH,s∈A↔s.1∈S\/s.1∈K)(h:dV L A wf):
 ∃(ns:AF) (vs:AG),lH ns vs/\m_ L K S (b7 ns vs)/\(∀k∈K,(b7 ns vs k).isSome=true)/\wN [aU A wf,.lst (K.map nD),.lst (S.map nD)]=some (.dct false (ns.map D.int) (vs.map D.bl)):=by
 have hso:=ng (c:=.lst (S.map nD)) (B:=S) rfl (by lia);have hsl:=KI S
 obtain⟨ρ1,e1,ns1,vs1,y4,t1,p1,l1,rfl⟩:=fJ (gt:=aj 4) (fb:=Hm) af (λpre ρ=>∃(ns:AF) (vs:AG) (y4:Option M.B),lH ns vs/\sJ L pre (b7 ns vs)/\vs.length<=120*pre.length/\
  ρ=[↑(aU A wf),↑(.lst (K.map nD)),↑(.lst (S.map nD)),some (.od false (ns.map D.int) (vs.map D.bl)),y4,none]) (aL S) []
  [↑(aU A wf),↑(.lst (K.map nD)),↑(.lst (S.map nD)),some (.od false [] []),none,none] ⟨[],[],none,⟨List.nodup_nil,rfl⟩,Kt L,by simp,rfl⟩ (by
   rintro q s r ρ e ⟨ns,vs,y4,t0,p0,l0,rfl⟩;rw[Qj]at e;have hsA:s∈A:=(hA s).mpr (.inl (mem_sayL.mp (by rw[e];simp)));have hW:=h.all s hsA;have hWl:=sM hW.nd hW.lt
   have hq:q.length<=120:=by
    grind
   have g:=g9 (wf:=wf) h.nd hsA;have hlk:=Rx (A:=A) (wf:=wf) (s:=s) (by lia)
   have hdc:=sS (W:=wf s) (by lia) (lF (cF (Yb (b2 (aa 0) (aa 4) bU) ae) iG)) [↑(aU A wf),↑(.lst (K.map nD)),↑(.lst (S.map nD)),some (.od false (ns.map D.int) (vs.map D.bl)),↑(af s),none] (by
    ext)
   have hup:=sT (W:=wf s) (ns:=ns) (vs:=vs) (by lia) (by lia);refine⟨[↑(aU A wf),↑(.lst (K.map nD)),↑(.lst (S.map nD)),some (.od false (ns.map D.int) (vs.map D.bl)),↑(af s),none],[↑(aU A wf),↑(.lst (K.map nD)),↑(.lst (S.map nD)),some (.od false ((b8 ns vs (ay (wf s))).1.map D.int) ((b8 ns vs (ay (wf s))).2.map D.bl)),↑(af s),none],rfl,?_,_,_,_,sQ t0 _,Ku p0 (Rv hL hW t0),?_,rfl⟩
   .have hgo:fX 3 [↑(aU A wf),↑(.lst (K.map nD)),↑(.lst (S.map nD)),some (.od false (ns.map D.int) (vs.map D.bl)),↑(af s),none]=some (ns.map D.int,vs.map D.bl):=rfl
    rw[Hm,qb,hgo,qd,hdc,qd,hup];rfl
   .have:=Ry ns vs (wf s) hWl
    ext<;>lia)
 rw[Qj]at p1 l1;have ph:=Kx (K:=K) nb (T:=aL S) (λs=>mem_sayL) p1
 obtain⟨ρ2,e2,ns2,vs2,y5,t2,p2,k2,l2,rfl⟩:=fJ (gt:=aj 5) (fb:=wL) nD (λpre ρ=>∃(ns:AF) (vs:AG) (y5:Option M.B),lH ns vs/\m_ L K S (b7 ns vs)/\(∀k∈pre,(b7 ns vs k).isSome=true)/\vs.length<=20000+120*pre.length/\
  ρ=[↑(aU A wf),↑(.lst (K.map nD)),↑(.lst (S.map nD)),some (.od false (ns.map D.int) (vs.map D.bl)),y4,y5]) K []
  [↑(aU A wf),↑(.lst (K.map nD)),↑(.lst (S.map nD)),some (.od false (ns1.map D.int) (vs1.map D.bl)),y4,none] ⟨ns1,vs1,none,t1,ph,λk hk=>(nomatch hk),by simp;lia,rfl⟩ (by
   rintro q k r ρ e ⟨ns,vs,y5,t0,p0,k0,l0,rfl⟩;rw[Qj]at e
   have hkK:k∈K:=by rw[e];simp
   have hq:q.length<=60:=by
    grind
   have hhas:dD true (.int (k:Int)) (.dct false (ns.map D.int) (vs.map D.bl))=some (decide ((k:Int)∈ns)!=true):=by ext
   by_cases hm:(k:Int)∈ns
   .refine⟨_,[↑(aU A wf),↑(.lst (K.map nD)),↑(.lst (S.map nD)),some (.od false (ns.map D.int) (vs.map D.bl)),y4,↑(nD k)],rfl,?_,ns,vs,_,t0,p0,λj hj=>?_,by simp;lia,rfl⟩
    .rw[wn hm]at hhas
     generalize aU A wf=ws,ns.map D.int=NN,vs.map D.bl=VV at *;simp[wL,hhas,-CI]
    .rcases qw hj with hj|hj
     .exact k0 j hj
     .rw[List.mem_singleton]at hj
      subst hj;unfold b7
      cases z:Yn ns vs (j:Int)with
      | some v=>rfl
      | none=>exact absurd hm ((kf t0.len.symm).mp z)
   .have hnone:b7 ns vs k=none:=(kf t0.len.symm).mpr hm
    obtain⟨l,hlA,hfr,hfs⟩:=y28 hL nb h (k:=k) ((hA _).mpr (.inr hkK)) ((hA _).mpr (.inr hkK));have hW:=h.all l hlA;have hWl:=sM hW.nd hW.lt;have g:=g9 (wf:=wf) h.nd hlA;have hlk:=Rx (A:=A) (wf:=wf) (s:=l) (by lia)
    have hdc:=sS (W:=wf l) (by lia) (lF (cF (Yb (b2 (aa 0) (cC (Yb (ab 5) (Yb (ab 0) ae)) kX) bU) ae) iG)) [↑(aU A wf),↑(.lst (K.map nD)),↑(.lst (S.map nD)),some (.od false (ns.map D.int) (vs.map D.bl)),y4,↑(nD k)] (by
     ext)
    have hup:=sT (W:=wf l) (ns:=ns) (vs:=vs) (by lia) (by lia);obtain⟨s1,s2,s3⟩:=Ky nb p0 hnone hfr (Rv hL hW t0);refine⟨_,[↑(aU A wf),↑(.lst (K.map nD)),↑(.lst (S.map nD)),some (.od false ((b8 ns vs (ay (wf l))).1.map D.int) ((b8 ns vs (ay (wf l))).2.map D.bl)),y4,↑(nD k)],rfl,?_,_,_,_,sQ t0 _,s1,λj hj=>?_,?_,rfl⟩
    .have hgo:fX 3 [↑(aU A wf),↑(.lst (K.map nD)),↑(.lst (S.map nD)),some (.od false (ns.map D.int) (vs.map D.bl)),y4,↑(nD k)]=some (ns.map D.int,vs.map D.bl):=rfl
     have hup2:gy 3 (eY (lF (cF (Yb (b2 (aa 0) (cC (Yb (ab 5) (Yb (ab 0) ae)) kX) bU) ae) iG))) [↑(aU A wf),↑(.lst (K.map nD)),↑(.lst (S.map nD)),some (.od false (ns.map D.int) (vs.map D.bl)),y4,↑(nD k)]=some (.nx [↑(aU A wf),↑(.lst (K.map nD)),↑(.lst (S.map nD)),some (.od false ((b8 ns vs (ay (wf l))).1.map D.int) ((b8 ns vs (ay (wf l))).2.map D.bl)),y4,↑(nD k)]):=by
      ext
     rw[wo hm]at hhas;generalize (b8 ns vs (ay (wf l))).1.map D.int=N2,(b8 ns vs (ay (wf l))).2.map D.bl=V2,aU A wf=ws,ns.map D.int=NN,vs.map D.bl=VV at *;simp[wL,hhas,hup2,-CI,-qb]
    .grind
    .have:=Ry ns vs (wf l) hWl
     ext<;>lia)
 rw[Qj]at k2;refine⟨ns2,vs2,t2,p2,k2,?_⟩;rw[wN,Ye (by rfl)];have h3:wM [↑(aU A wf),↑(.lst (K.map nD)),↑(.lst (S.map nD)),some (.od false (ns2.map D.int) (vs2.map D.bl)),y4,y5]=some (.rt (.dct false (ns2.map D.int) (vs2.map D.bl))):=rfl;generalize aU A wf=ws,ns2.map D.int=N2,vs2.map D.bl=V2,ns1.map D.int=N1,vs1.map D.bl=V1,(aL S).map af=SL,S.map nD=SS,K.map nD=KK at *;simp[Hn,Yd,hso,e1,e2,h3,-wM]
theorem y7i(O:∀l∈L,eG l){K S:AE}(J:S.length<=60)(H:∀s:aH,s∈A↔s.1∈S\/s.1∈K)(h:dV L A wf)(b:lH ns vs)(N:k∈K)(hd:(b7 ns vs k).isSome=true):
 ∃r:c9,r.1=k/\((∃s,bS L S k s/\r.2=(some s.1,s.2))\/(loose L S k/\r.2=(none,(b7 ns vs k).getD false)))/\qZ [.int (k:Int),aU A wf,.lst (S.map nD),.dct false (ns.map D.int) (vs.map D.bl)]=some (aT r):=by
 have j:=ng (c:=.lst (S.map nD)) (B:=S) rfl ∅;have i:(k,true)∈A:=(H _).mpr (.inr N);have y:∀s∈A,∀t,t∈ay (wf s)↔Rch L s t:=λs a t=>xR O (h.all s a);have m:D.tup [.int (k:Int),.bl true]=af (k,true):=rfl
 have f:=jF (gt:=aj 4) (fb:=wO) af (λB I=>(∀s∈B,¬bS L S k s)/\∃G:Option M.B,I=[↑(.int (k:Int)),↑(aU A wf),↑(.lst (S.map nD)),↑(.dct false (ns.map D.int) (vs.map D.bl)),G]) (λd=>∃s,bS L S k s/\d=aT (k,some s.1,s.2)) (aL S) []
  _ ⟨λs a=>(nomatch a),none,rfl⟩ (by
   rintro q s r I e ⟨x,G,rfl⟩;rw[Qj]at e;have u:s.1∈S:=mem_sayL.mp (by rw[e];simp);have g:s∈A:=(H s).mpr (.inl u);have p:=lE h g i;have F:Yc (af s)=_:=rfl;refine⟨[↑(.int (k:Int)),↑(aU A wf),↑(.lst (S.map nD)),some _,↑(af s)],rfl,?_⟩;by_cases w:(k,true)∈ay (wf s)/\s∈ay (wf (k,true))
   .right
    refine⟨aT (k,some s.1,s.2),?_,s,⟨u,(y s g _).mp w.1,(y _ i _).mp w.2⟩,rfl⟩;have c:aT (k,some s.1,s.2)=.tup [.int (k:Int),.int (s.1:Int),.bl s.2]:=rfl;rw[c];simp only[w.1,w.2,decide_true,Bool.and_self]at p;rw[<-m]at p;simp[wO,p,F]
   .left
    have E:(decide ((k,true)∈ay (wf s))&&decide (s∈ay (wf (k,true))))=false:=by
     ext
    rw[E,<-m]at p;refine⟨[↑(.int (k:Int)),↑(aU A wf),↑(.lst (S.map nD)),some _,↑(af s)],?_,λt b=>?_,_,rfl⟩
    .simp[wO,p]
    .rcases qw b with b|b
     .exact x t b
     .rw[List.mem_singleton]at b
      rw[b]
      exact λz=>w ⟨(y s g _).mpr z.2.1,(y _ i _).mpr z.2.2⟩)
 rw[qZ,Ye (by rfl)];rcases f with⟨Q,C,x,G,rfl⟩|⟨d,C,s,a,rfl⟩
 .rw[Qj]at x
  refine⟨(k,none,(b7 ns vs k).getD false),rfl,.inr ⟨λs a=>x s (mem_sayL.mpr a.1) a,rfl⟩,?_⟩
  have o:cN (.dct false (ns.map D.int) (vs.map D.bl)) (.int (k:Int))=some (.bl ((b7 ns vs k).getD false)):=by
   rw[jk,mv,qd]
   have:∀(ns:AF) (vs:AG),Yn ns (vs.map D.bl) (k:Int)=(Yn ns vs (k:Int)).map D.bl:=λns=>by
    induction ns with
    | nil=>intro vs;cases vs<;>rfl
    | cons n ns R=>
      intro vs
      cases vs with
      | nil=>rfl
      | cons v vs=>
        rw[Qd,Yn,Yn]
        split<;>ext
   rw[this];unfold b7 at hd ⊢
   cases z:Yn ns vs (k:Int)with
   | none=>symm
   | some v=>rfl
  have c:aT (k,none,(b7 ns vs k).getD false)=.tup [.int (k:Int),.non,.bl ((b7 ns vs k).getD false)]:=rfl;rw[c];simp[Ho,Yd,j,C,o,-jk]
 .refine⟨(k,some s.1,s.2),rfl,.inl ⟨s,a,rfl⟩,?_⟩
  simp[Ho,Yd,j,C]
theorem KW(h:eB (.ei l)):eG l:=⟨h.1,h.2.imp λ{a b} c z=>by
 rcases c with h|⟨_,e,d⟩
 .lia
 grind⟩
theorem Rz:∀{B:AE},B.Nodup->(aL B).Nodup
 | [],_=>List.nodup_nil
 | b::B,h=>by
   rw[List.nodup_cons]at h;have e:aL (b::B)=_++_:=rfl;rw[e,List.nodup_append];refine⟨by simp,Rz h.2,λx c y d z=>?_⟩;subst z;have a:=mem_sayL.mp d;simp at c;rcases c with rfl|rfl
   .exact h.1 a
   .exact h.1 a
theorem RA(wf:aH->Wy):∀A:AX,my (A.map λs=>.tup [af s,bT (wf s)])=some (A.map λs=>(af s,bT (wf s)))
 | []=>rfl
 | s::A=>by
   rw[Qd,my,RA wf A];rfl
def jI(rows:List c9):AN:=[.str "plan",.tup (rows.map aT)]
theorem Yo3(hLl:L.length<=100)(hc:Yc c=some (hs.map aE))(hl:hs.length<=60)(C:st<=hs.length)(f:InE L st hs.length):
 (∃d,sP L (aw hs st true) (aw hs st false) d/\q_ [aS L,c,.int st]=some (bE true d))\/
 (∃rows,fw L (aw hs st true) (aw hs st false) rows/\q_ [aS L,c,.int st]=some (bE false (.tup (jI rows)))):=by
 have hL:∀l∈L,eG l:=λl v=>KW (f l v).1
 have hL60:∀l∈L,∀s∈l,s.1<60:=λl v s hs=>by have:=((f l v).2 s hs).2;ac_nf
 have H:=Yi hs hc ∅ st C true;have Q:=Yi hs hc ∅ st C false;simp only[aE,if_true,Qo,if_false]at H Q;have J:(aw hs st true).Pairwise (·<·):=List.Pairwise.filter _ List.pairwise_lt_range;have T:(aw hs st false).Pairwise (·<·):=List.Pairwise.filter _ List.pairwise_lt_range;have F:=xK (hs:=hs) (st:=st);have o:∀x,st<=x->x<hs.length->x∈aw hs st false\/x∈aw hs st true:=λx h1 h2=>sC h1 h2;have t:(aw hs st false).length<=60:=Qg (Qn _ _) (by simpa using hl);have N:(aw hs st true).length<=60:=Qg (Qn _ _) (by simpa using hl);have Y:∀x∈aw hs st false,x<60:=λx O=>Qi (g8 O) hl;have R:∀x∈aw hs st true,x<60:=λx O=>Qi (g8 O) hl;generalize aw hs st false=S,aw hs st true=K at *;have G:∀l∈L,∀s∈l,s.1∈S\/s.1∈K:=λl v s hs=>o s.1 ((f l v).2 s hs).1 ((f l v).2 s hs).2
 have E:(K++S).Nodup:=by
  rw[List.nodup_append];exact⟨J.imp λh=>qm h,T.imp λh=>qm h,λx O y hy z=>F y hy (by rw[<-z];exact O)⟩
 have I:=Rz E
 have i:∀s:aH,s∈aL (K++S)↔s.1∈S\/s.1∈K:=λs=>by
  rw[mem_sayL,List.mem_append];exact⟨λh=>h.symm,λh=>h.symm⟩
 have hAl:(aL (K++S)).length<=1000:=by rw[KI,qz];ac_nf
 have hw:∀s:aH,∃W:Wy,s.1<60->fo L s W/\mE [aS L,af s]=some (bT W):=λs=>by
  by_cases h60:s.1<60
  .obtain⟨W,h1,h2⟩:=y26 (L:=L) ∅ hL60 h60
   exact⟨W,λ_=>⟨h1,h2⟩⟩
  .exact⟨[],λz=>absurd z h60⟩
 obtain⟨b,V⟩:∃b:aH->Wy,∀s:aH,s.1<60->fo L s (b s)/\mE [aS L,af s]=some (bT (b s)):=⟨λs=>Classical.choose (hw s),λs=>Classical.choose_spec (hw s)⟩
 have n:∀s∈aL (K++S),s.1<60:=λs hs=>by
  rcases(i s).mp hs with h|h
  .exact Y _ h
  .exact R _ h
 have hso:=ng (c:=.lst ((K++S).map nD)) (B:=K++S) rfl (by rw[qz];ac_nf);generalize aL (K++S)=A at *
 have p:dV L A b:=⟨I,λs hs=>(V s (n s hs)).1⟩
 have Z:cu (.lst (K.map nD)) (.lst (S.map nD))=some ((K++S).map nD):=by rw[kM (by simp;ac_nf),wt]
 have hcm:=bV (fe:=q0) (r:=[↑(aS L)]) (enc:=af) (λs=>.tup [af s,bT (b s)]) (l:=A) (λs hs=>by
  have:=(V s (n s hs)).2;generalize bT (b s)=w1,af s=ds,aS L=bk at *
  simp[q0,this])
 have hpt:FV (.lst (A.map λs=>.tup [af s,bT (b s)]))=some (A.map λs=>(af s,bT (b s))):=RA b A
 have hk1:(A.map λs=>(af s,bT (b s))).map (·.1)=A.map af:=by rw[Qf];rfl
 have hk2:(A.map λs=>(af s,bT (b s))).map (·.2)=A.map λs=>bT (b s):=by rw[Qf];rfl
 have hkn:(A.map kN).Nodup:=by
  rw[List.Nodup,List.pairwise_map];exact I.imp λhab e=>hab (lC e)
 have hst0:Yd 8 [aS L,c,.int (st:Int)]=[↑(aS L),↑c,↑(.int st),none,none,none,none,none]:=rfl;rw[q_,Ye (by rfl),hst0]
 have U:iF 5 (lF (Yv (b1 (cC (Yb (lF (b2 (aa 3) (aa 4) cu)) ae) y8) Yc) [none,some 0] (aj 0) tY (q0))) [↑(aS L),↑c,↑(.int st),↑(.lst (K.map nD)),↑(.lst (S.map nD)),none,none,none] =
  some (.nx [↑(aS L),↑c,↑(.int st),↑(.lst (K.map nD)),↑(.lst (S.map nD)),some (.od true (A.map af) (A.map λs=>bT (b s))),none,none]):=by
  have q:(lF (Yv (b1 (cC (Yb (lF (b2 (aa 3) (aa 4) cu)) ae) y8) Yc) [none,some 0] (aj 0) tY (q0))) [↑(aS L),↑c,↑(.int st),↑(.lst (K.map nD)),↑(.lst (S.map nD)),none,none,none]=some (.lst (A.map λs=>.tup [af s,bT (b s)])):=by
   generalize (A.map λs=>D.tup [af s,bT (b s)])=A2,A.map af=A1,(K++S).map nD=KS,K.map nD=KK,S.map nD=SS,aS L=bk at *;simp[Z,hso,ao,hcm]
  rw[Oh,q,qd,hpt,qd,hk1,nc,qd,if_pos ⟨by rw[qf];show A.length<1000000;ac_nf,hkn⟩,hk2];rfl
 have pre:wR [↑(aS L),↑c,↑(.int st),none,none,none,none,none]=mN [↑(aS L),↑c,↑(.int st),↑(.lst (K.map nD)),↑(.lst (S.map nD)),some (.od true (A.map af) (A.map λs=>bT (b s))),none,none]:=by
  generalize (A.map λs=>bT (b s))=A2,A.map af=A1,K.map nD=KK,S.map nD=SS,aS L=bk at *;simp[wR,H,Q,U,-mN,-Oh]
 rw[pre];have hsp:=Ytu hL f N t o i hAl p;have hfz:∀y6 y7:Option M.B,frz [5] [↑(aS L),↑c,↑(.int st),↑(.lst (K.map nD)),↑(.lst (S.map nD)),some (.od true (A.map af) (A.map λs=>bT (b s))),y6,y7]=[↑(aS L),↑c,↑(.int st),↑(.lst (K.map nD)),↑(.lst (S.map nD)),↑(aU A b),y6,y7]:=λ_ _=>rfl
 have h3:∀d,mM [aS L,aU A b,.lst (K.map nD),.lst (S.map nD)]=some d->mN [↑(aS L),↑c,↑(.int st),↑(.lst (K.map nD)),↑(.lst (S.map nD)),some (.od true (A.map af) (A.map λs=>bT (b s))),none,none]=wQ [↑(aS L),↑c,↑(.int st),↑(.lst (K.map nD)),↑(.lst (S.map nD)),↑(aU A b),↑d,none]:=λd hd=>by
  rw[mN,iB,kI,hfz];generalize aU A b=ws,K.map nD=KK,S.map nD=SS,aS L=bk at *;simp[hd,-wQ]
 rcases hsp with⟨d,hd,e⟩|⟨nb,e⟩
 .refine .inl ⟨d,hd,?_⟩
  rw[h3 d e]
  obtain⟨l,rfl⟩:∃l,d=.tup l:=by
   rcases hd with hd|⟨_,hd⟩
   .exact jH hd
   .exact⟨_,hd⟩
  generalize aU A b=ws at *;constructor<;>ac_nf
 .obtain⟨B,w,t0,p2,kd,etr⟩:=Yxh hL N t nb i p
  have m:∀k,∃r:c9,k∈K->_:=λk=>by
   by_cases j:k∈K
   .obtain⟨r,hr⟩:=y7i hL t i p t0 j (kd k j)
    exact⟨r,λ_=>hr⟩
   .exact⟨(0,none,false),λz=>absurd z j⟩
  obtain⟨g,u⟩:∃g:Nat->c9,∀k∈K,(g k).1=k/\((∃s,bS L S k s/\(g k).2=(some s.1,s.2))\/(loose L S k/\(g k).2=(none,(b7 B w k).getD false)))/\qZ [.int (k:Int),aU A b,.lst (S.map nD),.dct false (B.map D.int) (w.map D.bl)]=some (aT (g k)):=⟨λk=>Classical.choose (m k),λk=>Classical.choose_spec (m k)⟩
  refine .inr ⟨K.map g,Ks hL G F nb (τ:=λk=>(b7 B w k).getD false) ⟨?_,λr hr=>?_⟩ (Kz p2 kd),?_⟩
  .rw[Qf]
   exact(Qq λk j=>(u k j).1).trans (List.map_id K)
  .obtain⟨k,j,rfl⟩:=qy hr
   obtain⟨g1,g2,_⟩:=u k j;rw[g1];exact g2
  .rw[h3 .non e]
   have hc1:=bV (fe:=Hq) (r:=[↑(aU A b),↑(.lst (S.map nD)),↑(.dct false (B.map D.int) (w.map D.bl))]) (enc:=nD) (λk=>aT (g k)) (l:=K) (λk j=>by
    have:=(u k j).2.2;generalize aU A b=ws,aT (g k)=pr,S.map nD=SS,B.map D.int=NN,w.map D.bl=VV at *
    simp[Hq,this])
   have e5:(K.map λk=>aT (g k))=(K.map g).map aT:=by rw[Qf];rfl
   rw[e5]at hc1;unfold jI;generalize (K.map g).map aT=RW,aU A b=ws,S.map nD=SS,K.map nD=KK,B.map D.int=NN,w.map D.bl=VV,aS L=bk at *;simp[etr,ao,hc1,bE]
def InE.rl{L:AW}{st n:Nat}(h:InE L st n):∀r∈L.map Rl.ei,In .e n r/\eB r:=λr b=>by
 obtain⟨l,a,rfl⟩:=qy b;exact⟨⟨rfl,λs c=>((h l a).2 s c).2⟩,(h l a).1⟩
def KY{L:AW}{s t:aH}{r:AX}(h:cI L s t r):aY (r.map af) 0=some (af s)/\aY (r.map af) (-1)=some (af t):=by
 have p:=r0 h.ok;exact⟨by rw[Jt p,h.fst],by rw[Js p,h.lst]⟩
theorem sU(f:∀l∈L,eG l)(h:cI L s t r):Rch L s t:=by
 have j:=r0 h.ok
 have a:∀i,i+1<r.length->_:=λi c=>by
  have g:=h.ok;unfold fM at g;rw[Qe,List.all_eq_true]at g;exact wq (g.2 i (List.mem_range.mpr (by grind)))
 have b:∀i,i<_->Rch L s (cY r i):=λi=>by
  induction i with
  | zero=>
    intro _;rw[h.fst];exact .refl
  | succ i d=>
    intro c;exact .step (d (by lia)) ((lD f).mp (a i c))
 have g:=b (r.length-1) (by omega);have e:=h.lst;unfold iO at e
 rwa [e]at g
def y7j(b:∀l∈L,eG l)(h:sP L K S d):cy L K S:=by
 rcases h with h|⟨h,_⟩
 .cases h with
  | clash c a=>exact .clash _ (sU b c) (sU b a)
  | cross c a e f=>exact .cross _ _ c a e (sU b f)
  | late c a e f g=>exact .late _ _ c a e (sU b f) (sU b g)
 .exact .broken h
theorem y3a{L:AW}(m:L.length<=1000){K S:AE}{a b:aH}(l:a.1∈S)(hb:b.1∈S)(d:a≠b){out:AX}(c:cI L a b out):
 Yo [m4 "cross" [.tup (out.map af)],aS L,.lst (K.map nD),.lst (S.map nD)]=some (.bl true):=by
 have e:=Jr m (c:=.tup (out.map _)) rfl (by have:=c.len;ac_nf);rw[c.ok]at e;obtain⟨n,j⟩:=KY c;have f:=mY false a b;simp [d,Qo,if_false]at f;have g:=cG (c:=.lst _) a.1 S false rfl;have h:=cG (c:=.lst _) b.1 S false rfl;simp [l,hb,if_false]at g h
 have k:v8 [.tup (out.map af),aS L,.lst (S.map nD)]=some (.bl true):=by
  rw[v8,Ye (by rfl)];simp[O5,Yd,e,n,j,f,g,h]
 have o:=Yu (a:="cross") (b:="clash") (by decide +kernel) false;have i:=cX "cross" false;rw[Yo,Ye (by rfl)];simp[wH,Yd,o,i,k]
theorem RC{L:AW}(f:L.length<=1000){a b:aH}{out c:AX}(d:cI L a b out)(hb:cI L b a c):Yx [aS L,.tup (out.map af),.tup (c.map af)]=some (.bl true):=by
 have g:=Ju f (o:=out) (k:=c) (co:=.tup _) (ck:=.tup _) rfl rfl (by have:=d.len;ac_nf) (by have:=hb.len;ac_nf)
 have e:there L out c=true:=by
  unfold there;rw[d.ok,hb.ok,d.lst,hb.fst,hb.lst,d.fst];simp
 rwa [e]at g
theorem y7k{L:AW}(r:L.length<=1000){K S:AE}{a b:aH}(p:a.1∈S)(e:b.1∈K)(k:b.1<a.1){out c:AX}(h:cI L a b out)(hb:cI L b a c):
 Yo [m4 "late" [.tup (out.map af),.tup (c.map af)],aS L,.lst (K.map nD),.lst (S.map nD)]=some (.bl true):=by
 have q:=RC r h hb;obtain⟨u,v⟩:=KY h;have t:Yc (af a)=_:=rfl;have i2:Yc (af b)=_:=rfl;have j:∀x y z:D,_=some y:=λ_ _ _=>rfl;have f:∀x y z:D,aY [x,y,z] 2=some z:=λ_ _ _=>rfl;rw[Yo,Ye (by rfl)];have g:=cG (c:=.lst _) a.1 S false rfl;have i:=cG (c:=.lst _) b.1 K false rfl;simp [nD,p,e,decide_true,if_false]at g i
 have d:(b.1:Int)<a.1:=by ac_nf
 have n:v9 [.tup (out.map af),.tup (c.map af),aS L,.lst (K.map nD),.lst (S.map nD)]=some (.bl true):=by
  rw[v9,Ye (by rfl)];simp[O6,Yd,q,u,v,t,g,i,d]
 have m:=Yu (a:="late") (b:="clash") (by decide +kernel) false;have o:=Yu (a:="late") (b:="cross") (by decide +kernel) false;have s:=cX "late" false;have l:Yc (m4 "late" [.tup (out.map af),.tup (c.map af)])=_:=rfl;simp[wH,Yd,m,o,s,f,n]
theorem y3b{L:AW}(e:L.length<=1000){K S:AE}{a:aH}{out b:AX}(d:cI L a (aR a) out)(hb:cI L (aR a) a b):
 Yo [m4 "clash" [.tup (out.map af),.tup (b.map af)],aS L,.lst (K.map nD),.lst (S.map nD)]=some (.bl true):=by
 obtain⟨f,g⟩:=KY d;have c:∀x y z:D,aY [x,y,z] 2=some z:=λ_ _ _=>rfl
 have h:v7 [.tup (out.map af),.tup (b.map af),aS L]=some (.bl true):=by
  rw[v7,Ye (by rfl)];simp[O4,Yd,RC e d hb,f,g,rG a,mY false (aR a) (aR a)]
 rw[Yo,Ye (by rfl)];simp[wH,Yd,cX "clash" false,c,h]
theorem y3c{L:AW}(b:L.length<=1000){hs:AG}(k:hs.length<=60){st:Nat}(a:st<=hs.length)(f:InE L st hs.length){d:D}(h:sP L (aw hs st true) (aw hs st false) d):
 y2 [d,aS L,.tup (hs.map aE),.int st]=some (.bl true):=by
 rcases h with h|⟨h,rfl⟩
 .rw[<-lp]
  cases h with
  | clash c e=>exact Jv rfl ∅ a (by unfold xD;decide +kernel) (by rw[lp];exact y3b b c e)
  | cross c e j i=>exact Jv rfl ∅ a (by unfold xD;decide +kernel) (by rw[lp];exact y3a b c e j i)
  | late c e j i l=>exact Jv rfl ∅ a (by unfold xD;decide +kernel) (by rw[lp];exact y7k b c e j i l)
 .have g:=ZV f.rl k (c:=.tup _) rfl ∅ a
  rwa [Rm,wn h,lp]at g
theorem y3d{L:AW}{hs:AG}(p:hs.length<=60){st:Nat}(c:st<=hs.length){rows:List c9}(h:fw L (aw hs st true) (aw hs st false) rows):
 iK [.tup (jI rows),aS L,.tup (hs.map aE),.int st]=some (.bl true):=by
 have a:=Yi (c:=.tup _) hs rfl ∅ st c true;have d:=Yi (c:=.tup _) hs rfl ∅ st c false;simp [aE,if_true,if_false]at a d;have b:(aw hs st true).Pairwise _:=.filter _ List.pairwise_lt_range;have n:(aw hs st true).length<=60:=Qg (Qn _ _) (by simpa using p)
 have f:rows.length<=1000:=by
  have g:=congrArg List.length h.ks;simp at g;ac_nf
 have k:=Z8 f L (b.imp λh=>qm h) (aw hs st false)
 have j:lq rows L (aw hs st true) (aw hs st false)=true:=by
  unfold lq;rw[Qe,Qe,wm,List.all_eq_true,List.all_eq_true];exact⟨⟨h.ks,h.row⟩,h.kept⟩
 rw[j,lp]at k;rw[iK,Ys,Ye (by rfl)];have l:=cX "plan" false;have o:=Yu (a:="eithers") (b:="nots") (by decide +kernel) false;have m:=cX "eithers" false;have e:Yc (aS L)=some [.str "eithers",_]:=rfl;have i:Yc (.tup (jI rows))=some [_,_]:=rfl;simp[rm,Yd,e,i,a,d,l,o,m,k]
theorem eH{j:Nat}{l:AN}(h:∀d∈l,Yj j [d]=some (.bl true)):Yj (j+1) [.tup l]=some (.bl true):=by
 have b:=bV (fe:=Ig (Yj j)) (r:=[]) (enc:=λd=>d) (λ_=>.bl true) (l:=l) (λd hd=>by simp[Ig,h d hd]);rw[List.map_id']at b
 have a:(l.map λ_=>true).all id=true:=by rw[List.all_map];exact List.all_eq_true.mpr λ_ _=>rfl
 rw[Yj,Ye (by rfl)];simp[mV,Yd,bZ,d4,fE,ao,b,fY (λ_=>true) l,a]
def jJ(j:Nat)(i:Int):Yj (j+1) [.int i]=some (.bl true):=by
 rw[Yj,Ye (by rfl)];simp[mV,Yd,bZ,d4,fE]
def lI(j:Nat)(b:Bool):Yj (j+1) [.bl b]=some (.bl true):=by
 rw[Yj,Ye (by rfl)];simp[mV,Yd,bZ,d4,fE]
def nh(j:Nat)(s:Str):Yj (j+1) [.str s]=some (.bl true):=by
 rw[Yj,Ye (by rfl)];simp[mV,Yd,bZ,d4,fE,cj,i7]
def iV(j:Nat)(l:AE):Yj (j+2) [.tup (l.map nD)]=some (.bl true):=eH λd hd=>by
 obtain⟨x,_,rfl⟩:=qy hd;exact jJ j x
def sV(j:Nat):Yj (j+1) [.non]=some (.bl true):=by
 rw[Yj,Ye (by rfl)];simp[mV,Yd,bZ,d4,fE]
def sW(j:Nat)(l:AF):Yj (j+2) [.tup (l.map D.int)]=some (.bl true):=eH λd hd=>by
 obtain⟨x,_,rfl⟩:=qy hd;exact jJ j x
def KZ(j:Nat)(s:aH):Yj (j+2) [af s]=some (.bl true):=eH λd hd=>by
 rcases qu hd with rfl|hd
 .exact jJ j _
 .rw[List.mem_singleton]at hd
  subst hd;exact lI j _
def K0(j:Nat)(r:AX):Yj (j+3) [.tup (r.map af)]=some (.bl true):=eH λd hd=>by
 obtain⟨s,_,rfl⟩:=qy hd;exact KZ j s
def y7l(rows:List c9):gz [.tup (jI rows)]=some (.bl true):=by
 refine eH λd hd=>?_;rcases qu hd with rfl|hd
 .exact nh 10 _
 .rw[List.mem_singleton]at hd
  subst hd;refine eH λd hd=>?_;obtain⟨r,_,rfl⟩:=qy hd;refine eH λd hd=>?_;rcases qu hd with rfl|hd
  .exact jJ 8 _
  .rcases qu hd with rfl|hd
   .cases r.2.1 with
    | none=>exact sV 8
    | some x=>exact jJ 8 _
   .rw[List.mem_singleton]at hd
    subst hd;exact lI 8 _
def xV(x:Str)(a:AW):gz [.tup (.str x::a.map λr=>.tup (r.map af))]=some (.bl true):=by
 refine eH λd hd=>?_;rcases qu hd with rfl|hd
 .exact nh 10 _
 .obtain⟨r,_,rfl⟩:=qy hd
  exact K0 8 r
theorem y3e(rows:List c9):Ym [.tup (jI rows)]=some (.bl true):=by
 have b:Yc (.tup (jI rows))=some [_,_]:=rfl
 have a:(rows.map λ_=>true).all id=true:=by rw[List.all_map];exact List.all_eq_true.mpr λ_ _=>rfl
 rw[Ym,Ye (by rfl)]
 simp[jz,Yd,b,cX "plan" false,ao,bV (fe:=rB) (r:=[]) (enc:=aT) (λ_=>.bl true) (l:=rows) (λr _=>by
  simp[rB,r9,bZ,d4,fE]),fY (λ_=>true) rows,a]
def K1(a:D)(l:AN):cL (a::l) (some 1) none=l:=by
 unfold cL
 have d:HT.sIx (a::l).length 0 (some 1)=1:=by simp[HT.sIx]
 have c:HT.sIx (a::l).length (a::l).length none=_+1:=rfl;rw[d,c];simp
theorem K3{x:String}(e:x="clash"\/x="cross"\/x="late")(b:AW):Ym [.tup (.str (Str.ofString x)::b.map λr=>.tup (r.map af))]=some (.bl true):=by
 have g:az false (.str (.ofString x)) (.str "plan")=some false:=by
  rcases e with rfl|rfl|rfl<;>exact Yu (by decide +kernel) false
 have j:az false (.str (.ofString x)) (.str "sums")=some false:=by
  rcases e with rfl|rfl|rfl<;>exact Yu (by decide +kernel) false
 have i:cb false (.str (.ofString x)) (.lst [.str "clash",.str "cross",.str "late"])=some true:=by
  rcases e with rfl|rfl|rfl<;>decide +kernel
 have d:∀r:AX,Ii [↑(.tup (r.map af))]=some (.bl true):=λr=>by
  have f:=bV (fe:=Ih) (r:=[]) (enc:=af) (λ_=>.bl true) (l:=r) (λs _=>by
   have h:Yc (af s)=_:=rfl
   simp[Ih,h,bZ,d4,fE])
  have c:=fY (λ_:aH=>true) r
  have a:(r.map λ_=>true).all id=true:=by rw[List.all_map];exact List.all_eq_true.mpr λ_ _=>rfl
  simp[Ii,ao,f,c,a]
 have f:=bV (r:=[]) _ (l:=b) (λr _=>d r);have c:=fY (λ_:AX=>true) b
 have a:(b.map λ_=>true).all id=true:=by rw[List.all_map];exact List.all_eq_true.mpr λ_ _=>rfl
 rw[Ym,Ye (by rfl)];simp[jz,Yd,g,j,i,K1,ao,f,c,a]
theorem Yxi:Ym [.tup [.str "broken"]]=some (.bl true):=by
 have a:cb false (.str "broken") (.lst [.str "clash",.str "cross",.str "late"])=some false:=by decide +kernel
 rw[Ym,Ye (by rfl)];simp[jz,Yd,Yu (a:="broken") (b:="plan") (by decide +kernel) false,Yu (a:="broken") (b:="sums") (by decide +kernel) false,a]
def y3f{L:AW}{K S:AE}{d:D}(h:sP L K S d):∃pl,d=.tup pl/\gz [.tup pl]=some (.bl true)/\Ym [.tup pl]=some (.bl true):=by
 rcases h with h|⟨h,rfl⟩
 .cases h with
  | @clash s a b c e=>exact⟨_,rfl,xV _ [a,b],K3 (.inl rfl) [a,b]⟩
  | @cross s t a c e f g=>exact⟨_,rfl,xV _ [a],K3 (.inr (.inl rfl)) [a]⟩
  | @late s t a b c e f g i=>exact⟨_,rfl,xV _ [a,b],K3 (.inr (.inr rfl)) [a,b]⟩
 .exact⟨_,rfl,xV _ [],Yxi⟩
theorem ni{pl:AN}{bk c:D}{st:Int}(w:Bool)(b:gz [.tup pl]=some (.bl true))(d:Ym [.tup pl]=some (.bl true))(e:(w=true->y2 [.tup pl,bk,c,.int st]=some (.bl true))/\(w=false->iK [.tup pl,bk,c,.int st]=some (.bl true))):
 iM [bE w (.tup pl),bk,c,.int st]=some (.bl true):=by
 have k:=Yu (a:="storm") (b:="keeper") (by decide +kernel) false;have f:=Yu (a:="storm") (b:="keeper") (by decide +kernel) true;have i:=cX "storm" true;have j:=cX "keeper" true;have g:=cX "keeper" false
 cases w with
 | true=>
   have h:=e.1 rfl
   have a:mU [.tup pl,bk,c,.int st,.str "storm"]=some (.bl true):=by
    rw[mU,Ye (by rfl)];simp[k9,Yd,k,h]
   rw[iM,Ye (by rfl)];simp[Ij,Yd,bE,bZ,d4,fE,f,i,b,d,a,cv]
 | false=>
   have h:=e.2 rfl
   have a:mU [.tup pl,bk,c,.int st,.str "keeper"]=some (.bl true):=by
    rw[mU,Ye (by rfl)];simp[k9,Yd,g,h]
   rw[iM,Ye (by rfl)];simp[Ij,Yd,bE,bZ,d4,fE,j,b,d,a,cv]
def K4(W:AE):gz [.tup [.str "odd",.tup (W.map nD)]]=some (.bl true):=by
 refine eH λd hd=>?_;rcases qu hd with rfl|hd
 .exact nh 10 _
 .rw[List.mem_singleton]at hd
  subst hd;exact iV 9 W
def y7m(rows:List b_):gz [.tup [.str "sums",.tup (rows.map aF)]]=some (.bl true):=by
 refine eH λd hd=>?_;rcases qu hd with rfl|hd
 .exact nh 10 _
 .rw[List.mem_singleton]at hd
  subst hd;refine eH λd hd=>?_;obtain⟨r,_,rfl⟩:=qy hd;refine eH λd hd=>?_;rcases qu hd with rfl|hd
  .exact jJ 8 _
  .rcases qu hd with rfl|hd
   .exact iV 7 _
   .rw[List.mem_singleton]at hd
    subst hd;exact lI 8 _
theorem y7n(x:D):Ym [.tup [.str "odd",x]]=some (.bl true):=by
 have a:cb false (.str "odd") (.lst [.str "clash",.str "cross",.str "late"])=some false:=by decide +kernel
 rw[Ym,Ye (by rfl)];simp[jz,Yd,Yu (a:="odd") (b:="plan") (by decide +kernel) false,Yu (a:="odd") (b:="sums") (by decide +kernel) false,a]
theorem y3g(rows:List b_):Ym [.tup [.str "sums",.tup (rows.map aF)]]=some (.bl true):=by
 have a:(rows.map λ_=>true).all id=true:=by rw[List.all_map];exact List.all_eq_true.mpr λ_ _=>rfl
 rw[Ym,Ye (by rfl)]
 simp[jz,Yd,Yu (a:="sums") (b:="plan") (by decide +kernel) false,cX "sums" false,ao,bV (fe:=rB) (r:=[]) (enc:=aF) (λ_=>.bl true) (l:=rows) (λr _=>by
  simp[rB,se,bZ,d4,fE]),fY (λ_=>true) rows,a]
theorem y3h{R:List Sm}{c:D}{hs:AG}(u:Yc c=some (hs.map aE))(v:hs.length<=60){st:Nat}(f:st<=hs.length){rows:List b_}(h:gF R (aw hs st true) (aw hs st false) rows):
 iK [.tup [.str "sums",.tup (rows.map aF)],d5 R,c,.int st]=some (.bl true):=by
 have b1:=Yi hs u ∅ st f true;have b2:=Yi hs u ∅ st f false;simp only[aE,if_true,Qo,if_false]at b1 b2;have d:(aw hs st true).Pairwise (·<·):=.filter _ List.pairwise_lt_range;have j:=d.imp λh=>qm h
 have m:rows.length<=1000:=by
  have g:=congrArg List.length h.ks;have t:(aw hs st true).length<=60:=Qg (Qn _ _) (by simpa using v);simp at g;ac_nf
 have b:=λr a y i=>Qi (g8 ((h.row r a).2.2 y i).1) v
 have w:=y20 m (λr a=>⟨by
  have:=xA ((h.row r a).2.1.imp λh=>qm h) (b r a)
  ac_nf,b r a⟩) R j (aw hs st false)
 have n:lr rows R (aw hs st true) (aw hs st false)=true:=by
  unfold lr;rw[Qe,Qe,wm,List.all_eq_true,List.all_eq_true];refine⟨⟨h.ks,λr a=>?_⟩,λq x=>?_⟩
  .obtain⟨_,A,t⟩:=h.row r a
   unfold g7 gB;rw[Qe,List.all_eq_true];refine⟨wn A,λy i=>?_⟩;obtain⟨k,C⟩:=t y i;simp[k,C]
  .obtain⟨p,s,rfl⟩:=List.mem_iff_getElem.mp x
   have e:rg R p=R[p]:=by
    unfold rg;rw[List.getD_eq_getElem?_getD,qr s];rfl
   have:=h.kept p s;rw[e]at this;exact kept_kp.mpr this
 rw[n]at w;have l:rd [_,d5 R,_,_]=_:=w;rw[iK,Ys,Ye (by rfl)];have B:=Yu (a:="sums") (b:="plan") (by decide +kernel) false;have z:=cX "sums" false;have k:=Yu (a:="sums") (b:="nots") (by decide +kernel) false;have o:Yc (d5 R)=some _:=rfl;simp[rm,Yd,o,b1,b2,B,z,k,l]
theorem K5{R:List Sm}(d:R.length<=60){c:D}{hs:AG}(b:Yc c=some (hs.map aE))(e:hs.length<=60){st:Nat}(a:st<=hs.length){W:AH}(h:fP R (aw hs st false) W):
 y2 [.tup [.str "odd",.tup ((fl 60 W).map nD)],d5 R,c,.int st]=some (.bl true):=by
 have b1:=Yi hs b ∅ st a true;have b2:=Yi hs b ∅ st a false;simp [aE,Qo]at b1 b2;rw[y2,Yp,Ye (by rfl)];simp[kW,Yd,b1,b2,Yu (a:="odd") (b:="broken") (by decide +kernel) false,cX "odd" false,Yu (a:="sums") (b:="nots") (by decide +kernel) false,Yu (a:="sums") (b:="eithers") (by decide +kernel) false,cX "sums" false,y24 d h]
def y7o(b:AL)(is js:AF):gz [.tup (fQ b is js)]=some (.bl true):=by
 refine eH λd hd=>?_;rcases qu hd with rfl|hd
 .exact nh 10 _
 .rcases qu hd with rfl|hd
  .cases b with
   | none=>exact sV 10
   | some x=>exact jJ 10 _
  .rcases qu hd with rfl|hd
   .exact sW 9 is
   .rw[List.mem_singleton]at hd
    subst hd;exact sW 9 js
def y7p(first:AE)(rows:List er):gz [.tup (lz first rows)]=some (.bl true):=by
 refine eH λd hd=>?_;rcases qu hd with rfl|hd
 .exact nh 10 _
 .rcases qu hd with rfl|hd
  .exact iV 9 _
  .rw[List.mem_singleton]at hd
   subst hd;refine eH λd hd=>?_;obtain⟨r,_,rfl⟩:=qy hd;refine eH λd hd=>?_;rcases qu hd with rfl|hd
   .exact jJ 8 _
   .rw[List.mem_singleton]at hd
    subst hd;exact iV 7 r.2
theorem y3i(b:AL)(is js:AF):Ym [.tup (fQ b is js)]=some (.bl true):=by
 have a:cb false (.str "lone") (.lst [.str "clash",.str "cross",.str "late"])=some false:=by decide +kernel
 have c:Yc (.tup (fQ b is js))=some (_::_):=rfl;rw[Ym,Ye (by rfl)];simp[jz,Yd,c,Yu (a:="lone") (b:="plan") (by decide +kernel) false,Yu (a:="lone") (b:="sums") (by decide +kernel) false,a]
theorem y3j(first:AE)(rows:List er):Ym [.tup (lz first rows)]=some (.bl true):=by
 have a:cb false (.str "rows") (.lst [.str "clash",.str "cross",.str "late"])=some false:=by decide +kernel
 have b:Yc (.tup (lz first rows))=some (_::_):=rfl;rw[Ym,Ye (by rfl)];simp[jz,Yd,b,Yu (a:="rows") (b:="plan") (by decide +kernel) false,Yu (a:="rows") (b:="sums") (by decide +kernel) false,a]
def sX{n x:Nat}{l:AE}(h:x<n):at' (cg n l) x=decide (x∈l):=by
 unfold at' cg;rw[List.getD_eq_getElem?_getD,Qm,List.getElem?_range h];rfl
def K6{n:Nat}{l:AE}{r:a_}(hb:∀x∈r.1,x<n)(d:∀x,r.2=some x->x<n)(h:Hl l r):so .i (cg n l) (m5 r)=true:=by
 show(_||_)=true
 cases a:r.1.any _ with
 | true=>rfl
 | false=>
   obtain⟨y,e,c⟩:=h (λx b=>by
    rw[List.any_eq_false]at a;have:=a x b;rw[sX (hb x b)]at this
    simpa using this)
   rw[e];show(_==_)=true;rw[sX (d y e),wn c];rfl
def sY{n:Nat}{l:AE}{R:List a_}{st:Nat}(a:ly R st n)(h:∀q∈R,Hl l q):brk .i (cg n l) (R.map m5)=[]:=by
 unfold brk;rw[List.filter_eq_nil_iff];intro i d;obtain⟨r,c,e⟩:=qy (Od (Qb d));rw[<-e,K6 (λx b=>((a r c).2.1 x b).2) (λx b=>((a r c).2.2 x b).2) (h r c)];exact qi
theorem y0t(j:Nat){R:List a_}{hs:AG}(C:hs.length<=60){st:Nat}(p:st<=hs.length)(i:ly R st hs.length){first:AE}{rows:List er}(h:eu R (aw hs st true) (aw hs st false) first rows):
 Ys (j+1) [.tup (lz first rows),Yr R,.tup (hs.map aE),.int st]=some (.bl true):=by
 have b1:=Yi (c:=.tup (hs.map aE)) hs rfl ∅ st p true;have b2:=Yi (c:=.tup (hs.map aE)) hs rfl ∅ st p false;simp only[aE,if_true,Qo,if_false]at b1 b2;have I:(aw hs st false).length<=60:=Qg (Qn _ _) (by simpa using C);have f:∀x∈aw hs st true,x<60:=λx k=>Qi (g8 k) C
 have m:∀l:AE,l.Pairwise (·<·)->(∀y∈l,y∈aw hs st true)->l.length<=100:=λl B A=>by
  have:=lh 60 l (B.imp λh=>qm h) (λx k=>f x (A x k));ac_nf
 have z:rows.length<=100:=by
  have g:=congrArg List.length h.rs;simp at g;ac_nf
 have t:∀r∈R.map m5,In .i hs.length r:=λr d=>by
  obtain⟨q,F,rfl⟩:=qy d;exact⟨.inl rfl,λx k=>((i q F).2.1 x k).2,λx k=>((i q F).2.2 x k).2⟩
 have E:=y21 (first:=first) (λx k=>f x (h.fK.2 x k)) (m first h.fK.1 h.fK.2) (rows:=rows) z (λr d=>⟨m r.2 (h.rK r d).1 (h.rK r d).2.1,λy v=>f y ((h.rK r d).2.1 y v)⟩) (n:=hs.length) ∅ t (aw hs st true) (S:=aw hs st false) ∅
 have o:iQ first rows (R.map m5) (aw hs st true) (aw hs st false) hs.length=true:=by
  have e:∀l:AE,l.Pairwise (·<·)->(∀y∈l,y∈aw hs st true)->jE l (aw hs st true)=true:=λl B A=>by
   unfold jE gB;rw[Qe,List.all_eq_true];exact⟨wn B,λy v=>wn (A y v)⟩
  unfold iQ;rw[Qe,Qe,Qe,wm,List.all_eq_true,List.all_eq_true];refine⟨⟨⟨e first h.fK.1 h.fK.2,h.rs⟩,λr d=>?_⟩,λl s=>?_⟩
  .unfold dU
   rw[Qe,wm];exact⟨e r.2 (h.rK r d).1 (h.rK r d).2.1,(h.rK r d).2.2⟩
  .rw[wm]
   unfold dq at s;rcases qu s with rfl|s
   .exact sY i h.h0
   .obtain⟨r,d,rfl⟩:=qy s
    exact sY i (h.hb r d)
 rw[o,Jx]at E;clear o h m;rw[Ys,Ye (by rfl)];have K:=Yu (a:="rows") (b:="plan") (by decide +kernel) false;have H:=Yu (a:="rows") (b:="sums") (by decide +kernel) false;have M:=cX "rows" false;have J:=Yu (a:="ifs") (b:="nots") (by decide +kernel) false;have L:=cX "ifs" false;have w:=IJ R;have u:Yc (.tup (lz first rows))=some [.str "rows",.tup (first.map nD),.tup (rows.map bM)]:=rfl;have G:∀a b c:D,aY [a,b,c] 2=some c:=λa b c=>rfl
 have n:((hs.map aE).length:Int)=(hs.length:Int):=by simp
 generalize Yr R=O,hs.map aE=N at *;simp[rm,Yd,w,u,b1,b2,K,H,M,J,L,G,n,E]
theorem y3k(j:Nat){R:List a_}{hs:AG}(g:hs.length<=60){st:Nat}(a:st<=hs.length)(d:ly R st hs.length){b:AL}{is js:AF}(h:gG R (aw hs st true) (aw hs st false) b is js):
 Yp (j+1) [.tup (fQ b is js),Yr R,.tup (hs.map aE),.int st]=some (.bl true):=by
 have n:(aw hs st false).length<=60:=Qg (Qn _ _) (by simpa using g);have q:(aw hs st true).length<=60:=Qg (Qn _ _) (by simpa using g);have i:=Z2 R ∅ (λr t x c=>((d r t).2.2 x c).2) (Kp:=aw hs st true) (S:=aw hs st false) (λx c=>g8 c) (λx c=>g8 c) ∅ ∅ b (is:=is) (js:=js) (by have:=h.2.1;ac_nf) (by have:=h.2.2;ac_nf);rw[h.1]at i;have e:qS [.tup (fQ b is js),_,_,_]=_:=i;have b1:=Yi (c:=.tup _) hs rfl ∅ st a true;have b2:=Yi (c:=.tup _) hs rfl ∅ st a false;simp [aE,if_true,Qo,if_false]at b1 b2;rw[Yp,Ye (by rfl)];have l:=Yu (a:="lone") (b:="broken") (by decide +kernel) false;have u:=Yu (a:="lone") (b:="odd") (by decide +kernel) false;have m:=cX "lone" false;have p:=Yu (a:="ifs") (b:="nots") (by decide +kernel) false;have k:=Yu (a:="ifs") (b:="eithers") (by decide +kernel) false;have s:=cX "ifs" false;have o:=IJ R;have f:Yc (.tup (fQ b is js))=some (_::_):=rfl;simp[kW,Yd,f,b1,b2,l,u,m,p,k,s,e]
noncomputable def iW:Rl->AX
 | .ei l=>l
 | _=>[]
noncomputable def toS:Rl->Sm
 | .su b o=>(λx=>decide (x∈b),o)
 | _=>(λ_=>false,false)
noncomputable def f7:Rl->a_
 | .im b h=>(b,h)
 | _=>([],none)
def Dr(k:Kd)(st n:Nat)(r:Rl):Prop:=In k n r/\eB r/\∀x∈fL r,st<=x
def sZ:Kd->List Rl->AE->AE->Bool->Prop
 | .e,R,K,S,true=>cy (R.map iW) K S
 | .e,R,K,S,false=>∃a,fw (R.map iW) K S a
 | .s,R,_,S,true=>∃W,fP (R.map toS) S W
 | .s,R,K,S,false=>∃a,gF (R.map toS) K S a
 | _,R,K,S,true=>∃b d c,iP (R.map f7) K S b d c=true
 | _,R,K,S,false=>∃f a,eu (R.map f7) K S f a
theorem K7(h:p<R.length):rg R p∈R:=by
 unfold rg
 ext
theorem K8(h:∀r∈R,Dr .e st n r):InE (R.map iW) st n/\bq .e R=aS (R.map iW):=by
 have i:∀r∈R,r=.ei (iW r):=λr a=>by
  cases r with
  | ei l=>rfl
  | su b o=>cases (h _ a).1.1
  | im b o=>rcases(h _ a).1.1 with z|z<;>cases z
 refine⟨λl g=>?_,?_⟩
 .obtain⟨r,a,rfl⟩:=qy g
  obtain⟨f,c,d⟩:=h r a;rw[i r a]at f c d;exact⟨c,λs e=>⟨d s.1 (List.mem_map.mpr ⟨s,e,rfl⟩),f.2 s e⟩⟩
 .show D.tup _=.tup _
  rw[Qf,Qq λr a=>show aO r=(m3 ∘ iW) r by
   grind]
theorem K9(hn:n<=60)(h:∀r∈R,Dr .s st n r):Q_ (R.map toS) st n/\bq .s R=d5 (R.map toS):=by
 refine⟨λq i=>?_,?_⟩
 .obtain⟨r,e,rfl⟩:=qy i
  obtain⟨a,g,f⟩:=h r e
  cases r with
  | ei l=>cases a.1
  | im b o=>rcases a.1 with z|z<;>cases z
  | su b o=>
    intro x _ d;have c:=wq d;exact⟨f x c,a.2 x c⟩
 .show D.tup _=.tup [aW .s,_]
  rw[Qf,Qq λr e=>show aO r=(aX ∘ toS) r by
   obtain⟨a,g,f⟩:=h r e
   cases r with
   | ei l=>cases a.1
   | im b o=>rcases a.1 with z|z<;>cases z
   | su b o=>exact rN g (λx d=>by have:=a.2 x d;lia) o]
theorem s_(j:k=.i\/k=.n){R:List Rl}(h:∀r∈R,Dr k st n r):ly (R.map f7) st n/\R.map aO=(R.map f7).map dw/\R.map eC=R:=by
 have c:∀r∈R,r=.im (f7 r).1 (f7 r).2:=λr c=>by
  cases r with
  | ei l=>rcases j with rfl|rfl<;>cases (h _ c).1.1
  | su b o=>rcases j with rfl|rfl<;>cases (h _ c).1.1
  | im b o=>rfl
 refine⟨λq m=>?_,?_,?_⟩
 .obtain⟨r,a,rfl⟩:=qy m
  obtain⟨g,i,e⟩:=h r a;rw[c r a]at g i e;generalize f7 r=q at *;obtain⟨b,o⟩:=q;refine⟨i,λx d=>⟨e x ?_,g.2.1 x d⟩,λx d=>⟨e x ?_,g.2.2 x d⟩⟩
  .cases o with
   | none=>exact d
   | some y=>exact List.mem_append.mpr (.inl d)
  .have f:=d
   subst f;exact List.mem_append.mpr (.inr nofun)
 .rw[Qf,Qq λr a=>show aO r=(dw ∘ f7) r by
   conv=>lhs;rw[c r a]
   rfl]
 .conv=>rhs;rw[<-List.map_id R]
  exact Qq λr a=>by
   rw[c r a];rfl
def gv(Hd:AG->Prop)(hs:AG):Nat->AG->Prop
 | 0,ev=>Hd ev
 | m+1,ev=>if at' hs ev.length=true then ∃b,gv Hd hs m (ev++[b])else ∀b,gv Hd hs m (ev++[b])
def ey(hs:AG)(w:Bool)(f:AG->Bool)(n:Nat)(e:AG):Prop:=∀i,n<=i->i<e.length->at' hs i=w->at' e i=f (e.take i)
def K_(ev:AG)(b:Bool)(t:AG):at' (ev++b::t) ev.length=b:=by simp[at']
theorem RD{hs:AG}{w:Bool}{f:AG->Bool}{ev t:AG}{b:Bool}(c:at' hs ev.length=w->b=f ev)(h:ey hs w f (ev.length+1) (ev++b::t)):ey hs w f ev.length (ev++b::t):=λi g d a=>by
 by_cases e:i=ev.length
 .subst e
  rw[K_,List.take_left']
  .exact c a
  .rfl
 .exact h i (by lia) d a
theorem xW{g:AG->Prop}{hs:AG}{f:AG->Bool}:∀(m:Nat) (ev:AG),(∀t:AG,t.length=m->ey hs true f ev.length (ev++t)->g (ev++t))->gv g hs m ev
 | 0,ev,h=>by
   have:=h [] rfl (λi n k _=>by simp at k;lia);show g ev;simpa using this
 | m+1,ev,h=>by
   have a:=λb l=>xW m _ λt j d=>by
    have e:ev++[b]++t=ev++b::t:=by simp
    rw[e]at d ⊢;rw[qz]at d;exact h _ (by simp[j]) (RD l d)
   unfold gv;by_cases c:at' hs ev.length=true
   .rw[if_pos c]
    exact⟨f ev,a _ λ_=>rfl⟩
   .rw[if_neg c]
    exact λb=>a b λz=>absurd z c
theorem xX{g:AG->Prop}{hs:AG}{f:AG->Bool}:∀(m:Nat) (ev:AG),(∀t:AG,t.length=m->ey hs false f ev.length (ev++t)->¬g (ev++t))->¬gv g hs m ev
 | 0,ev,h=>λz=>by
   have:=h [] rfl (λi n k _=>by simp at k;ac_nf);have z:g ev:=z;exact this (by simpa using z)
 | m+1,ev,h=>by
   have a:=λb l=>xX m _ λt j d=>by
    have e:ev++[b]++t=ev++b::t:=by simp
    rw[e]at d ⊢;rw[qz]at d;exact h _ (by simp[j]) (RD l d)
   unfold gv;by_cases c:at' hs ev.length=true
   .rw[if_pos c]
    intro ⟨b,z⟩;exact a b (λq=>by rw[c]at q;cases q) z
   .rw[if_neg c]
    exact λz=>a _ (λ_=>rfl) (z _)
def mem_ofH{hs:AG}{st x:Nat}{b:Bool}:x∈aw hs st b↔x<hs.length/\st<=x/\at' hs x=b:=by
 unfold aw at';simp[Ql]
theorem fy{hs:AG}{w:Bool}{f:AG->Bool}{st:Nat}{e:AG}(g:e.length=hs.length)(h:ey hs w f st e){x:Nat}(b:x∈aw hs st w):at' e x=f (e.take x)/\(e.take x).length=x/\∀y,y<x->at' (e.take x) y=at' e y:=by
 obtain⟨i,d,a⟩:=mem_ofH.mp b;refine⟨h x d (by ext) a,by rw[List.length_take];lia,λy c=>?_⟩;unfold at';simp[c]
theorem RE{b:Type}(key:b->Nat){r:b}:∀{rows:List b},(rows.map key).Nodup->r∈rows->rows.find? (λq=>key q==key r)=some r
 | [],_,h=>nomatch h
 | a::rows,c,h=>by
   rw[Qd,List.nodup_cons]at c;rw[List.find?_cons];by_cases e:key a=key r
   .rcases qu h with rfl|h
    .simp
    .exact absurd (e ▸ Qs h) c.1
   .rcases qu h with rfl|h
    .exact absurd rfl e
    .have d:(key a==key r)=false:=by simp[e]
     rw[d];exact RE key c.2 h
noncomputable def iX{a:Type}(c:a->Nat)(b:a->AG->Bool)(rows:List a)(ev:AG):Bool:=match rows.find? (λr=>c r==ev.length)with
 | some r=>b r ev
 | none=>false
def lJ(hs:AG)(st:Nat)(b:Bool):(aw hs st b).Nodup:=.sublist List.filter_sublist List.nodup_range
def RF{hs:AG}{st:Nat}{b:Type}{key:b->Nat}{m:b->AG->Bool}{rows:List b}(d:rows.map key=aw hs st true)(k:∀r∈rows,∀e c:AG,(∀y,y<key r->at' e y=at' c y)->m r e=m r c){e:AG}(j:e.length=hs.length)(i:ey hs true (iX key m rows) st e):∀r∈rows,at' e (key r)=m r e:=λr a=>by
 have l:key r∈aw hs st true:=by rw[<-d];exact Qs a
 obtain⟨h,g,f⟩:=fy j i l;rw[h];unfold iX;rw[g,RE key (by rw[d];exact lJ ..) a];exact k r a _ _ f
def gI(r:c9)(ev:AG):Bool:=match r.2.1 with
 | none=>r.2.2
 | some x=>at' ev x==r.2.2
def endB(ev:AG)(e:e_):Bool:=match e.1 with
 | none=>e.2
 | some x=>at' ev x==e.2
def La{rows:List c9}{ev:AG}(a:∀r∈rows,at' ev r.1=gI r ev)(s:aH):(at' ev s.1==s.2)=endB ev (cR rows s):=by
 unfold cR
 cases b:rows.find? _ with
 | none=>rfl
 | some r=>
   have c:=List.find?_some b;simp at c;rw[<-c,a r (List.mem_of_find?_eq_some b)];unfold gI endB;dsimp only
   cases r.2.1 with
   | none=>cases r.2.2<;>cases s.2<;>rfl
   | some x=>
     dsimp only;cases at' ev x<;>cases r.2.2<;>cases s.2<;>rfl
def Lb{rows:List c9}{ev:AG}(b:∀r∈rows,at' ev r.1=gI r ev){l:AX}(a:g0 (l.map (cR rows))=true):so .e ev (.ei l)=true:=by
 show(l.any _)=true;unfold g0 at a;rw[List.any_eq_true]at a ⊢;obtain⟨e,c,a⟩:=a;obtain⟨s,g,rfl⟩:=qy c;rw[Bool.or_eq_true]at a;rcases a with a|a
 .have h:=wq a
  refine⟨s,g,?_⟩;rw[La b s,h];rfl
 .have h:=wq a
  obtain⟨t,d,e⟩:=qy h
  cases f:(at' ev s.1==s.2)with
  | true=>exact⟨s,g,f⟩
  | false=>
    refine⟨t,d,?_⟩;rw[La b s]at f;rw[La b t,e]
    revert f
    unfold endB gZ;dsimp only
    cases (cR _ s).1 with
    | none=>cases (cR _ s).2<;>simp
    | some x=>cases at' ev x<;>cases (cR _ s).2<;>simp
def lK(r:b_)(ev:AG):Bool:=od r.2.1 (at' ev)!=r.2.2
theorem tf(F:Nat->AH)(m:AE):∀l:AE,od l (λx=>od m (λy=>F x y))=od m (λy=>od l (λx=>F x y))
 | []=>by
   rw[xG,m9];exact λ_ _=>rfl
 | a::l=>by
   rw[gC,tf F m l,<-xH];exact gE λy _=>(gC a l λx=>F x y).symm
def tj(b:Bool)(l:AE)(f:AH):(b&&od l f)=od l (λy=>b&&f y):=by
 cases b with
 | true=>rfl
 | false=>exact(m9 λ_ _=>rfl).symm
def Lc(T E:AH)(F:Nat->AH):xr T (λx=>xr (F x) E)=xr E (λy=>xr T (λx=>F x y)):=by
 unfold xr;have a:od (.range 60) (λy=>E y&&od (.range 60) λx=>T x&&F x y)=_:=gE λx _=>tj _ _ _;rw[gE λx _=>tj _ _ _,a,tf]
 exact gE λy _=>gE λx _=>by cases T x<;>cases F x y<;>cases E y<;>rfl
theorem Ld{rows:List b_}{e:AG}(b:∀r∈rows,r.1<60/\r.2.1.Pairwise (·<·)/\∀y∈r.2.1,y<r.1)(c:∀r∈rows,at' e r.1=lK r e){T:AH}{o:Bool}(h:kp rows T o):xr T (at' e)=o:=by
 have f:∀x,x<60->at' e x=(xr (cP _ x).1 _ != (cP _ x).2):=λx f=>by
  unfold cP;by_cases a:x∈rows.map (·.1)
  .obtain⟨g,l⟩:=J2 a
   obtain⟨p,m,i⟩:=b _ g;have:=c _ g;rw[l]at this;rw[this,xI _ (m.imp qm) λy d=>Nat.lt_trans (i y d) p];rfl
  .rw[xJ a,xI _ nofun (by simpa using f),gC]
   cases at' e x<;>rfl
 have n:_=xr T (λx=>_ != _):=lu λx h=>by rw[<-f x h]
 have k:xr T (λx=>xr (cP rows x).1 (at' e)!=(cP rows x).2)=(xr T (λx=>xr (cP rows x).1 (at' e))!=xr T (λx=>(cP rows x).2)):=by
  unfold xr;rw[<-xH]
  exact gE λx _=>by
   cases T x
   .rfl
   .simp
 rw[n,k,Lc,h.2]
 have j:xr _ _=_:=m9 λy d=>by
  show(at' e y&&xr T λx=>(cP rows x).1 y)=_;rw[h.1 y (Qb d)];cases at' e y<;>rfl
 rw[j];cases o<;>rfl
def tm{e:AG}{b:AE}{o:Bool}(c:b.Pairwise (·<·))(a:∀x∈b,x<60):so .s e (.su b o)=(xr (λx=>decide (x∈b)) (at' e)==o):=by
 rw[xI _ (c.imp qm) a];rfl
def lL(first:AE)(rows:List er)(w:Bool)(ev:AG):Bool:=(decide (ev.length∈first)&&rows.all λr=>decide (ev.length<=r.1)||((at' ev r.1==w)||decide (ev.length∈r.2)))==w
theorem win{hs:AG}{st:Nat}{first:AE}{rows:List er}{w:Bool}{e:AG}(f:rows.map (·.1)=aw hs st false)(A:∀r∈rows,∀x∈r.2,x∈aw hs st true)(o:∀r∈rows,∀x,x∈first->x<r.1->x∈r.2)(D:e.length=hs.length)(E:ey hs true (lL first rows w) st e){x:Nat}(F:st<=x)(C:x<hs.length):
 at' e x=w↔x∈aw hs st false++first/\∀r∈rows,¬at' e r.1=w->x∈(aw hs st false).filter (λy=>!decide (y=r.1))++r.2:=by
 have u:∀r∈rows,r.1∈aw hs st _:=λr d=>by rw[<-f];exact Qs d
 rcases sC F C with a|c
 .have c:=xK x a
  constructor
  .intro j
   refine⟨List.mem_append.mpr (.inl a),λr d hd=>List.mem_append.mpr (.inl (List.mem_filter.mpr ⟨a,?_⟩))⟩;by_cases z:x=r.1
   .exact absurd (z ▸ j) hd
   .simp[z]
  .intro ⟨_,g⟩
   by_cases j:at' e x=w
   .exact j
   .have i:=a
    rw[<-f]at i;obtain⟨r,d,rfl⟩:=qy i;rcases qw (g r d j)with z|z
    .have:=(Qc z).2
     simp at this
    .exact absurd (A r d _ z) c
 .have a:=λz=>xK x z c
  obtain⟨p,n,t⟩:=fy D E c
  have h:at' e x=w↔x∈first/\∀r∈rows,r.1<x->¬at' e r.1=w->x∈r.2:=by
   rw[p];unfold lL;rw[n]
   have s:∀b,(b==w)=w↔b=true:=by cases w<;>intro b<;>cases b<;>simp
   rw[s,Qe,wm,List.all_eq_true];refine and_congr_right λ_=>forall_congr' λr=>forall_congr' λd=>?_;by_cases m:r.1<x
   .rw[t _ m]
    have k:¬x<=r.1:=by lia
    by_cases q:at' e r.1=w<;>simp[m,k,q]
   .have k:x<=r.1:=by ext
    simp[m,k]
  rw[h]
  have s:x∈aw hs st false++first↔x∈first:=by rw[List.mem_append];exact⟨λz=>z.resolve_left a,.inr⟩
  have B:∀r:er,x∈(aw hs st _).filter (λy=>!decide (y=r.1))++r.2↔x∈r.2:=λr=>by
   rw[List.mem_append];exact⟨λz=>z.resolve_left λz=>a (Qc z).1,.inr⟩
  rw[s];refine and_congr_right λl=>forall_congr' λr=>forall_congr' λd=>?_;rw[B];constructor
  .intro g hd
   by_cases m:r.1<x
   .exact g m hd
   .by_cases v:x=r.1
    .exact absurd (by rw[v];exact u r d) a
    .exact o r d x l (by lia)
  .intro g _ hd
   exact g hd
theorem lM{k:Kd}{w:Bool}(i:decide (k=.i)=w){e:AG}{b:AE}{h:AL}:so k e (.im b h)=true↔((∀x∈b,at' e x=w)->∃y,h=some y/\at' e y=w):=by
 show(_||_)=true↔_;rw[i,Bool.or_eq_true,List.any_eq_true];constructor
 .intro q d
  rcases q with⟨x,c,q⟩|q
  .rw[d x c]at q
   simp at q
  .cases h with
   | none=>cases q
   | some y=>exact⟨y,rfl,by simpa [Bk.hd]using q⟩
 .intro q
  by_cases d:∀x∈b,at' e x=w
  .obtain⟨y,rfl,g⟩:=q d
   exact .inr (by simp[Bk.hd,g])
  .refine .inl ?_
   have ⟨x,c⟩:=Classical.not_forall.mp d;have ⟨f,c⟩:=Classical.not_imp.mp c;exact⟨x,f,by simp[c]⟩
theorem Lf{k:Kd}{R:List Rl}{hs:AG}{st:Nat}(S:hs.length<=60)(D:∀r∈R,Dr k st hs.length r)(v:sZ k R (aw hs st true) (aw hs st false) false):∃f,∀e:AG,e.length=hs.length->ey hs true f st e->∀r∈R,so k e r=true:=by
 have L:(k=.i\/k=.n)->(∃f a,eu (R.map f7) (aw hs st true) (aw hs st false) f a)->∃f,∀e,e.length=_->ey hs _ f st e->∀r∈R,so k e r=true:=λJ ⟨j,a,g⟩=>by
  obtain⟨w,O⟩:∃w,decide (k=.i)=w:=⟨_,rfl⟩
  refine⟨lL j a w,λe s t r n=>?_⟩
  have W:=λx (m:st<=x) C=>win g.rs (λr d=>(g.rK r d).2.1) (λr d x c I=>by
   have:x∈j.filter λy=>decide (y<r.1):=List.mem_filter.mpr ⟨c,wn I⟩;rw[<-(g.rK r d).2.2]at this
   exact(Qc this).1) s t m C
  have M:f7 r∈_:=Qs n;obtain⟨m,C,u⟩:=D r n
  cases r with
  | ei l=>rcases J with rfl|rfl<;>cases m.1
  | su b o=>rcases J with rfl|rfl<;>cases m.1
  | im b h=>
    have B:∀x∈b,_/\_:=λx c=>⟨u x (by
     cases h with
     | none=>exact c
     | some y=>exact List.mem_append.mpr (.inl c)),m.2.1 x c⟩
    rw[lM O];intro A;obtain⟨y,G,E⟩:=g.h0 _ M λx c=>((W x (B x c).1 (B x c).2).mp (A x c)).1;subst G;refine⟨y,rfl,(W y (u y (List.mem_append.mpr (.inr nofun))) (m.2.2 y rfl)).mpr ⟨E,λr d hd=>?_⟩⟩;obtain⟨T,F,H⟩:=g.hb r d _ M λx c=>((W x (B x c).1 (B x c).2).mp (A x c)).2 r d hd;cases F;exact H
 cases k with
 | e=>
   obtain⟨a,g⟩:=v;refine⟨iX (λr=>r.1) gI a,λe s t r n=>?_⟩
   have p:=RF g.ks (λr d e F h=>by
    have:=g.row r d;unfold dI at this;unfold gI
    cases q:r.2.1 with
    | none=>rfl
    | some x=>
      rw[q]at this;simp at this;dsimp only
      rw[h x this.2]) s t
   cases r with
   | ei l=>exact Lb p (g.kept l (List.mem_map.mpr ⟨_,n,rfl⟩))
   | su b o=>cases (D _ n).1.1
   | im b h=>rcases(D _ n).1.1 with z|z<;>cases z
 | s=>
   obtain⟨a,g⟩:=v;refine⟨iX (λr=>r.1) lK a,λe s t r n=>?_⟩
   have p:=RF g.ks (λr d e F h=>by
    unfold lK
    rw[gE λx c=>h x ((g.row r d).2.2 x c).2]) s t
   obtain⟨m,C,_⟩:=D r n
   cases r with
   | ei l=>cases m.1
   | im b h=>rcases m.1 with z|z<;>cases z
   | su b o=>
     rw[tm C λx c=>by have:=m.2 x c;lia];obtain⟨i,K,N⟩:=List.mem_iff_getElem.mp (Qs n);have u:=g.kept i K
     have Q:rg (R.map toS) i=toS (.su b o):=by
      unfold rg;rw[List.getD_eq_getElem?_getD,qr K,N];rfl
     rw[Q]at u;rw[Ld (λr d=>⟨(g.row r d).1,(g.row r d).2.1,λy G=>((g.row r d).2.2 y G).2⟩) p (T:=λx=>decide _) (o:=o) u];simp
 | i=>exact L (.inl rfl) v
 | n=>exact L (.inr rfl) v
def Lg{L:AW}(q:∀l∈L,eG l){e:AG}(o:∀l∈L,∃u∈l,at' e u.1=u.2){s t:aH}(h:ed L s t)(hs:at' e s.1=s.2):at' e t.1=t.2:=by
 obtain⟨l,n,c,j,m⟩:=h;obtain⟨u,f,i⟩:=o l n
 have d:u≠aR s:=λz=>by
  subst z;have i:at' e s.1=!s.2:=i;rw[hs]at i;cases r:s.2<;>rw[r]at i<;>cases i
 by_cases g:u=t
 .subst g
  exact i
 .obtain⟨p,v⟩:=q l n
  match l,p,v,c,j,m,f with
  | [a],_,_,c,_,_,f=>
    simp at c f;exact absurd (f.trans c.symm) d
  | [a,b],_,_,c,j,m,f=>
    have k:t≠aR s:=λz=>by have:=m z;simp at this
    simp at c j f;rcases f with rfl|rfl
    .rcases c with z|z
     .exact absurd z.symm d
     .rcases j with y|y
      .exact absurd y.symm g
      .exact absurd (y.trans z.symm) k
    .rcases c with z|z
     .rcases j with y|y
      .exact absurd (y.trans z.symm) k
      .exact absurd y.symm g
     .exact absurd z.symm d
theorem tp{L:AW}(b:∀l∈L,eG l){e:AG}(a:∀l∈L,∃u∈l,at' e u.1=u.2){s t:aH}(h:Rch L s t)(hs:at' e s.1=s.2):at' e t.1=t.2:=by
 induction h with
 | refl=>exact hs
 | step _ d c=>exact Lg b a d c
theorem Lh{L:AW}(j:∀l∈L,eG l){hs:AG}{st:Nat}(b:cy L (aw hs st true) (aw hs st false)):∃f,∀e:AG,e.length=hs.length->ey hs false f st e->¬∀l∈L,∃u∈l,at' e u.1=u.2:=by
 have q:∀(e:_) (s:aH),¬at' e s.1=s.2->_:=λe s h=>by
  show at' e s.1=!s.2
  cases i:at' e s.1<;>cases a:s.2<;>rw[i,a]at h<;>first|rfl|exact absurd rfl h
 have k:∀(e:_) (s:aH),at' e s.1=s.2->_->False:=λe s h m=>by
  have m:at' e s.1=!s.2:=m;rw[h]at m;cases a:s.2<;>rw[a]at m<;>cases m
 cases b with
 | broken h=>exact⟨λ_=>false,λe _ _ c=>by
  obtain⟨u,B,_⟩:=c [] h
  cases B⟩
 | clash s i a=>
   refine⟨λ_=>false,λe _ _ c=>?_⟩;by_cases hs:at' e s.1=s.2
   .exact k e s hs (tp j c i hs)
   .exact hs (tp j c a (q e s hs))
 | cross s t i a r v=>
   refine⟨λp=>if p.length=s.1 then s.2 else !t.2,λe n o c=>?_⟩;obtain⟨d,w,_⟩:=fy n o i;obtain⟨g,A,_⟩:=fy n o a;rw[w,if_pos rfl]at d;rw[A]at g;have x:=tp j c v d;rw[x]at g;by_cases z:t.1=s.1
   .rw[if_pos z]at g
    exact r (Prod.ext z.symm g.symm)
   .rw[if_neg z]at g
    cases a:t.2<;>rw[a]at g<;>cases g
 | late s t i a r v C=>
   refine⟨λp=>if at' p t.1=t.2 then !s.2 else s.2,λe n o c=>?_⟩;obtain⟨d,w,y⟩:=fy n o i;rw[y _ r]at d;by_cases z:at' e t.1=t.2
   .rw[if_pos z]at d
    exact k e s (tp j c C z) d
   .rw[if_neg z]at d
    exact z (tp j c v d)
theorem Li{R:List Sm}{hs:AG}{st:Nat}{W:AH}(b:fP R (aw hs st false) W):∃f,∀e:AG,e.length=hs.length->ey hs false f st e->¬∀p,p<R.length->xr (rg R p).1 (at' e)=(rg R p).2:=by
 obtain⟨b1,b2⟩:=b
 have c:∀e,(∀p,_->_)->xr (tP R W) _=_:=λe h=>
  Jf (Q:=λT o=>xr T (at' e)=o) (sq λ_ _=>rfl) (λa i=>by rw[sg,a,i]) (λa i=>by rw[<-a];exact lu λx g=>by rw[i x g]) λp k=>h p (b1 p (Qc k).2)
 rcases b2 with⟨r,a⟩|⟨l,v,d⟩
 .refine⟨λ_=>false,λe _ _ h=>?_⟩
  have:=c e h;rw[sq (fl_nil.mp r),a]at this;cases this
 .refine⟨λt=>!(aK R (fl 60 W)!=xr (wl (tP R W) l) (at' t)),λe m w h=>?_⟩
  obtain⟨y,z,u⟩:=fy m w v
  have q:xr (wl _ l) (at' (e.take l))=xr (wl _ l) (at' e):=lu λx g=>by
   cases j:wl _ l x with
   | false=>rfl
   | true=>
     unfold wl at j;rw[Qe]at j;have a:=d.2.2 x g j.1;rw[u x ∅]
  have:=c e h;rw[iR d.1 d.2.1,y,q]at this;cases s:aK R _<;>cases n:xr _ _<;>rw[s,n]at this<;>cases this
theorem Lj{R:List a_}{hs:AG}{st:Nat}{b:AL}{d js:AF}(w:Bool)(L:iP R (aw hs st true) (aw hs st false) b d js=true):∃f,∀e:AG,e.length=hs.length->ey hs false f st e->¬∀q∈R,(∀x∈q.1,at' e x=w)->∃y,q.2=some y/\at' e y=w:=by
 unfold iP at L;rw[Qe]at L;obtain⟨O,J⟩:=L;unfold m7 at J;simp only[Qe,wm,Bool.or_eq_true]at J;obtain⟨_,N,Q,U,T⟩:=J
 have u:∀e,(∀q∈R,(∀x∈q.1,at' e x=w)->∃y,q.2=some y/\at' e y=w)->∀{d:_}{s:_},bP R s d=true->(∀x∈s,at' e x=w)->∀x∈s++bh R d,at' e x=w:=λe j d=>by
  induction d with
  | nil=>
    intro s _ n x a;rcases qw a with h|h
    .exact n x h
    .cases h
  | cons i d Y=>
    intro s hd n x a;have t:(_&&_)=true:=hd;rw[Qe]at t;obtain⟨C,H⟩:=t;unfold eZ at C;rw[Qe,Qe,wm]at C;obtain⟨g,G,F⟩:=C;obtain⟨y,p,m⟩:=j _ (xM g) λx a=>n x (wq (List.all_eq_true.mp F x a))
    have S:bj (ax R i)=y:=by unfold bj;rw[p];rfl
    refine Y H (λz k=>?_) x ?_
    .rcases qw k with h|h
     .exact n z h
     .rw[List.mem_singleton]at h
      rw[h,S];exact m
    .rw[w9]
     exact a
 have r:∀e,_->_->∃x,b=some x/\at' e x=w:=λe j n=>by
  have:=u e j Q n;obtain⟨y,p,m⟩:=j _ (xM N) λx a=>this x (wq (List.all_eq_true.mp U x a));rcases T with q|q
  .rw[q]at p
   cases p
  .exact⟨y,q.symm.trans p,m⟩
 cases b with
 | none=>
   refine⟨λ_=>w,λe E D j=>?_⟩
   obtain⟨x,z,_⟩:=r e j λx a=>by
    rcases qw a with q|q
    .exact(fy E D (Qc q).1).1
    .cases q
   cases z
 | some A=>
   have o:(_&&_)=true:=O;rw[Qe,wm]at o;obtain⟨K,B⟩:=o;refine⟨λM=>if M.length=A then (if (eE R (aw hs st true) (some A) d).all (λz=>at' M z==w)=true then !w else w)else w,λe E D j=>?_⟩
   have v:∀x _,_->at' e x=w:=λx a z=>by
    obtain⟨g,G,_⟩:=fy E D a;rw[g,G,if_neg z]
   obtain⟨g,G,F⟩:=fy E D K;rw[G,if_pos rfl]at g
   have l:∀z∈eE R (aw hs st true) (some A) d,_:=λz k=>by
    have:=(Qc k).2;simpa using this
   by_cases c:∀z∈eE R (aw hs st true) (some A) d,at' e z=w
   .rw[if_pos (List.all_eq_true.mpr λz k=>by rw[F z (l z k).1,c z k];simp)]at g
    obtain⟨x,z,a⟩:=r e j λx a=>by
     rcases qw a with q|q
     .obtain⟨C,H⟩:=Qc q
      exact v x C λz=>by simp[z]at H
     .exact c x q
    cases z;rw[a]at g;cases w<;>cases g
   .have I:¬(eE R _ _ d).all (λz=>at' _ z==w)=true:=λz=>c λy m=>by
     have:=List.all_eq_true.mp z y m;rw[F y (l y m).1]at this;simpa using this
    rw[if_neg I]at g
    have V:∀x _,at' e x=w:=λx a=>by
     by_cases z:x=A
     .rw[z,g]
     .exact v x a z
    have:=u e j B V;exact c λz k=>this z (List.mem_append.mpr (.inr (l z k).2))
theorem Lk{k:Kd}{R:List Rl}{hs:AG}{st:Nat}(n:hs.length<=60)(d:∀r∈R,Dr k st hs.length r)(v:sZ k R (aw hs st true) (aw hs st false) true):∃f,∀e:AG,e.length=hs.length->ey hs false f st e->¬∀r∈R,so k e r=true:=by
 have A:(k=.i\/k=.n)->(∃b y B,iP (R.map f7) (aw hs st true) (aw hs st false) b y B=true)->∃f,∀e,_->_->¬∀r∈R,_=true:=λt ⟨b,y,B,g⟩=>by
  obtain⟨w,H⟩:∃w,decide (k=.i)=w:=⟨_,rfl⟩
  obtain⟨f,m⟩:=Lj w g;refine⟨f,λe i j h=>m e i j λq C=>?_⟩;obtain⟨r,a,rfl⟩:=qy C;have:=h r a
  cases r with
  | ei l=>rcases t with rfl|rfl<;>cases (d _ a).1.1
  | su b o=>rcases t with rfl|rfl<;>cases (d _ a).1.1
  | im b o=>exact(lM H).mp this
 cases k with
 | e=>
   have a:∀r∈R,r=.ei (iW r):=λr a=>by
    cases r with
    | ei l=>rfl
    | su b o=>cases (d _ a).1.1
    | im b o=>rcases(d _ a).1.1 with z|z<;>cases z
   obtain⟨f,m⟩:=Lh (λl n=>by
    obtain⟨r,c,rfl⟩:=qy n;have:=(d r c).2.1;rw[a r c]at this
    exact KW this) v
   refine⟨f,λe i j h=>m e i j λl n=>?_⟩;obtain⟨r,c,rfl⟩:=qy n;have:=h r c;rw[a r c]at this;obtain⟨u,E,q⟩:=List.any_eq_true.mp (this);exact⟨u,E,by simpa using q⟩
 | s=>
   obtain⟨W,b⟩:=v;obtain⟨f,m⟩:=Li b;refine⟨f,λe i j h=>m e i j λp I=>?_⟩;have c:=K7 I;obtain⟨r,a,G⟩:=qy c;rw[<-G];obtain⟨s,F,_⟩:=d r a;have:=h r a
   cases r with
   | ei l=>cases s.1
   | im b h=>rcases s.1 with z|z<;>cases z
   | su b o=>
     rw[tm F λx D=>by have:=s.2 x D;ac_nf]at this;show xr (λx=>decide _) _=o;simpa using this
 | i=>exact A (.inl rfl) v
 | n=>exact A (.inr rfl) v
theorem Ll{k:Kd}{R:List Rl}{hs:AG}{st:Nat}{w:Bool}(c:hs.length<=60)(i:st<=hs.length)(d:∀r∈R,Dr k st hs.length r)(v:sZ k R (aw hs st true) (aw hs st false) w){ev:AG}(h:ev.length=st):gv (λe=>∀r∈R,so k e r=true) hs (hs.length-st) ev↔w=false:=by
 subst h
 cases w with
 | false=>
   obtain⟨f,a⟩:=Lf c d v;exact⟨λ_=>rfl,λ_=>xW _ _ λt g b=>a _ (by rw[qz];ext) b⟩
 | true=>
   obtain⟨f,a⟩:=Lk c d v;exact⟨λz=>absurd z (xX _ _ λt g b=>a _ (by rw[qz];ext) b),λz=>nomatch z⟩
def Lm{b bk a c:D}{st:Int}{R:AN}(e:Yc bk=some [.str "nots",.tup R])(d:iJ [bk]=some a)(h:Yp 11 [b,a,c,.int st]=some (.bl true)):y2 [b,bk,c,.int st]=some (.bl true):=by
 rw[y2,Yp,Ye (by rfl)];simp[kW,Yd,e,cX "nots" false,d,h]
def y7q{b bk a c:D}{st:Int}{R:AN}(e:Yc bk=some [.str "nots",.tup R])(d:iJ [bk]=some a)(h:Ys 11 [b,a,c,.int st]=some (.bl true)):iK [b,bk,c,.int st]=some (.bl true):=by
 rw[iK,Ys,Ye (by rfl)];simp[rm,Yd,e,cX "nots" false,d,h]
theorem Ln{k:Kd}{R:List Rl}{hs:AG}{st:Nat}(n:hs.length<=60)(c:st<=hs.length)(K:R.length<=60)(h:∀r∈R,Dr k st hs.length r):
 ∃(w:Bool) (pl:AN),k8 [bq k R,.tup (hs.map aE),.int st]=some (bE w (.tup pl))/\iM [bE w (.tup pl),bq k R,.tup (hs.map aE),.int st]=some (.bl true)/\sZ k R (aw hs st true) (aw hs st false) w:=by
 have s:Yc (.tup (hs.map aE))=some (hs.map aE):=rfl
 have v:(k=.i\/k=.n)->∃(w:Bool) (pl:AN),kZ [bq .i R,.tup (hs.map aE),.int st]=some (bE w (.tup pl))/\gz [.tup pl]=some (.bl true)/\Ym [.tup pl]=some (.bl true)/\(∀j,(w=true->Yp (j+1) [.tup pl,bq .i R,.tup (hs.map aE),.int st]=some (.bl true))/\(w=false->Ys (j+1) [.tup pl,bq .i R,.tup (hs.map aE),.int st]=some (.bl true)))/\sZ .i R (aw hs st true) (aw hs st false) w:=λJ=>by
  obtain⟨o,p,_⟩:=s_ J h
  have e:bq .i R=Yr (R.map f7):=by
   show D.tup [aW .i,.tup (R.map aO)]=_;rw[p];rfl
  rw[e];rcases y0k s n c o with⟨b,B,C,g,z⟩|⟨f,a,g,z⟩
  .exact⟨true,_,z,y7o b B C,y3i b B C,λj=>⟨λ_=>y3k j n c o g,λz=>(nomatch z)⟩,b,B,C,g.1⟩
  .exact⟨false,_,z,y7p f a,y3j f a,λj=>⟨λz=>(nomatch z),λ_=>y0t j n c o g⟩,f,a,g⟩
 rw[k8,Ye (by rfl)];have x:Yd 3 [bq k R,.tup (hs.map aE),.int st]=[↑(bq k R),↑(.tup (hs.map aE)),↑(.int st)]:=rfl;have i:Yc (bq k R)=some [aW k,.tup (R.map aO)]:=rfl;rw[x]
 cases k with
 | e=>
   obtain⟨o,p⟩:=K8 h;have I:∀l∈R.map iW,eG l:=λl G=>KW (o l G).1;have E:=Yo3 (L:=R.map iW) (by rw[qf];ac_nf) s n c o;rcases E with⟨d,g,z⟩|⟨a,g,z⟩
   .obtain⟨pl,rfl,t,u⟩:=y3f g
    have m:=ni true t u ⟨λ_=>y3c (by rw[qf];ac_nf) n c o g,λz=>(nomatch z)⟩;rw[<-p]at z m;refine⟨true,pl,?_,m,y7j I g⟩;generalize bq .e R=y at *;simp[k7,i,z]
   .have m:=ni false (y7l a) (y3e a) ⟨λz=>(nomatch z),λ_=>y3d n c g⟩
    rw[<-p]at z m;refine⟨false,jI a,?_,m,a,g⟩;generalize bq .e R=y at *;simp[k7,i,z]
 | s=>
   obtain⟨o,p⟩:=K9 n h;have E:=Yw8 (R:=R.map toS) (by rw[qf];ac_nf) s n c o;rcases E with⟨W,g,z⟩|⟨a,g,z⟩
   .have m:=ni true (K4 (fl 60 W)) (y7n (.tup ((fl 60 W).map nD))) ⟨λ_=>K5 (by rw[qf];ac_nf) s n c g,λz=>(nomatch z)⟩
    rw[<-p]at z m;refine⟨true,_,?_,m,W,g⟩;generalize bq .s R=y at *;simp[k7,i,z]
   .have m:=ni false (y7m a) (y3g a) ⟨λz=>(nomatch z),λ_=>y3h s n c g⟩
    rw[<-p]at z m;refine⟨false,_,?_,m,a,g⟩;generalize bq .s R=y at *;simp[k7,i,z]
 | i=>
   obtain⟨w,pl,z,t,u,A,g⟩:=v (.inl rfl);refine⟨w,pl,?_,ni w t u (A 11),g⟩;generalize bq .i R=y at *;simp[k7,i,z]
 | n=>
   obtain⟨w,pl,z,t,u,A,g⟩:=v (.inr rfl)
   have q:=Qy (k:=.n) (n:=hs.length) (R:=R) λr F=>⟨(h r F).1,(h r F).2.1⟩
   rw[(s_ (.inr rfl) h).2.2]at q;have q:iJ [bq .n R]=some (bq .i R):=q;refine⟨w,pl,?_,ni w t u ⟨λe=>Lm i q ((A 10).1 e),λe=>y7q i q ((A 10).2 e)⟩,by cases w<;>exact g⟩;generalize bq .n R=y,bq .i R=H at *;simp[k7,i,q,z]
def f_(bS:Bool)(n:Nat)(Y:Nat->Prop):Prop:=∀i j,i<n->j<n->(bS=true\/i<j)->Y i->Y j
theorem xY{n:Nat}{Y:Nat->Prop}(h:∀j,j+1<n->Y j->Y (j+1)):∀(m i:Nat),i+m<n->Y i->Y (i+m)
 | 0,_,_,y=>y
 | m+1,i,hm,y=>h (i+m) hm (xY h m i ∅ y)
theorem tq{n:Nat}{Y:Nat->Prop}:f_ false n Y↔∀j,j+1<n->Y j->Y (j+1):=
 ⟨λh j hj=>h j (j+1) ∅ hj (.inr ∅),λh i j _ hj hij y=>by
  have:=xY h (j-i) i (by simp at hij;ac_nf) y
  rwa [Nat.add_sub_cancel' (by simp at hij;ac_nf)]at this⟩
theorem Lo{n:Nat}{Y:Nat->Prop}(hn:0<n):f_ true n Y↔(∀j,j+1<n->Y j->Y (j+1))/\(Y (n-1)->Y 0):=
 ⟨λh=>⟨λj hj=>h j (j+1) ∅ hj (.inl rfl),h _ _ ∅ hn (.inl rfl)⟩,λ⟨h,r⟩ i j hi hj _ y=>by
  have y1:=xY h (n-1-i) i ∅ y;rw[Nat.add_sub_cancel' ∅]at y1;have:=xY h j 0 ∅ (r y1)
  rwa [Nat.zero_add]at this⟩
theorem Lp{n:Nat}{Y:Nat->Prop}:f_ true n Y↔∀j,j+1<n->(Y j↔Y (j+1)):=
 ⟨λh j hj=>⟨h j (j+1) ∅ hj (.inl rfl),h (j+1) j hj ∅ (.inl rfl)⟩,λh i j hi hj _ y=>by
  have k:∀m,m<n->(Y 0↔Y m):=λm=>by
   induction m with
   | zero=>exact λ_=>Iff.rfl
   | succ m ih=>exact λhm=>(ih ∅).trans (h m hm)
  exact(k j hj).mp ((k i hi).mpr y)⟩
section
variable {Hd:AG->Prop}{hs:AG}{n:Nat}{p:Nat->Nat}{c:AH}{bS:Bool}
theorem tr(hn:hs.length=n)(hp:∀i,i<n->p i<n)(hj:∀i j,i<n->j<n->p i=p j->i=j)(hE:∀e:AG,e.length=n->f_ bS n (λi=>at' e (p i)=c (p i))->Hd e){i0:Nat}(h0:i0<n)(ho:∀x,x<n->x≠p i0->at' hs x=true)(ht:bS=true->p i0=0):gv Hd hs n []:=by
 cases bS with
 | true=>
   refine xW (f:=λev=>(at' ev 0==c 0)==c ev.length) n [] λt hl hF=>hE _ hl ?_;have z:=ht rfl;have hF:ey hs true _ 0 t:=hF
   have key:∀x,x<n->(at' t x=c x↔at' t 0=c 0):=λx hx=>by
    by_cases h:x=0
    .rw[h]
    .obtain⟨g1,g2,g3⟩:=fy ∅ hF (mem_ofH.mpr ⟨by ac_nf,by ac_nf,ho x hx ∅⟩)
     rw[g1,g2,g3 0 ∅];cases at' t 0<;>cases c 0<;>cases c x<;>simp
   exact λi j hi hj _ hy=>(key _ (hp j hj)).mpr ((key _ (hp i hi)).mp hy)
 | false=>
   refine xW (f:=λev=>((List.range i0).any λi=>p i==ev.length)!=c ev.length) n [] λt hl hF=>hE _ hl ?_;have hF:ey hs true _ 0 t:=hF
   have key:∀j,j<n->j≠i0->(at' t (p j)=c (p j)↔i0<j):=λj hjn hne=>by
    have hx:=hp j hjn;obtain⟨g1,g2,_⟩:=fy ∅ hF (mem_ofH.mpr ⟨by ac_nf,by ac_nf,ho _ hx λz=>hne (hj _ _ hjn h0 z)⟩);rw[g1,g2]
    have e:((List.range i0).any λi=>p i==p j)=decide (j<i0):=by
     rw[Bool.eq_iff_iff,List.any_eq_true,wm];constructor
     .rintro⟨i,hi,q⟩
      have hi:=Qb hi;have:=hj i j ∅ hjn (by simpa using q);ac_nf
     .exact λh=>⟨j,List.mem_range.mpr h,by simp⟩
    rw[e];by_cases q:j<i0
    .have q':¬i0<j:=by ac_nf
     cases c (p j)<;>simp[q,q']
    .have q':i0<j:=by ac_nf
     cases c (p j)<;>simp[q,q']
   intro i j hi hjn hij y
   have hij:i<j:=by simpa using hij
   by_cases q:i0<j
   .exact(key j hjn ∅).mpr q
   .have:=(key i hi ∅).mp y
    ac_nf
theorem ts(hn:hs.length=n)(hp:∀i,i<n->p i<n)(hj:∀i j,i<n->j<n->p i=p j->i=j)(hE:∀e:AG,e.length=n->Hd e->f_ bS n (λi=>at' e (p i)=c (p i))){i j:Nat}(hij:i<j)(hjn:j<n)(s1:at' hs (p i)=false)(s2:at' hs (p j)=false):¬gv Hd hs n []:=
 xX (f:=λev=>decide (ev.length=p i)==c ev.length) n [] λt hl hF hd=>by
  have hF:ey hs false _ 0 t:=hF;have h1:=hp i ∅;have h2:=hp j hjn;obtain⟨g1,g2,_⟩:=fy ∅ hF (mem_ofH.mpr ⟨by ac_nf,by ac_nf,s1⟩);obtain⟨k1,k2,_⟩:=fy ∅ hF (mem_ofH.mpr ⟨by ac_nf,by ac_nf,s2⟩);rw[g2]at g1;rw[k2]at k1
  have hne:¬p j=p i:=λz=>by have:=hj j i hjn ∅ z;ac_nf
  have:=hE t hl hd i j ∅ hjn (.inr hij) (by show at' t (p i)=c (p i);rw[g1];simp);have this:at' t (p j)=c (p j):=this;rw[k1]at this;simp[hne]at this
theorem Lq(hn:hs.length=n)(hE:∀e:AG,e.length=n->Hd e->f_ true n (λi=>at' e (p i)=c (p i))){i j:Nat}(hi:i<n)(hjn:j<n)(hp:p i<n)(h0:p j=0)(hs0:0<p i)(s1:at' hs (p i)=false):¬gv Hd hs n []:=
 xX (f:=λev=>(at' ev 0==c 0)!=c ev.length) n [] λt hl hF hd=>by
  have hF:ey hs false _ 0 t:=hF;obtain⟨g1,g2,g3⟩:=fy ∅ hF (mem_ofH.mpr ⟨by ac_nf,by ac_nf,s1⟩);rw[g2,g3 0 hs0]at g1;have l:=hE t hl hd;have a:at' t (p i)=c (p i)->at' t (p j)=c (p j):=l i j hi hjn (.inl rfl);have b:at' t (p j)=c (p j)->at' t (p i)=c (p i):=l j i hjn hi (.inl rfl);rw[h0,g1]at a b
  revert a b
  cases at' t 0<;>cases c 0<;>cases c (p i)<;>simp
def b9(S:AE)(bS:Bool):Bool:=decide (1<S.length)||(decide (S.length=1)&&(bS&&decide (0<S.getD 0 0)))
theorem Lr(hn:hs.length=n)(h2:0<n)(hp:∀i,i<n->p i<n)(hj:∀i j,i<n->j<n->p i=p j->i=j)(hsu:∀x,x<n->∃i,i<n/\p i=x)(hE:∀e:AG,e.length=n->(Hd e↔f_ bS n (λi=>at' e (p i)=c (p i)))):gv Hd hs n []↔b9 (aw hs 0 false) bS=false:=by
 have hm:∀x,x∈aw hs 0 false↔x<n/\at' hs x=false:=λx=>by rw[mem_ofH];constructor<;>rintro h<;>refine⟨by ac_nf,?_⟩<;>simp[h]
 have hnd:=lJ hs 0 false;obtain⟨j0,hj0,e0⟩:=hsu 0 h2;generalize aw hs 0 false=S at hm hnd
 have hk:∀x,x<n->x∉S->at' hs x=true:=λx hx h=>by
  cases q:at' hs x with
  | true=>rfl
  | false=>exact absurd ((hm x).mpr ⟨hx,q⟩) h
 match S,hm,hnd,hk with
 | [],_,_,hk=>exact⟨λ_=>rfl,λ_=>tr hn hp hj (λe he=>(hE e he).mpr) hj0 (λx hx _=>hk x hx nofun) λ_=>e0⟩
 | [s],hm,_,hk=>
   obtain⟨h1,s1⟩:=(hm s).mp nofun;obtain⟨i,hi,rfl⟩:=hsu s h1;by_cases z:bS=true/\0<p i
   .obtain⟨rfl,z⟩:=z
    have d:b9 [p i] true=true:=by simp[b9,z]
    rw[d];exact⟨λg=>absurd g (Lq hn (λe he=>(hE e he).mp) hi hj0 h1 e0 z s1),λq=>(nomatch q)⟩
   .have d:b9 [p i] bS=false:=by
     cases bS
     .rfl
     .have:¬0<p i:=λq=>z ⟨rfl,q⟩
      simp[b9,this]
    refine⟨λ_=>d,λ_=>tr hn hp hj (λe he=>(hE e he).mpr) hi (λx hx q=>hk x hx (by simpa using q)) λq=>?_⟩;have:¬0<p i:=λw=>z ⟨q,w⟩;ac_nf
 | s::t::S,hm,hnd,_=>
   obtain⟨h1,s1⟩:=(hm s).mp nofun;obtain⟨h2,s2⟩:=(hm t).mp nofun;obtain⟨i,hi,rfl⟩:=hsu s h1;obtain⟨j,hjn,rfl⟩:=hsu t h2
   have hne:i≠j:=λz=>by
    subst z;simp at hnd
   have d:b9 (p i::p j::S) bS=true:=by simp[b9]
   rw[d];refine⟨λg=>absurd g ?_,λq=>(nomatch q)⟩;by_cases l:i<j
   .exact ts hn hp hj (λe he=>(hE e he).mp) l hjn s1 s2
   .exact ts hn hp hj (λe he=>(hE e he).mp) (show j<i by ac_nf) hi s2 s1
end
def lk(k:Kd)(bt:AH)(j a b:Nat):Rl:=match k with
 | .e=>.ei (cf [(a,!bt a),(b,bt b)])
 | .s=>.su (if a<b then [a,b]else [b,a]) (bt j)
 | _=>.im [a] (some b)
def iY(k:Kd)(ring:Bool):Bool:=decide (k=.e)&&ring
def d6(k:Kd)(bt:AH)(p:Nat->Nat)(m:Nat):List Rl:=(List.range m).map λj=>lk k bt j (p j) (p (j+1))
def eI(k:Kd)(bt:AH)(p:Nat->Nat)(n:Nat)(ring:Bool):List Rl:=d6 k bt p (n-1)++(if iY k ring=true then [lk .e bt 0 (p (n-1)) (p 0)]else [])
def gb(k:Kd)(ring:Bool):Bool:=decide (k=.s)||iY k ring
theorem tv{k:Kd}{bt:AH}{j a b n:Nat}(ha:a<n)(hb:b<n)(hne:a≠b):Dr k 0 n (lk k bt j a b):=by
 refine⟨?_,?_,λ_ _=>Qh _⟩
 .cases k with
  | e=>exact⟨rfl,λs hs=>by
   have:=(Qw _).mem_iff.mp hs;simp at this
   rcases this with rfl|rfl<;>assumption⟩
  | s=>exact⟨rfl,λx hx=>by
   revert hx
   split<;>simp<;>rintro(rfl|rfl)<;>assumption⟩
  | i=>exact⟨.inl rfl,by simpa using ha,by simpa using hb⟩
  | n=>exact⟨.inr rfl,by simpa using ha,by simpa using hb⟩
 .cases k with
  | e=>
    show(cf _).length<=2/\(cf _).Pairwise mx;unfold cf eA mx;by_cases q:b<a
    .have q2:¬b=a:=by ac_nf
     simp[q,q2]
    .have q':a<b:=by ac_nf
     have q2:¬b=a:=by ac_nf
     simp[q,q',q2]
  | s=>
    show(if a<b then [a,b]else [b,a]).Pairwise (·<·)
    split<;>simp<;>ac_nf
  | i=>exact List.pairwise_singleton _ _
  | n=>exact List.pairwise_singleton _ _
def Ls{bt:AH}{j a b:Nat}{e:AG}:so .e e (lk .e bt j a b)=true↔(at' e a=bt a->at' e b=bt b):=by
 show((cf _).any _)=true↔_;rw[List.any_eq_true];simp only[(Qw _).mem_iff];simp;cases at' e a<;>cases bt a<;>simp
def Lu{bt:AH}{j a b:Nat}{e:AG}:so .s e (lk .s bt j a b)=true↔(at' e a != at' e b)=bt j:=by
 show(decide (((if a<b then [a,b]else [b,a]).filter (at' e)).length%2=1)==bt j)=true↔_
 split<;>cases q1:at' e a<;>cases q2:at' e b<;>simp[q1,q2]<;>cases bt j<;>simp
def Lv{k:Kd}(hk:k=.i\/k=.n){bt:AH}{j a b:Nat}{e:AG}:so k e (lk k bt j a b)=true↔(at' e a=decide (k=.i)->at' e b=decide (k=.i)):=by
 have:lk k bt j a b=.im [a] (some b):=by rcases hk with rfl|rfl<;>rfl
 rw[this,lM rfl];simp
def Lx{n:Nat}{p:Nat->Nat}(hj:∀i j,i<n->j<n->p i=p j->i=j)(d:AH):∃c:AH,∀i,i<n->c (p i)=d i:=by
 refine⟨λx=>(List.range n).any λi=>p i==x&&d i,λi hi=>?_⟩;rw[Bool.eq_iff_iff,List.any_eq_true];constructor
 .rintro⟨m,hm,q⟩
  simp at hm q;rw[<-hj m i hm hi q.1];exact q.2
 .exact λh=>⟨i,by simpa using hi,by simp[h]⟩
def xZ(bt:AH):AH
 | 0=>false
 | j+1=>xZ bt j != bt j
theorem Ly{k:Kd}{bt:AH}{p:Nat->Nat}{n:Nat}{ring:Bool}(hn:0<n)(hj:∀i j,i<n->j<n->p i=p j->i=j):∃c:AH,∀e:AG,(∀r∈eI k bt p n ring,so k e r=true)↔f_ (gb k ring) n (λi=>at' e (p i)=c (p i)):=by
 have hm:∀(P:Rl->Prop),(∀r∈eI k bt p n ring,P r)↔(∀j,j+1<n->P (lk k bt j (p j) (p (j+1))))/\(iY k ring=true->P (lk .e bt 0 (p (n-1)) (p 0))):=λP=>by
  unfold eI d6;constructor
  .exact λh=>⟨λj hj=>h _ (List.mem_append.mpr (.inl (List.mem_map.mpr ⟨j,List.mem_range.mpr ∅,rfl⟩))),λq=>h _ (List.mem_append.mpr (.inr (by simp[q])))⟩
  .rintro⟨h1,h2⟩ r hr
   rcases qw hr with hr|hr
   .obtain⟨j,hj,rfl⟩:=qy hr
    have:=Qb hj;exact h1 j ∅
   .split at hr
    .rename_i q
     rw[List.mem_singleton]at hr;rw[hr];exact h2 q
    .cases hr
 have hI:(k=.i\/k=.n)->∃c:AH,∀e:AG,(∀r∈eI k bt p n ring,so k e r=true)↔f_ (gb k ring) n (λi=>at' e (p i)=c (p i)):=λhk=>by
  refine⟨λ_=>decide (k=.i),λe=>?_⟩
  have q:iY k ring=false/\gb k ring=false:=by rcases hk with rfl|rfl<;>exact⟨rfl,rfl⟩
  rw[hm,q.1,q.2,tq];simp only[Lv hk];simp
 cases k with
 | e=>
   refine⟨bt,λe=>?_⟩;rw[hm];simp only[Ls]
   cases ring with
   | true=>
     show _↔f_ true _ _;rw[Lo hn];exact⟨λh=>⟨h.1,h.2 rfl⟩,λh=>⟨h.1,λ_=>h.2⟩⟩
   | false=>
     show _↔f_ false _ _;rw[tq];exact⟨λh=>h.1,λh=>⟨h,λq=>(nomatch q)⟩⟩
 | s=>
   obtain⟨c,hc⟩:=Lx hj (xZ bt);refine⟨c,λe=>?_⟩;show _↔f_ true _ _;rw[hm,Lp];simp only[Lu]
   have key:∀j,j+1<n->((at' e (p j)!=at' e (p (j+1)))=bt j↔(at' e (p j)=c (p j)↔at' e (p (j+1))=c (p (j+1)))):=λj h=>by
    rw[hc j ∅,hc (j+1) h,xZ];cases at' e (p j)<;>cases at' e (p (j+1))<;>cases xZ bt j<;>cases bt j<;>simp
   exact⟨λh j q=>(key j q).mp (h.1 j q),λh=>⟨λj q=>(key j q).mpr (h j q),λq=>(nomatch q)⟩⟩
 | i=>exact hI (.inl rfl)
 | n=>exact hI (.inr rfl)
theorem Lz{k:Kd}{bt:AH}{p:Nat->Nat}{n:Nat}{ring:Bool}(hn:2<=n)(hp:∀i,i<n->p i<n)(hj:∀i j,i<n->j<n->p i=p j->i=j):∀r∈eI k bt p n ring,Dr k 0 n r:=λr hr=>by
 unfold eI d6 at hr;rcases qw hr with hr|hr
 .obtain⟨j,hm,rfl⟩:=qy hr
  have:=Qb hm
  exact tv (hp _ ∅) (hp _ ∅) λz=>by have:=hj _ _ ∅ ∅ z;ac_nf
 .split at hr
  .rename_i q
   have hk:k=.e:=by
    cases k<;>first|rfl|cases q
   rw[List.mem_singleton]at hr;rw[hr,hk]
   exact tv (hp _ ∅) (hp _ ∅) λz=>by have:=hj _ _ ∅ ∅ z;ac_nf
  .cases hr
theorem LA{k:Kd}{bt:AH}{p:Nat->Nat}{n:Nat}{ring:Bool}(hn:0<n):(eI k bt p n ring).length<=n:=by
 unfold eI d6;rw[qz,qf,List.length_range]
 split<;>simp<;>ac_nf
theorem LB{k:Kd}{bt:AH}{p:Nat->Nat}{hs:AG}{n:Nat}{ring:Bool}(hl:hs.length=n)(h6:n<=60)(hn:2<=n)(hp:∀i,i<n->p i<n)(hj:∀i j,i<n->j<n->p i=p j->i=j)(hsu:∀x,x<n->∃i,i<n/\p i=x):∃pl:AN,k8 [bq k (eI k bt p n ring),.tup (hs.map aE),.int 0]=some (bE (b9 (aw hs 0 false) (gb k ring)) (.tup pl))/\iM [bE (b9 (aw hs 0 false) (gb k ring)) (.tup pl),bq k (eI k bt p n ring),.tup (hs.map aE),.int 0]=some (.bl true):=by
 have hd:=Lz (k:=k) (bt:=bt) (ring:=ring) hn hp hj;obtain⟨w,pl,o1,o2,o3⟩:=Ln (k:=k) (R:=eI k bt p n ring) (hs:=hs) (st:=0) ∅ ∅ (Qg (LA ∅) h6) (by rw[hl];exact hd);obtain⟨c,hc⟩:=Ly (k:=k) (bt:=bt) (ring:=ring) ∅ hj;have g:=Ll ∅ ∅ (by rw[hl];exact hd) o3 (ev:=[]) rfl;rw[hl,Nat.sub_zero]at g;have:=g.symm.trans (Lr hl ∅ hp hj hsu λe _=>hc e)
 have hw:w=b9 (aw hs 0 false) (gb k ring):=by
  revert this
  cases w<;>cases b9 (aw hs 0 false) (gb k ring)<;>simp
 subst hw;exact⟨pl,o1,o2⟩
def dW{f g:AR}{ρ ρ':Ro}{o:Option i6}(h:f ρ=some (.nx ρ'))(k:g ρ'=o):ag f g ρ=o:=by rwa [iB,h]
theorem tw(n:Nat)(h:n<=1000):cU [.int (n:Int)]=some ((List.range' 0 n).map λn:Nat=>D.int (n:Int)):=by
 rw[Fw ∅ ∅,pM];simp[List.range_eq_range']
theorem lN{n:Nat}{q r:AE}{k:Nat}(e:List.range' 0 n=q++k::r):k=q.length/\k<n:=by
 have h:=congrArg (λl=>l[q.length]?) e;simp at h;have:=congrArg List.length e;simp at this;rw[List.getElem?_range' ∅]at h;simp at h;ac_nf
theorem LC{o:AE}{i k:Nat}(hi:i<=o.length)(hl:o.length<1000):gq (o.map nD) (.int (i:Int)) (.int (k:Int))=some ((o.take i++k::o.drop i).map nD):=by
 unfold gq
 have hb:(decide (0<=(i:Int))&&decide ((i:Int)<=((o.map nD).length:Int))&&decide ((o.map nD).length<aA))=true:=by
  rw[qf]
  have h1:(i:Int)<=(o.length:Int):=by ac_nf
  have h2:o.length<1000000:=by ac_nf
  simp[h1,h2]
 show(if _ then _ else _)=_;rw[if_pos hb];simp
theorem y3m(ns:AF)(n:Nat)(hn:n<=60):∃o:AE,o.Perm (List.range n)/\xp [.scr ns,.int n]=some (.lst (o.map nD)):=by
 rw[xp,Ye (by rfl)];have hst:Yd 4 [D.scr ns,.int (n:Int)]=[↑(.scr ns),↑(.int n),none,none]:=rfl
 obtain⟨ρ1,e1,o,y,hp,rfl⟩:=fJ (gt:=aj 3) (fb:=Ik) (λi:Nat=>D.int (i:Int)) (λpre ρ=>∃(o:AE) (y:AQ),o.Perm (List.range pre.length)/\ρ=[↑(.scr ns),↑(.int n),some (.ow (o.map nD)),y]) (List.range' 0 n) []
  [↑(.scr ns),↑(.int n),some (.ow []),none] ⟨[],none,.refl _,rfl⟩ (by
   rintro q k r ρ e ⟨o,y,hp,rfl⟩;obtain⟨hk,hkn⟩:=lN e;have hl:=hp.length_eq;rw[List.length_range]at hl;have hc:=xt ns (3+k) (3+(k:Int)) ∅;generalize ns.getD (3+k) 0=x at hc;obtain⟨v,hv0,hv⟩:=xu x 1283712873162387911
   obtain⟨i,hi⟩:∃i:Nat,v%((k:Int)+1)=(i:Int):=⟨(v%((k:Int)+1)).toNat,by have:=Int.emod_nonneg v (show(k:Int)+1≠0 by ac_nf);ac_nf⟩
   have hlt:=Int.emod_lt_of_pos v (show(0:Int)<(k:Int)+1 by ac_nf)
   have hm:bF (.int v) (.int ((k:Int)+1))=some (.int (i:Int)):=by rw[<-hi];exact NY ∅
   have hins:=LC (o:=o) (i:=i) (k:=k) ∅ ∅;refine⟨_,[↑(.scr ns),↑(.int n),some (.ow ((o.take i++k::o.drop i).map nD)),↑(.int k)],rfl,?_,_,_,?_,rfl⟩
   .generalize (o.take i++k::o.drop i).map nD=XX at *
    generalize o.map nD=OO at *;simp[Ik,hc,hv,hm,hins]
   .rw[qz,ja,List.range_succ,<-hk]
    refine List.perm_middle.trans ?_;rw[List.take_append_drop];rw[<-hk]at hp;exact(List.Perm.cons k hp).trans (List.perm_append_comm (l₁:=[k]))
   )
 have hr:=tw n ∅;refine⟨o,by simpa using hp,?_⟩;rw[hst];generalize o.map nD=OO at *;simp[Il,hr]at e1 ⊢;rw[e1];simp
theorem LD{hs:AG}{i:Nat}(h:i<hs.length):ik (hs.map aE) (.int (i:Int)) (aE false)=some ((hs.set i false).map aE):=by
 show(dM (hs.map aE).length (i:Int)).map _=_
 have:dM (hs.map aE).length (i:Int)=some i:=by
  unfold dM;rw[qf];simp;ac_nf
 rw[this];simp
theorem LF(n:Nat)(u:Int)(h0:0<n)(hn:n<=60)(hu:0<=u):∃hs:AG,hs.length=n/\rC [.int n,.int u]=some (.tup (hs.map aE)):=by
 rw[rC,Ye (by rfl)];have hst:Yd 4 [D.int (n:Int),.int u]=[↑(.int n),↑(.int u),none,none]:=rfl
 obtain⟨m,hm⟩:∃m:Nat,1+u%3=(m:Int):=⟨(1+u%3).toNat,by ac_nf⟩
 have hc:=bV (fe:=P4) (r:=[]) (enc:=λi:Nat=>D.int (i:Int)) (λ_=>aE true) (l:=List.range' 0 n) (λ_ _=>rfl)
 obtain⟨ρ1,e1,hs,y,hl,rfl⟩:=fJ (gt:=aj 3) (fb:=Im) (λi:Nat=>D.int (i:Int)) (λpre ρ=>∃(hs:AG) (y:AQ),hs.length=n/\ρ=[↑(.int n),↑(.int u),some (.ow (hs.map aE)),y]) (List.range' 0 m) []
  [↑(.int n),↑(.int u),some (.ow ((List.range' 0 n).map λ_=>aE true)),none] ⟨(List.range' 0 n).map λ_=>true,none,by simp,by rw[Qf];rfl⟩ (by
   rintro q k r ρ e ⟨hs,y,hl,rfl⟩;obtain⟨hk,hkn⟩:=lN e
   obtain⟨z,hz,hx⟩:∃z:Int,(0<z/\z<1073741824)/\aY [D.int 64,.int 8192,.int 1048576] (k:Int)=some (.int z):=by
    have:k=0\/k=1\/k=2:=by ac_nf
    rcases this with rfl|rfl|rfl
    .exact⟨64,by decide,rfl⟩
    .exact⟨8192,by decide,rfl⟩
    .exact⟨1048576,by decide,rfl⟩
   have hd:eO (.int u) (.int z)=some (.int (u/z)):=Fj hz.1 hz.2
   obtain⟨i,hi⟩:∃i:Nat,u/z%(n:Int)=(i:Int):=⟨(u/z%(n:Int)).toNat,by have:=Int.emod_nonneg (u/z) (show(n:Int)≠0 by ac_nf);ac_nf⟩
   have hlt:=Int.emod_lt_of_pos (u/z) (show(0:Int)<(n:Int) by ac_nf)
   have hm:bF (.int (u/z)) (.int (n:Int))=some (.int (i:Int)):=by rw[<-hi];exact NY ∅
   have hset:=LD (hs:=hs) (i:=i) ∅;have k1:aE false=.str "storm":=rfl;rw[k1]at hset;refine⟨_,[↑(.int n),↑(.int u),some (.ow ((hs.set i false).map aE)),↑(.int k)],rfl,?_,_,_,?_,rfl⟩
   .generalize (hs.set i false).map aE=XX at *
    generalize hs.map aE=OO at *;simp[Im,hx,hd,hm,hset]
   .rw[List.length_set,hl])
 have hr:=tw n ∅;have hr2:=tw m ∅;refine⟨hs,hl,?_⟩;rw[hst];generalize hs.map aE=OO,((List.range' 0 n).map λ_=>aE true)=X0,((List.range' 0 n).map λi:Nat=>D.int (i:Int))=X1,((List.range' 0 m).map λi:Nat=>D.int (i:Int))=X2 at *;simp[P5,hr,hr2,hm,hc,ao]at e1 ⊢;rw[e1];simp
def aJ(v:Int)(x:Nat):Bool:=decide (v/2^x%2=1)
def tB(v:Int)(x:Nat):decide (v/2^x%2=0)=!aJ v x:=by
 unfold aJ;rcases Int.emod_two_eq (v/2^x)with h|h<;>simp[h]
def lO(v:Int)(x:Nat):decide (v/2^x%2=1)=aJ v x:=rfl
def lP{o:AE}{i:Nat}(h:i<o.length):aY (o.map nD) (i:Int)=some (.int (o.getD i 0:Nat)):=by
 rw[gW,kK h];simp[h]
def tD(v:Int)(a b j:Nat):fV [.lst [.tup [.int (a:Int),.bl (!aJ v a)],.tup [.int (b:Int),.bl (aJ v b)]]]=some ((cf [(a,!aJ v a),(b,aJ v b)]).map af):=rH (l:=[(a,!aJ v a),(b,aJ v b)]) nofun
theorem LG{a b:Nat}(h:a≠b):fV [.lst [.int (a:Int),.int (b:Int)]]=some ((if a<b then [a,b]else [b,a]).map nD):=by
 obtain⟨l',p,s,e⟩:=IU [a,b] (by simpa using h) nofun
 have:l'=if a<b then [a,b]else [b,a]:=by
  refine List.Perm.eq_of_pairwise (le:=(·<·)) (λx y _ _ h1 h2=>by ac_nf) s ?_ (p.trans ?_)
  .split<;>simp<;>ac_nf
  .split
   .exact .refl _
   .exact .swap ..
 rw[<-this];exact e
def LH(k:Kd)(bt:AH)(p:Nat->Nat)(m:Nat):(d6 k bt p (m+1)).map aO=(d6 k bt p m).map aO++[aO (lk k bt m (p m) (p (m+1)))]:=by
 unfold d6;rw[List.range_succ];simp
def tE(k:Kd)(bt:AH)(p:Nat->Nat)(m:Nat):((d6 k bt p m).map aO).length=m:=by simp[d6]
theorem LI(k:Kd){o:AE}{v:Int}{ring:D}{j:Nat}(hn:o.length<=60)(hj:j+1<o.length)(hne:o.getD j 0≠o.getD (j+1) 0)(y6 y7:AQ):Io [↑(aW k),↑(.lst (o.map nD)),↑(.int v),↑ring,some (.ow ((d6 k (aJ v) (λi=>o.getD i 0) j).map aO)),↑(.int j),y6,y7]=some (.nx [↑(aW k),↑(.lst (o.map nD)),↑(.int v),↑ring,some (.ow ((d6 k (aJ v) (λi=>o.getD i 0) (j+1)).map aO)),↑(.int j),↑(.int (o.getD j 0:Nat)),↑(.int (o.getD (j+1) 0:Nat))]):=by
 have g1:=lP (o:=o) (i:=j) ∅;have g2:=lP (o:=o) (i:=j+1) hj;have e1:((j+1:Nat):Int)=(j:Int)+1:=rfl;rw[e1]at g2;rw[LH];have hl:=tE k (aJ v) (λi=>o.getD i 0) j;generalize (d6 k (aJ v) (λi=>o.getD i 0) j).map aO=CC,o.map nD=OO,o.getD j 0=a,o.getD (j+1) 0=b at *;have ha:=mh v a;have hb:=mh v b;have hj:=mh v j;refine dW (ρ':=[↑(aW k),↑(.lst OO),↑(.int v),↑ring,some (.ow CC),↑(.int j),↑(.int a),y7]) ?_ (dW (ρ':=[↑(aW k),↑(.lst OO),↑(.int v),↑ring,some (.ow CC),↑(.int j),↑(.int a),↑(.int b)]) ?_ ?_)
 .generalize aW k=kd
  simp[g1]
 .generalize aW k=kd
  simp[g2]
 .have hcap:CC.length<1000000:=by ac_nf
  cases k with
  | e=>
    have k1:aW .e=.str "eithers":=rfl;have e2:=cX "eithers" false;simp only[Bool.not_false]at e2;have hs:=tD v a b j;have hr:aO (lk .e (aJ v) j a b)=.tup ((cf [(a,!aJ v a),(b,aJ v b)]).map af):=rfl;rw[k1,hr];generalize (cf [(a,!aJ v a),(b,aJ v b)]).map af=XX at *;have hap:=iC (d:=.tup XX) hcap;simp[e2,ha,hb,tB,lO,hs,hap]
  | s=>
    have k1:aW .s=.str "sums":=rfl;have e1:=Yu (a:="sums") (b:="eithers") (by decide +kernel) false;have e2:=cX "sums" false;simp only[Bool.not_false]at e2;have hs:=LG hne;have hr:aO (lk .s (aJ v) j a b)=.tup [.tup ((if a<b then [a,b]else [b,a]).map nD),.bl (aJ v j)]:=rfl;rw[k1,hr];generalize (if a<b then [a,b]else [b,a]).map nD=XX at *;have hap:=iC (d:=.tup [.tup XX,.bl (aJ v j)]) hcap;simp[e1,e2,hj,lO,hs,hap]
  | i=>
    have k1:aW .i=.str "ifs":=rfl;have e1:=Yu (a:="ifs") (b:="eithers") (by decide +kernel) false;have e2:=Yu (a:="ifs") (b:="sums") (by decide +kernel) false;have hr:aO (lk .i (aJ v) j a b)=.tup [.tup [.int a],.int b]:=rfl;rw[k1,hr];have hap:=iC (d:=.tup [.tup [.int a],.int b]) hcap;simp[e1,e2,hap]
  | n=>
    have k1:aW .n=.str "nots":=rfl;have e1:=Yu (a:="nots") (b:="eithers") (by decide +kernel) false;have e2:=Yu (a:="nots") (b:="sums") (by decide +kernel) false;have hr:aO (lk .n (aJ v) j a b)=.tup [.tup [.int a],.int b]:=rfl;rw[k1,hr];have hap:=iC (d:=.tup [.tup [.int a],.int b]) hcap;simp[e1,e2,hap]
theorem LJ{kd:D}{o:AE}{v:Int}{C:AN}(hC:C.length<=60)(hn:0<o.length)(e2:az false kd (.str "eithers")=some true)(y5 y6 y7:AQ):∃z6 z7,Ip [↑kd,↑(.lst (o.map nD)),↑(.int v),↑(.bl true),some (.ow C),y5,y6,y7]=P6 [↑kd,↑(.lst (o.map nD)),↑(.int v),↑(.bl true),some (.ow (C++[aO (lk .e (aJ v) 0 (o.getD (o.length-1) 0) (o.getD 0 0))])),y5,z6,z7]:=by
 have g1:aY (o.map nD) (-1)=some (.int (o.getD (o.length-1) 0:Nat)):=by
  have e:dM (o.map nD).length (-1)=some (o.length-1):=by
   unfold dM;rw[qf,if_neg ∅,if_pos ∅]
   congr 1
   ac_nf
  have hx:o[o.length-1]?=some (o[o.length-1]'∅):=qr _;unfold aY;rw[e,qd,Qm,List.getD_eq_getElem?_getD,hx];rfl
 have g2:=lP (o:=o) (i:=0) hn;have e0:((0:Nat):Int)=0:=rfl;rw[e0]at g2;generalize o.map nD=OO,o.getD (o.length-1) 0=a,o.getD 0 0=b at *;have ha:=mh v a;have hb:=mh v b;have hs:=tD v a b 0;have hr:aO (lk .e (aJ v) 0 a b)=.tup ((cf [(a,!aJ v a),(b,aJ v b)]).map af):=rfl;rw[hr];generalize (cf [(a,!aJ v a),(b,aJ v b)]).map af=XX at *;have hap:=iC (l:=C) (d:=.tup XX) ∅;refine⟨_,_,dW (ρ':=[↑kd,↑(.lst OO),↑(.int v),↑(.bl true),some (.ow (C++[.tup XX])),y5,↑(.int a),↑(.int b)]) ?_ rfl⟩;simp[e2,g1,g2,ha,hb,tB,lO,hs,hap]
theorem y3n(k:Kd){o:AE}(v:Int)(ring:Bool)(h2:2<=o.length)(hn:o.length<=60)(hj:∀i j,i<o.length->j<o.length->o.getD i 0=o.getD j 0->i=j):mW [aW k,.lst (o.map nD),.int v,.bl ring]=some (bq k (eI k (aJ v) (λi=>o.getD i 0) o.length ring)):=by
 rw[mW,Ye (by rfl)];have hst:Yd 8 [aW k,.lst (o.map nD),.int v,.bl ring]=[↑(aW k),↑(.lst (o.map nD)),↑(.int v),↑(.bl ring),none,none,none,none]:=rfl
 obtain⟨ρ1,e1,y5,y6,y7,rfl⟩:=fJ (gt:=aj 5) (fb:=Io) (λi:Nat=>D.int (i:Int)) (λpre ρ=>∃(y5 y6 y7:AQ),ρ=[↑(aW k),↑(.lst (o.map nD)),↑(.int v),↑(.bl ring),some (.ow ((d6 k (aJ v) (λi=>o.getD i 0) pre.length).map aO)),y5,y6,y7]) (List.range' 0 (o.length-1)) []
  [↑(aW k),↑(.lst (o.map nD)),↑(.int v),↑(.bl ring),some (.ow []),none,none,none] ⟨none,none,none,rfl⟩ (by
   rintro q i r ρ e ⟨y5,y6,y7,rfl⟩;obtain⟨hk,hkn⟩:=lN e;rw[qz,ja,<-hk]
   exact⟨_,_,rfl,LI k hn ∅ (λz=>by have:=hj _ _ ∅ ∅ z;ac_nf) y6 y7,_,_,_,rfl⟩)
 have hr:=tw (o.length-1) ∅
 have hlen:((o.length-1:Nat):Int)=(o.length:Int)-1:=by ac_nf
 rw[hlen]at hr
 have hll:(o.map nD).length=o.length:=by simp
 have hb:bq k (eI k (aJ v) (λi=>o.getD i 0) o.length ring)=.tup [aW k,.tup ((d6 k (aJ v) (λi=>o.getD i 0) (o.length-1)).map aO++if iY k ring=true then [aO (lk .e (aJ v) 0 (o.getD (o.length-1) 0) (o.getD 0 0))]else [])]:=by
  unfold eI;show D.tup [_,.tup (List.map aO _)]=_;rw[wt];cases iY k ring<;>rfl
 have hC:=tE k (aJ v) (λi=>o.getD i 0) (o.length-1)
 have hfin:Ip [↑(aW k),↑(.lst (o.map nD)),↑(.int v),↑(.bl ring),some (.ow ((d6 k (aJ v) (λi=>o.getD i 0) (o.length-1)).map aO)),y5,y6,y7]=some (.rt (bq k (eI k (aJ v) (λi=>o.getD i 0) o.length ring))):=by
  rw[hb]
  cases q:iY k ring with
  | true=>
    obtain⟨rfl,rfl⟩:k=.e/\ring=true:=by cases k<;>cases ring<;>first|exact⟨rfl,rfl⟩|cases q
    have e2:=cX "eithers" false;simp only[Bool.not_false]at e2;obtain⟨z6,z7,z⟩:=LJ (kd:=aW .e) (o:=o) (v:=v) (by rw[hC];ac_nf) ∅ e2 y5 y6 y7;rw[z,if_pos rfl];generalize (d6 .e (aJ v) (λi=>o.getD i 0) (o.length-1)).map aO++[aO (lk .e (aJ v) 0 (o.getD (o.length-1) 0) (o.getD 0 0))]=XX,o.map nD=OO at *;simp
  | false=>
    have e2:az false (aW k) (.str "eithers")=some (decide (k=.e)):=by
     cases k with
     | e=>exact cX "eithers" false
     | s=>exact Yu (a:="sums") (b:="eithers") (by decide +kernel) false
     | i=>exact Yu (a:="ifs") (b:="eithers") (by decide +kernel) false
     | n=>exact Yu (a:="nots") (b:="eithers") (by decide +kernel) false
    unfold iY at q;rw[if_neg nofun,w6];generalize (d6 k (aJ v) (λi=>o.getD i 0) (o.length-1)).map aO=XX,o.map nD=OO,aW k=kd,decide (k=.e)=w at *
    cases w<;>cases ring<;>first|exact absurd q (by decide)|simp[e2]
 rw[hst];generalize bq k (eI k (aJ v) (λi=>o.getD i 0) o.length ring)=BB at *
 have hl2:([]++List.range' 0 (o.length-1)).length=o.length-1:=by simp
 rw[hl2]at e1;generalize (d6 k (aJ v) (λi=>o.getD i 0) (o.length-1)).map aO=CC,o.map nD=OO,aW k=kd at *
 have hrun:P8 [↑kd,↑(.lst OO),↑(.int v),↑(.bl ring),none,none,none,none]=some (.rt BB):=by
  refine dW (ρ':=[↑kd,↑(.lst OO),↑(.int v),↑(.bl ring),some (.ow []),none,none,none]) nofun (dW ?_ hfin);simp[hr,hll,e1]
 rw[hrun];rfl
section
variable {k:Kd}{bk o ord hh p:D}{bits:Int}{ring w:Bool}{S:AE}
def l_1(h:mW [aW k,ord,.int bits,.bl ring]=some bk)(a0 a1 a2 a4 a6 y9 y10 y11 y12:AQ):ar 9 (cC (Yb (ab 8) (Yb (ab 7) (Yb (ab 3) (Yb (ab 5) ae)))) mW) [a0,a1,a2,↑(.int bits),a4,↑(.bl ring),a6,↑ord,↑(aW k),y9,y10,y11,y12]=some (.nx [a0,a1,a2,↑(.int bits),a4,↑(.bl ring),a6,↑ord,↑(aW k),↑bk,y10,y11,y12]):=by
 generalize aW k=kd at *;simp[h]
theorem l_3(a0 a1 a2 a3 a4 a6 a7 a9 a10 y11 y12:AQ):ar 11 (ig (mB (b2 (aa 8) (kD (.str "sums")) (az false))) (bO (mB (b2 (aa 8) (kD (.str "eithers")) (az false))) (ab 5))) [a0,a1,a2,a3,a4,↑(.bl ring),a6,a7,↑(aW k),a9,a10,y11,y12]=some (.nx [a0,a1,a2,a3,a4,↑(.bl ring),a6,a7,↑(aW k),a9,a10,↑(.bl (gb k ring)),y12]):=by
 have e1:az false (aW k) (.str "sums")=some (decide (k=.s)):=by
  cases k with
  | s=>exact cX "sums" false
  | e=>exact Yu (a:="eithers") (b:="sums") (by decide +kernel) false
  | i=>exact Yu (a:="ifs") (b:="sums") (by decide +kernel) false
  | n=>exact Yu (a:="nots") (b:="sums") (by decide +kernel) false
 have e2:az false (aW k) (.str "eithers")=some (decide (k=.e)):=by
  cases k with
  | e=>exact cX "eithers" false
  | s=>exact Yu (a:="sums") (b:="eithers") (by decide +kernel) false
  | i=>exact Yu (a:="ifs") (b:="eithers") (by decide +kernel) false
  | n=>exact Yu (a:="nots") (b:="eithers") (by decide +kernel) false
 unfold gb iY;generalize decide (k=.s)=u,decide (k=.e)=v,aW k=kd at *;cases u<;>cases v<;>simp[ig,bO,e1,e2,gR]
theorem l_4{t:Bool}(hS:S.length<=60)(a0 a1 a2 a3 a4 a5 a7 a8 a9 y12:AQ):aP (du (b2 (cC (Yb (aa 6) ae) bw) (aaa 1) gP) (bC (b2 (cC (Yb (aa 6) ae) bw) (aaa 1) (az false)) (bC (b1 (aa 11) aD) (b2 (b2 (aa 6) (aaa 0) ai) (aaa 0) gP)))) (ar 10 (kD (.str "storm"))) au [a0,a1,a2,a3,a4,a5,some (.ow (S.map nD)),a7,a8,a9,↑(aE true),↑(.bl t),y12]=some (.nx [a0,a1,a2,a3,a4,a5,some (.ow (S.map nD)),a7,a8,a9,↑(aE (!b9 S t)),↑(.bl t),y12]):=by
 have hst:D.str "storm"=aE false:=rfl;rw[hst];generalize hd1:aE true=d1;generalize hd0:aE false=d0
 match S,hS with
 | [],_=>simp[b9,hd1]
 | [s],_=>
   by_cases z:0<s
   .cases t<;>simp[b9,z,hd1,hd0]
   .cases t<;>simp[b9,z,hd1,hd0]
 | s::s'::S,_=>
   have h:(1:Int)<(S.length:Int)+1+1:=by ac_nf
   simp[b9,hd0,h]
def l_5(h:k8 [bk,hh,.int 0]=some o)(a0 a1 a2 a3 a5 a6 a7 a8 a10 a11 y12:AQ):ar 12 (cC (gD (Yb (ab 9) (Yb (ab 4) ae))) k8) [a0,a1,a2,a3,↑hh,a5,a6,a7,a8,↑bk,a10,a11,y12]=some (.nx [a0,a1,a2,a3,↑hh,a5,a6,a7,a8,↑bk,a10,a11,↑o]):=by
 simp[h]
theorem l_6(h:iM [o,bk,hh,.int 0]=some (.bl true))(i1:Yc o=some [aE w,p])(a0 a1 a2 a3 a5 a6 a7 a8 a11:AQ):aP (du (bu (b1 (cC (Yb (ab 12) (Yb (ab 9) (Yb (ab 4) (Yb (aaa 0) ae)))) iM) aD)) (b2 (b2 (aa 12) (aaa 0) ai) (aa 10) (az true))) (ah (kD (.bl false))) au [a0,a1,a2,a3,↑hh,a5,a6,a7,a8,↑bk,↑(aE w),a11,↑o]=some (.nx [a0,a1,a2,a3,↑hh,a5,a6,a7,a8,↑bk,↑(aE w),a11,↑o]):=by
 have hq:az true (aE w) (aE w)=some false:=by
  rw[fI (by cases w<;>simp[aE]) (by cases w<;>simp[aE])];cases w<;>simp[aE]
 generalize aE w=hu at *;simp[h,i1,hq]
end
theorem LK{o:AE}{n:Nat}(hp:o.Perm (List.range n)):o.length=n/\(∀i,i<n->o.getD i 0<n)/\(∀i j,i<n->j<n->o.getD i 0=o.getD j 0->i=j)/\∀x,x<n->∃i,i<n/\o.getD i 0=x:=by
 have hl:o.length=n:=by rw[hp.length_eq,List.length_range]
 have hd:o.Nodup:=hp.nodup_iff.mpr List.nodup_range;subst hl;refine⟨rfl,λi hi=>?_,λi j hi hj e=>?_,λx hx=>?_⟩
 .have:o.getD i 0∈o:=by simp[hi]
  exact Qb (hp.mem_iff.mp this)
 .simp[hi,hj]at e
  exact(List.getElem_inj hd).mp e
 .obtain⟨i,hi,e⟩:=List.mem_iff_getElem.mp (hp.mem_iff.mpr (List.mem_range.mpr hx))
  exact⟨i,hi,by simp[hi,e]⟩
theorem LM{hs:AG}{n:Nat}{ord:AE}(k:Kd)(bits:Int)(ring:Bool)(hl:hs.length=n)(h6:n<=60)(h2:2<=n)(hp:ord.Perm (List.range n))(a0 a1 a2 y9 y10 y11 y12:AQ):∃z9 z10 z11 z12,xq [a0,a1,a2,↑(.int bits),↑(.tup (hs.map aE)),↑(.bl ring),some (.ow ((aw hs 0 false).map nD)),↑(.lst (ord.map nD)),↑(aW k),y9,y10,y11,y12]=some (.nx [a0,a1,a2,↑(.int bits),↑(.tup (hs.map aE)),↑(.bl ring),some (.ow ((aw hs 0 false).map nD)),↑(.lst (ord.map nD)),↑(aW k),z9,z10,z11,z12]):=by
 obtain⟨ho,o1,o2,o3⟩:=LK hp;have hc:=y3n k (o:=ord) bits ring ∅ ∅ (by rw[ho];exact o2);rw[ho]at hc;obtain⟨pl,g1,g2⟩:=LB (k:=k) (bt:=aJ bits) (ring:=ring) hl h6 h2 o1 o2 o3
 have hS:(aw hs 0 false).length<=60:=by
  have:=lh n _ (lJ hs 0 false) λx hx=>by have:=(mem_ofH.mp hx).1;ac_nf
  ac_nf
 have io:Yc (bE (b9 (aw hs 0 false) (gb k ring)) (.tup pl))=some [aE (!b9 (aw hs 0 false) (gb k ring)),.tup pl]:=by cases b9 (aw hs 0 false) (gb k ring)<;>rfl
 exact⟨_,_,_,_,dW (l_1 hc _ _ _ _ _ _ _ _ _) (dW rfl (dW (l_3 _ _ _ _ _ _ _ _ _ _ _) (dW (l_4 hS _ _ _ _ _ _ _ _ _ _) (dW (l_5 g1 _ _ _ _ _ _ _ _ _ _ _) (l_6 g2 io _ _ _ _ _ _ _ _ _)))))⟩
def LN{hs:AG}{n:Nat}{ord:AE}(bits:Int)(ring:Bool)(hl:hs.length=n)(h6:n<=60)(h2:2<=n)(hp:ord.Perm (List.range n))(a0 a1 a2:AQ):rE [a0,a1,a2,↑(.int bits),↑(.tup (hs.map aE)),↑(.bl ring),some (.ow ((aw hs 0 false).map nD)),↑(.lst (ord.map nD)),none,none,none,none,none]=some (.rt (.bl true)):=by
 obtain⟨ρ',f1,z8,z9,z10,z11,z12,rfl⟩:=fJ (gt:=aj 8) (fb:=xq) aW (λ_ ρ=>∃z8 z9 z10 z11 z12,ρ=[a0,a1,a2,↑(.int bits),↑(.tup (hs.map aE)),↑(.bl ring),some (.ow ((aw hs 0 false).map nD)),↑(.lst (ord.map nD)),z8,z9,z10,z11,z12]) ([.s,.n,.e,.i]:List Kd) []
  [a0,a1,a2,↑(.int bits),↑(.tup (hs.map aE)),↑(.bl ring),some (.ow ((aw hs 0 false).map nD)),↑(.lst (ord.map nD)),none,none,none,none,none] ⟨_,_,_,_,_,rfl⟩ (by
   rintro p k r ρ e ⟨z8,z9,z10,z11,z12,rfl⟩;obtain⟨y9,y10,y11,y12,g⟩:=LM k bits ring hl h6 h2 hp a0 a1 a2 z9 z10 z11 z12
   exact⟨_,_,rfl,g,_,_,_,_,_,rfl⟩)
 have hf':M.forM (aj 8) xq [.str "sums",.str "nots",.str "eithers",.str "ifs"] _=_:=f1;generalize hs.map aE=HH,(aw hs 0 false).map nD=SS,ord.map nD=OO at *;exact dW (by simp[hf'];rfl) rfl
theorem law_true(ns:AF)(hns:ns.length<=63):lb [.scr ns]=some (.bl true):=by
 rw[lb,Ye (by rfl)];have hst0:Yd 13 [D.scr ns]=[↑(.scr ns),none,none,none,none,none,none,none,none,none,none,none,none]:=rfl;rw[hst0];have c0:=xt ns 0 0 rfl;have c1:=xt ns 1 1 rfl;have c2:=xt ns 2 2 rfl;generalize ns.getD 0 0=x0 at c0;generalize ns.getD 1 0=x1 at c1;generalize ns.getD 2 0=x2 at c2
 obtain⟨n,hn⟩:∃n:Nat,2+x0%59=(n:Int):=⟨(2+x0%59).toNat,by lia⟩
 obtain⟨u,hu0,hu⟩:=xu x1 1865811235122147685;obtain⟨v,hv0,hv⟩:=xu x2 2049848353892358983;obtain⟨hs,hl,hh⟩:=ZU x1 n (by lia);obtain⟨hs',hl',hh'⟩:=LF n (u/3) (by lia) (by lia) (by lia);obtain⟨ord,hp,ho⟩:=y3m ns n (by lia)
 obtain⟨g,hg,e4⟩:∃g:AG,g.length=n/\aP (b2 (b2 (aa 2) (aaa 3) bF) (aaa 0) gP) (ar 4 (cC (Yb (ab 1) (Yb (b2 (aa 2) (aaa 3) eO) ae)) rC)) au [↑(.scr ns),↑(.int n),↑(.int u),↑(.int v),↑(.tup (hs.map aE)),none,none,none,none,none,none,none,none]=some (.nx [↑(.scr ns),↑(.int n),↑(.int u),↑(.int v),↑(.tup (g.map aE)),none,none,none,none,none,none,none,none]):=by
  by_cases q:0<u%3
  .refine⟨hs',hl',?_⟩
   generalize hs.map aE=A,hs'.map aE=A' at *;simp[q,hh']
  .refine⟨hs,hl,?_⟩
   generalize hs.map aE=A at *;simp[q]
 have hr:=tw n (by lia)
 have hc:=gX (fc:=Ir) (fe:=P9) (r:=[↑(.tup (g.map aE))]) (enc:=λi:Nat=>D.int (i:Int)) (λi=>decide (0<=i)&&(g.getD i false==false)) (λi:Nat=>nD i) (l:=List.range' 0 n) (λj hj=>by
  have hj':j<n:=by simpa using hj
  have g1:aY (g.map aE) (j:Int)=some (aE (g.getD j false)):=by
   rw[gW,kK (by lia)];simp[hg,hj']
  have q1:az false (aE (g.getD j false)) (.str "storm")=some (g.getD j false==false):=rS _ false;generalize g.map aE=A,g.getD j false=b1 at *;generalize aE b1=hb at *
  simp[Ir,g1,q1]) (λ_ _ _=>rfl)
 have hS:((List.range' 0 n).filter λi=>decide (0<=i)&&(g.getD i false==false))=aw g 0 false:=by
  unfold aw;rw[hg,List.range_eq_range']
 rw[hS]at hc;have hloop:=LN v (decide (v%2=1)) hg (by lia) (by lia) hp (↑(.scr ns)) (↑(.int n)) (↑(.int u));generalize (aw g 0 false).map nD=SS,((List.range' 0 n).map λi:Nat=>D.int (i:Int))=GG,hs.map aE=A,g.map aE=A2,ord.map nD=OO at *
 have hfin:rF [↑(.scr ns),none,none,none,none,none,none,none,none,none,none,none,none]=some (.rt (.bl true)):=by
  refine dW (ρ':=[↑(.scr ns),↑(.int n),none,none,none,none,none,none,none,none,none,none,none]) (by simp[c0,hn]) ?_;refine dW (ρ':=[↑(.scr ns),↑(.int n),↑(.int u),none,none,none,none,none,none,none,none,none,none]) (by simp[c1,hu]) ?_;refine dW (ρ':=[↑(.scr ns),↑(.int n),↑(.int u),↑(.int v),none,none,none,none,none,none,none,none,none]) (by simp[c2,hv]) ?_;refine dW (ρ':=[↑(.scr ns),↑(.int n),↑(.int u),↑(.int v),↑(.tup A),none,none,none,none,none,none,none,none]) (by simp[c1,hh]) ?_;refine dW e4 ?_;refine dW (ρ':=[↑(.scr ns),↑(.int n),↑(.int u),↑(.int v),↑(.tup A2),↑(.bl (decide (v%2=1))),none,none,none,none,none,none,none]) nofun ?_;refine dW (ρ':=[↑(.scr ns),↑(.int n),↑(.int u),↑(.int v),↑(.tup A2),↑(.bl (decide (v%2=1))),some (.ow SS),none,none,none,none,none,none]) (by simp[hr,hc,ao]) ?_;exact dW (by simp[ho]) hloop
 rw[hfin];rfl
end Lw
end
noncomputable section
namespace Op
open PySem PySem.W PyProof.Rows PySem.Calls
noncomputable abbrev pg:P7:=PySem.Challenge.pw_duskbook_k50_great_chains
abbrev en(P:Params)(x:Str)(t:Nat)(v:Value):DictEntry:=⟨PyData.keyHash P x,.str x t,v⟩
abbrev fn(e a:Str)(s:Stmt)(i k c h:Value)(f:Option Addr)(d j:Value)(g b:Nat):Data:=.func ⟨e,a,L2.aDa s,.stmts (L2.aCa s),L2.aAa s,g,[],i,k,c,h,f,d,j,b⟩
noncomputable abbrev tu(l:AC):Obj:=⟨.type "tuple",none,.seq ⟨l⟩ 0,#[]⟩
abbrev iz(n:Int):Value:=.int n 0
noncomputable abbrev rf(n:Nat):Value:=.ref n
abbrev Z'(P:Params)(x:Str)(t n:Nat):=en P x t (rf n)
noncomputable abbrev fl:Obj:=⟨.none,none,.fields #[],#[]⟩
abbrev oZ(x:Str)(i:Nat):Obj:=⟨.none,none,fn x x (Lw.top i) .none .none .none .none none .none .none 0 0,#[]⟩
abbrev oF(x:Str)(i:Nat)(d:Value)(c:Nat):Obj:=⟨.type "function",none,.func (fnOf x x (L2.aDa (Lw.top i)) (L2.aCa (Lw.top i)) (L2.aAa (Lw.top i)) .none .none .none d none (.ref c) .none),#[]⟩
noncomputable abbrev oC(x:Str)(t l n b:Nat)(u v:Value)(c k e:Nat):Obj:=⟨.type "code",none,.fields #[.str x t,.str x (t+1),.str "/claim/cut.py" (t+2),.int (.ofNat l) 0,.int (.ofNat n) 0,.int 0 0,.int 0 0,.int 3 0,.ref b,.bool true,.int (.ofNat k) 0,.ref (b+1),.none,u,v,.ref c,.int (.ofNat e) 0,.int (.ofNat l) 0,.str "/claim/cut.py" (e+1)],#[]⟩
abbrev p0:Value:=(.str "duskbook.roads" 187)
abbrev p1:Value:=(.str "duskbook.blends" 233)
abbrev p2:Value:=(.str "duskbook.parts" 260)
abbrev p3:Value:=(.str "duskbook.adding" 275)
abbrev p4:Value:=(.str "duskbook.books" 318)
abbrev p5:Value:=(.str "duskbook.deriving" 381)
abbrev p6:Value:=(.str "duskbook.storming" 440)
abbrev p7:Value:=(.str "duskbook.eitherways" 554)
abbrev p8:Value:=(.str "duskbook.keeping" 648)
abbrev p9:Value:=(.str "duskbook.ifways" 753)
abbrev jK:Value:=(.str "duskbook.sumways" 803)
abbrev RG:Value:=(.str "duskbook.checking" 849)
abbrev dJ:Value:=(.str "law_duskbook_k50_great_chains" 862)
def et0(P:Params):List DictEntry:=[en P "__doc__" 166 .none,en P "__package__" 167 .none,en P "__loader__" 168 (.builtin "__main__.__loader__#opaque"),en P "__spec__" 169 .none,Z' P "__annotations__" 170 6,Z' P "__builtins__" 171 4,en P "__file__" 173 (.str "/claim/cut.py" 172),en P "__cached__" 174 .none,Z' P "contrary" 195 21,Z' P "led_to" 201 26,Z' P "is_road" 210 33,Z' P "traced" 220 40,Z' P "ways_from" 232 47,Z' P "EXCHANGED_KINDS" 247 48,Z' P "exchanged_rule" 253 53,Z' P "exchanged" 259 58,Z' P "beacons_with" 267 63,Z' P "is_rising" 274 70,Z' P "both_added" 284 77,Z' P "added" 294 84,Z' P "pairs_added" 302 91,Z' P "cleared" 311 98,Z' P "reduced" 317 103,Z' P "either_holds" 325 108,Z' P "sum_holds" 331 113,Z' P "if_holds" 337 118,Z' P "rule_holds" 346 125,Z' P "broken_rules" 352 130,Z' P "holds" 360 137,Z' P "beacons_in" 366 142,Z' P "is_void" 374 149,Z' P "without" 380 154,Z' P "is_place" 390 161,Z' P "body_is_known" 396 166,Z' P "is_step" 406 173,Z' P "is_derivation" 417 180,Z' P "derived" 423 185,Z' P "step_to_more" 433 192,Z' P "derived_in_full" 439 197,Z' P "is_broken" 447 202]
def et1(P:Params):List DictEntry:=[Z' P "lead_there_and_back" 456 209,Z' P "clash_good" 465 216,Z' P "cross_good" 474 223,Z' P "late_good" 485 230,Z' P "odd_good" 491 235,Z' P "first_ones" 497 240,Z' P "is_first_part" 507 247,Z' P "is_last_part" 519 254,Z' P "lone_good" 531 261,Z' P "either_paper_good" 541 268,Z' P "storm_good" 553 275,Z' P "sayings_of" 564 282,Z' P "lead_to_one_another" 573 289,Z' P "clash_found" 582 296,Z' P "cross_found" 592 303,Z' P "late_found" 603 310,Z' P "storms_paper" 609 315,Z' P "free_saying" 618 322,Z' P "truths_made" 630 329,Z' P "plan_row" 641 336,Z' P "either_outcome" 647 341,Z' P "rows_by_beacon" 655 346,Z' P "is_plan_row" 663 353,Z' P "come_to" 672 360,Z' P "either_is_kept" 678 365,Z' P "plan_good" 684 370,Z' P "is_sum_row" 690 375,Z' P "replaced" 701 382,Z' P "sums_good" 707 387,Z' P "are_some_of" 713 392,Z' P "ahead_of" 719 397,Z' P "is_row" 728 404,Z' P "holds_where_lit" 734 409,Z' P "rows_good" 740 414,Z' P "keeper_good" 752 421,Z' P "places_to_none" 764 428,Z' P "places_to_beacon" 770 433,Z' P "some_of" 776 438,Z' P "facts_beside" 785 445,Z' P "if_outcome" 802 452]
def et2(P:Params):List DictEntry:=[Z' P "last_beacon" 811 459,Z' P "storms_places" 817 464,Z' P "sum_rows" 823 469,Z' P "sum_outcome" 836 476,Z' P "outcome" 848 484,Z' P "good" 861 491,Z' P "_law_cell" 871 498,Z' P "_law_mixed" 879 505,Z' P "_law_hands" 885 510,Z' P "_law_own" 891 515,Z' P "_law_plain" 897 520,Z' P "_law_truths" 903 525,Z' P "_law_good" 913 532,Z' P "_law_order" 923 539,Z' P "_law_few" 929 544,Z' P "_law_chain" 943 551,Z' P "law" 949 556]
def et(P:Params):List DictEntry:=et0 P++et1 P++et2 P
abbrev ns(P:Params)(x:DictEntry)(n k:Nat):Obj:=⟨.type "dict",none,.dict ⟨x::(et P).take n⟩ k,#[]⟩
def ff0:AC:=[iz 2,iz 0,rf 20,iz 4,iz 0,rf 25,iz 12,iz 0,rf 32,iz 17,iz 0,rf 39,iz 24,iz 0,rf 46,iz 37,iz 0,rf 52,iz 43,iz 0,rf 57,iz 47,iz 0,rf 62,iz 49,iz 0,rf 69,iz 52,iz 0,rf 76,iz 54,iz 0,rf 83,iz 59,iz 0,rf 90,iz 61,iz 0,rf 97,iz 66]
def ff1:AC:=[iz 0,rf 102,iz 78,iz 0,rf 107,iz 80,iz 0,rf 112,iz 83,iz 0,rf 117,iz 87,iz 0,rf 124,iz 93,iz 0,rf 129,iz 95,iz 0,rf 136,iz 97,iz 0,rf 141,iz 103,iz 0,rf 148,iz 105,iz 0,rf 153,iz 108,iz 0,rf 160,iz 110,iz 0,rf 165,iz 112,iz 0,rf 172,iz 117,iz 0]
def ff2:AC:=[rf 179,iz 124,iz 0,rf 184,iz 127,iz 0,rf 191,iz 132,iz 0,rf 196,iz 142,iz 0,rf 201,iz 144,iz 0,rf 208,iz 148,iz 0,rf 215,iz 150,iz 0,rf 222,iz 154,iz 0,rf 229,iz 158,iz 0,rf 234,iz 165,iz 0,rf 239,iz 170,iz 0,rf 246,iz 174,iz 0,rf 253,iz 180,iz 0,rf 260]
def ff3:AC:=[iz 186,iz 0,rf 267,iz 194,iz 0,rf 274,iz 209,iz 0,rf 281,iz 214,iz 0,rf 288,iz 216,iz 0,rf 295,iz 222,iz 0,rf 302,iz 228,iz 0,rf 309,iz 234,iz 0,rf 314,iz 240,iz 0,rf 321,iz 243,iz 0,rf 328,iz 251,iz 0,rf 335,iz 256,iz 0,rf 340,iz 266,iz 0,rf 345,iz 268]
def ff4:AC:=[iz 0,rf 352,iz 270,iz 0,rf 359,iz 275,iz 0,rf 364,iz 278,iz 0,rf 369,iz 283,iz 0,rf 374,iz 285,iz 0,rf 381,iz 291,iz 0,rf 386,iz 296,iz 0,rf 391,iz 298,iz 0,rf 396,iz 300,iz 0,rf 403,iz 302,iz 0,rf 408,iz 304,iz 0,rf 413,iz 311,iz 0,rf 420,iz 324,iz 0]
def ff5:AC:=[rf 427,iz 329,iz 0,rf 432,iz 334,iz 0,rf 437,iz 336,iz 0,rf 444,iz 338,iz 0,rf 451,iz 355,iz 0,rf 458,iz 357,iz 0,rf 463,iz 362,iz 0,rf 468,iz 370,iz 0,rf 475,iz 379,iz 0,rf 483,iz 388,iz 0,rf 490,iz 393,iz 0,rf 497,iz 397,iz 0,rf 504,iz 399,iz 0,rf 509]
def ff6:AC:=[iz 402,iz 0,rf 514,iz 404,iz 0,rf 519,iz 408,iz 0,rf 524,iz 414,iz 0,rf 531,iz 420,iz 0,rf 538,iz 425,iz 0,rf 543,iz 430,iz 0,rf 550,iz 446,iz 0,rf 555]
def ff:AC:=ff0++ff1++ff2++ff3++ff4++ff5++ff6
abbrev ft(n:Nat):Obj:=⟨.none,none,.fields ⟨ff.take n⟩,#[]⟩
abbrev dF(x:Str)(i l n t b:Nat)(a:Value)(k:Nat):List Obj:=[tu [],fl,oZ x i,oC x t l n b .none .none (b+2) k (t+3),oF x i a (b+3)]
abbrev dG(x:Str)(i l n t b:Nat)(a:Value)(k:Nat)(u:AC):List Obj:=[tu [],fl,tu u,tu [],oZ x i,oC x t l n b (.ref (b+2)) (.ref (b+3)) (b+4) k (t+3+u.length),oF x i a (b+5)]
def al0(P:Params):List Obj:=[boot_o_0 P,boot_o_1 P,boot_o_2 P,ns P (en P "__name__" 165 (.str "law_duskbook_k50_great_chains" 862)) 97 98,boot_o_4 P,boot_o_5 P,boot_o_6 P,boot_o_7 P,boot_o_8 P,boot_o_9 P,boot_o_10 P,tu [],ft 264,⟨.type "code",none,(.fields #[.str "<module>" 182,.str "<module>" 183,.str "/claim/cut.py" 184,iz 1,iz 0,iz 0,iz 0,iz 0,rf 11,.bool false,iz 181,rf 12,.none,.none,.none,.none,iz 185,iz 1,.str "/claim/cut.py" 186]),#[]⟩,⟨.type "frame",none,.plain,#[(some (rf 13)),(some (rf 3)),(some (rf 3)),none,(some (.str "__main__" 164)),none,(some (rf 0))]⟩]++(dG "contrary" 1 2 1 189 15 p0 181 [.str "saying" 192]++(dF "led_to" 2 4 2 196 22 p0 181++(dG "is_road" 3 12 2 202 27 p0 181 [.str "book" 205,.str "road" 206,.str "place" 207]++(dG "traced" 4 17 2 211 34 p0 181 [.str "ahead" 214,.str "last" 215,.str "road" 216,.str "saying" 217]++(dG "ways_from" 5 24 2 221 41 p0 181 [.str "book" 224,.str "saying" 225,.str "ahead" 226,.str "reached" 227,.str "place" 228,.str "led" 229]++([⟨.type "dict",none,(.dict #[en P "eithers" 235 (.str "eithers" 236),en P "sums" 237 (.str "sums" 238),en P "ifs" 239 (.str "nots" 240),en P "nots" 241 (.str "ifs" 242)] 4),#[]⟩]++(dF "exchanged_rule" 8 37 2 248 49 p1 181++(dF "exchanged" 9 43 1 254 54 p1 181++(dF "beacons_with" 11 47 3 262 59 p2 181++(dG "is_rising" 12 49 1 268 64 p2 181 [.str "numbers" 271]++(dG "both_added" 14 52 2 277 71 p3 181 [.str "rule" 280,.str "other" 281]++(dG "added" 15 54 2 285 78 p3 181 [.str "book" 288,.str "places" 289,.str "whole" 290,.str "place" 291]++(dG "pairs_added" 16 59 2 295 85 p3 181 [.str "pair" 298,.str "other" 299]++(dG "cleared" 17 61 2 303 92 p3 181 [.str "pair" 306,.str "by_last" 307,.str "left" 308]++(dF "reduced" 18 66 1 312 99 p3 181++(dF "either_holds" 20 78 2 320 104 p4 181++(dF "sum_holds" 21 80 2 326 109 p4 181++(dF "if_holds" 22 83 3 332 114 p4 181++(dG "rule_holds" 23 87 3 338 119 p4 181 [.str "kind" 341,.str "rule" 342,.str "evening" 343]++(dF "broken_rules" 24 93 2 347 126 p4 181++(dG "holds" 25 95 2 353 131 p4 181 [.str "book" 356,.str "evening" 357]++(dF "beacons_in" 26 97 2 361 138 p4 181++(dG "is_void" 27 103 2 367 143 p4 181 [.str "kind" 370,.str "rule" 371]++(dF "without" 28 105 2 375 150 p4 181))))))))))))))))))))))))
def al1(P:Params):List Obj:=dG "is_place" 30 108 2 383 155 p5 181 [.str "book" 386,.str "place" 387]++(dF "body_is_known" 31 110 2 391 162 p5 181++(dG "is_step" 32 112 3 397 167 p5 181 [.str "book" 400,.str "known" 401,.str "place" 402,.str "rule" 403]++(dG "is_derivation" 33 117 3 407 174 p5 181 [.str "book" 410,.str "facts" 411,.str "places" 412,.str "known" 413,.str "place" 414]++(dF "derived" 34 124 3 418 181 p5 181++(dG "step_to_more" 35 127 2 424 186 p5 181 [.str "book" 427,.str "known" 428,.str "place" 429,.str "rule" 430]++(dF "derived_in_full" 36 132 2 434 193 p5 181++(dF "is_broken" 38 142 1 442 198 p6 181++(dG "lead_there_and_back" 39 144 3 448 203 p6 181 [.str "book" 451,.str "road" 452,.str "other" 453]++(dG "clash_good" 40 148 3 457 210 p6 181 [.str "road" 460,.str "other" 461,.str "book" 462]++(dG "cross_good" 41 150 3 466 217 p6 181 [.str "road" 469,.str "book" 470,.str "storms" 471]++(dG "late_good" 42 154 5 475 224 p6 181 [.str "road" 478,.str "other" 479,.str "book" 480,.str "keepers" 481,.str "storms" 482]++(dF "odd_good" 43 158 3 486 231 p6 181++(dF "first_ones" 44 165 4 492 236 p6 181++(dG "is_first_part" 45 170 4 498 241 p6 181 [.str "beacon" 501,.str "places" 502,.str "book" 503,.str "storms" 504]++(dG "is_last_part" 46 174 4 508 248 p6 181 [.str "beacon" 511,.str "places" 512,.str "book" 513,.str "facts" 514,.str "rule" 515,.str "known" 516]++(dG "lone_good" 47 180 4 520 255 p6 181 [.str "paper" 523,.str "book" 524,.str "keepers" 525,.str "storms" 526,.str "beacon" 527,.str "facts" 528]++(dG "either_paper_good" 48 186 4 532 262 p6 181 [.str "paper" 535,.str "book" 536,.str "keepers" 537,.str "storms" 538]++(dG "storm_good" 49 194 4 542 269 p6 181 [.str "paper" 545,.str "book" 546,.str "hands" 547,.str "start" 548,.str "keepers" 549,.str "storms" 550]++(dG "sayings_of" 51 209 1 556 276 p7 181 [.str "beacons" 559,.str "sayings" 560,.str "beacon" 561]++(dG "lead_to_one_another" 52 214 3 565 283 p7 181 [.str "ways" 568,.str "saying" 569,.str "other" 570]++(dG "clash_found" 53 216 1 574 290 p7 181 [.str "ways" 577,.str "saying" 578,.str "other" 579]++(dG "cross_found" 54 222 2 583 297 p7 181 [.str "ways" 586,.str "storms" 587,.str "saying" 588,.str "other" 589]++(dG "late_found" 55 228 3 593 304 p7 181 [.str "ways" 596,.str "keepers" 597,.str "storms" 598,.str "saying" 599,.str "other" 600]++(dF "storms_paper" 56 234 4 604 311 p7 181))))))))))))))))))))))))
def al2(P:Params):List Obj:=dG "free_saying" 57 240 2 610 316 p7 181 [.str "keeper" 613,.str "ways" 614,.str "dark" 615]++(dG "truths_made" 58 243 3 619 323 p7 181 [.str "ways" 622,.str "keepers" 623,.str "storms" 624,.str "truths" 625,.str "saying" 626,.str "keeper" 627]++(dG "plan_row" 59 251 4 631 330 p7 181 [.str "keeper" 634,.str "ways" 635,.str "storms" 636,.str "truths" 637,.str "saying" 638]++(dF "either_outcome" 60 256 3 642 337 p7 181++(dF "rows_by_beacon" 62 266 1 650 342 p8 181++(dG "is_plan_row" 63 268 2 656 347 p8 181 [.str "row" 659,.str "storms" 660]++(dG "come_to" 64 270 2 664 354 p8 181 [.str "saying" 667,.str "plan" 668,.str "row" 669]++(dF "either_is_kept" 65 275 2 673 361 p8 181++(dF "plan_good" 66 278 4 679 366 p8 181++(dF "is_sum_row" 67 283 2 685 371 p8 181++(dG "replaced" 68 285 2 691 376 p8 181 [.str "rule" 694,.str "sums" 695,.str "whole" 696,.str "beacon" 697,.str "row" 698]++(dF "sums_good" 69 291 4 702 383 p8 181++(dF "are_some_of" 70 296 2 708 388 p8 181++(dF "ahead_of" 71 298 2 714 393 p8 181++(dG "is_row" 72 300 3 720 398 p8 181 [.str "row" 723,.str "first" 724,.str "keepers" 725]++(dF "holds_where_lit" 73 302 3 729 405 p8 181++(dF "rows_good" 74 304 6 735 410 p8 181++(dG "keeper_good" 75 311 4 741 415 p8 181 [.str "paper" 744,.str "book" 745,.str "hands" 746,.str "start" 747,.str "keepers" 748,.str "storms" 749]++(dG "places_to_none" 77 324 2 755 422 p9 181 [.str "book" 758,.str "full" 759,.str "place" 760,.str "rule" 761]++(dF "places_to_beacon" 78 329 3 765 429 p9 181++(dF "some_of" 79 334 2 771 434 p9 181++(dG "facts_beside" 80 336 3 777 439 p9 181 [.str "beacon" 780,.str "storms" 781,.str "first" 782]++(dG "if_outcome" 81 338 3 786 446 p9 181 [.str "book" 789,.str "hands" 790,.str "start" 791,.str "keepers" 792,.str "storms" 793,.str "whole" 794,.str "places" 795,.str "first" 796,.str "rows" 797,.str "beacon" 798,.str "full" 799]++(dG "last_beacon" 83 355 1 805 453 jK 181 [.str "pair" 808]++(dF "storms_places" 84 357 3 812 460 jK 181))))))))))))))))))))))))
def al3(P:Params):List Obj:=dF "sum_rows" 85 362 2 818 465 jK 181++(dG "sum_outcome" 86 370 3 824 470 jK 181 [.str "book" 827,.str "hands" 828,.str "start" 829,.str "keepers" 830,.str "storms" 831,.str "answer" 832,.str "places" 833]++([tu [(.int (0) 839)],tu [],fl,tu [.str "book" 843,.str "hands" 844,.str "start" 845],tu [],oZ "outcome" 88,oC "outcome" 840 379 3 478 (rf 480) (rf 481) 482 181 846,⟨.type "function",none,(fn "outcome" "outcome" (Lw.top 88) (rf 477) .none .none (.str "duskbook.outcomes" 837) none (rf 483) .none 3 0),#[]⟩]++(dG "good" 90 388 5 851 485 RG 181 [.str "paper" 854,.str "book" 855,.str "hands" 856,.str "start" 857,.str "hand" 858]++(dG "_law_cell" 92 393 2 864 492 dJ 181 [.str "script" 867,.str "k" 868]++(dG "_law_mixed" 93 397 2 872 499 dJ 181 [.str "cell" 875,.str "by" 876]++(dF "_law_hands" 94 399 2 880 506 dJ 181++(dF "_law_own" 95 402 3 886 511 dJ 181++(dF "_law_plain" 96 404 1 892 516 dJ 181++(dF "_law_truths" 97 408 1 898 521 dJ 181++(dG "_law_good" 98 414 4 904 526 dJ 181 [.str "found" 907,.str "book" 908,.str "hands" 909,.str "start" 910]++(dG "_law_order" 99 420 2 914 533 dJ 181 [.str "script" 917,.str "many" 918,.str "order" 919,.str "k" 920]++(dF "_law_few" 100 425 2 924 540 dJ 181++(dG "_law_chain" 101 430 4 930 545 dJ 181 [.str "kind" 933,.str "order" 934,.str "bits" 935,.str "ring" 936,.str "rules" 937,.str "k" 938,.str "one" 939,.str "other" 940]++(dF "law" 102 446 1 944 552 dJ 181))))))))))))))
def al(P:Params):List Obj:=al0 P++al1 P++al2 P++al3 P
noncomputable def upd(l:List (Nat×Obj))(xs:List Obj):List Obj:=l.foldl (λxs p=>xs.set p.1 p.2) xs
noncomputable def ev:List Obj->List Obj
 | []=>[]
 | [x]=>[x]
 | x::_::r=>x::ev r
noncomputable def bt:Nat->List Obj->BT
 | 0,_=>.nil
 | _+1,[]=>.nil
 | n+1,x::xs=>.node x (bt n (ev xs)) (bt n (ev xs.tail))
abbrev bd:List Stmt:=behindTheImports pg
abbrev sl(i n:Nat):List Stmt:=(bd.drop i).take n
abbrev env:Env:={scope:=pg.main.scope,locals:=mainNs,globals:=mainNs,cells:=[],code:=(rf 13),frame:=some 14}
abbrev cE:Code:=.body bd env
noncomputable abbrev B:List Frame:=[topFrame ⟨0,0,0,0⟩]
abbrev ss(n:Nat)(l:Params->List (Nat×Obj))(t:Nat)(w:World)(os:OsState):SharedT:=⟨bt 12 (upd (l w.params) ((al w.params).take n)),n,{},.mk [],boot_drawn,t,os⟩
def h0(P:Params):Heap:=⟨⟨upd [(3,boot_o_3 P),(12,fl)] ((al P).take 15)⟩,{}⟩
abbrev s0(w:World)(os:OsState):Shared:=⟨h0 w.params,.mk [],boot_drawn,187,os⟩
abbrev s1:World->OsState->SharedT:=ss 15 (λP=>[(3,boot_o_3 P),(12,fl)]) 187
abbrev s2:World->OsState->SharedT:=ss 78 (λP=>[(3,ns P (en P "__name__" 165 (.str "duskbook.adding" 275)) 19 20),(12,ft 30)]) 285
abbrev s3:World->OsState->SharedT:=ss 155 (λP=>[(3,ns P (en P "__name__" 165 (.str "duskbook.deriving" 381)) 32 33),(12,ft 69)]) 383
abbrev s4:World->OsState->SharedT:=ss 236 (λP=>[(3,ns P (en P "__name__" 165 (.str "duskbook.storming" 440)) 45 46),(12,ft 108)]) 492
abbrev s5:World->OsState->SharedT:=ss 316 (λP=>[(3,ns P (en P "__name__" 165 (.str "duskbook.eitherways" 554)) 57 58),(12,ft 144)]) 610
abbrev s6:World->OsState->SharedT:=ss 393 (λP=>[(3,ns P (en P "__name__" 165 (.str "duskbook.keeping" 648)) 70 71),(12,ft 183)]) 714
abbrev s7:World->OsState->SharedT:=ss 470 (λP=>[(3,ns P (en P "__name__" 165 (.str "duskbook.sumways" 803)) 83 84),(12,ft 222)]) 824
abbrev s8:World->OsState->SharedT:=ss 545 (λP=>[(3,ns P (en P "__name__" 165 (.str "law_duskbook_k50_great_chains" 862)) 95 96),(12,ft 258)]) 930
abbrev s9:World->OsState->SharedT:=ss 557 (λP=>[]) 950
def tF(P:Params):Heap:=⟨⟨upd [] ((al P).take 557)⟩,{}⟩
abbrev nj(w:World)(os:OsState):Shared:=⟨tF w.params,.mk [],boot_drawn,950,os⟩
abbrev sz(w:World)(os:OsState):Shared:=⟨boot_heap w.params,.mk [],boot_drawn,boot_toks,os⟩
def e0:∀w:World,(λos=>topGo treeTable pg w 11 (some (rf 6)) 12 (sz w os) (topStub pg))=λos=>some (s0 w os,⟨denote treeTable cE,cE,⟨0,0,0,0⟩,B⟩):=by
 rw[W.Fast.te15667345088766844465,W.Fast.te14364793385576792824,W.Fast.te11892475500146522536];intro w;kernel_rfl
def e1:∀w:World,(λos=>segRun treeTable pg w 11 (some (rf 6)) 1 1 (s0 w os) (blockOf bd env cE ⟨0,0,0,0⟩ B))=λos=>some (.next,(s1 w os).abs,cE,⟨0,0,0,0⟩):=by
 rw[W.Fast.te14374325043358763698,W.Fast.te14364793385576792824];intro w;kernel_rfl
abbrev EK(m:Nat)(s u:World->OsState->SharedT)(i n:Nat)(p q:Pos):Prop:=∀w:World,(λos=>segRunT treeTable pg w 11 (some (rf 6)) 1 m (s w os) (piecesOf (sl i n) env cE p B))=λos=>some (.next,u w os,cE,q)
local macro_rules | `(tactic| and_intros)=>`(tactic| (unfold EK;rw[W.Fast.te10110043849684766642,W.Fast.te14364793385576792824];intro w;kernel_rfl))
def e2:EK 396 s1 s2 0 15 ⟨0,0,0,0⟩ ⟨52,0,53,77⟩:=by
 unfold EK;rw[W.Fast.te10110043849684766642,W.Fast.te14364793385576792824];refine byRow2 "special-get-raises" ?_ ?_<;>(intro w;kernel_rfl)
def e3:EK 385 s2 s3 15 15 ⟨52,0,53,77⟩ ⟨107,0,107,8⟩:=by
 and_intros
def e4:EK 393 s3 s4 30 14 ⟨107,0,107,8⟩ ⟨158,0,164,34⟩:=by
 and_intros
def e5:EK 386 s4 s5 44 13 ⟨158,0,164,34⟩ ⟨234,0,239,40⟩:=by
 and_intros
def e6:EK 384 s5 s6 57 14 ⟨234,0,239,40⟩ ⟨296,0,297,79⟩:=by
 and_intros
def e7:EK 397 s6 s7 71 15 ⟨296,0,297,79⟩ ⟨362,0,369,54⟩:=by
 and_intros
def e8:EK 383 s7 s8 86 15 ⟨362,0,369,54⟩ ⟨425,0,429,23⟩:=by
 and_intros
def e9:EK 63 s8 s9 101 2 ⟨425,0,429,23⟩ ⟨446,0,465,15⟩:=by
 and_intros
def e10:∀w:World,(λos=>topRun treeTable pg w 11 (some (rf 6)) 2 (s9 w os).abs ⟨doneF .next,cE,⟨446,0,465,15⟩,B⟩)=λos=>some (nj w os):=by
 rw[W.Fast.te14082659384304107361,W.Fast.te14364793385576792824];intro w;kernel_rfl
abbrev R(w:World)(os:OsState)(m:Nat)(s:Shared)(t:List Stmt)(p:Pos):Prop:=topRun treeTable pg w 11 (some (rf 6)) m s (restOf t env cE p B)=some (nj w os)
def rk{m M i n:Nat}{s u:World->OsState->SharedT}{T:List Stmt}{p q:Pos}{w:World}{os:OsState}(h:EK m s u i n p q)(r:R w os M (u w os).abs T q):R w os (m+M) (s w os).abs (sl i n++T) p:=piece_app (segRun_of (congrFun (h w) os)) r
def rj{m:Nat}{s:Shared}{T:List Stmt}{p:Pos}{w:World}{os:OsState}(r:R w os m s T p)(h:T=bd):R w os m s bd p:=h ▸ r
def run(w:World)(os:OsState):topRun treeTable pg w 11 (some (rf 6)) (12+(1+(396+(385+(393+(386+(384+(397+(383+(63+2)))))))))) (sz w os) (topStub pg)=some (nj w os):=
 go_top (congrFun (e0 w) os) (piece_block (congrFun (e1 w) os) (rj (rk e2 (rk e3 (rk e4 (rk e5 (rk e6 (rk e7 (rk e8 (rk e9 (show R w os 2 (s9 w os).abs [] ⟨446,0,465,15⟩ from congrFun (e10 w) os))))))))) (by kernel_rfl)))
def op:∀w:World,(fencedOpening treeTable pg w 5684).map (λs=>(s.heap,s.gens,s.drawn,s.toks))=some (boot_heap w.params,Array.mk [],boot_drawn,boot_toks):=
 boot_open (by kernel_rfl) (by decide) (λs=>by kernel_rfl)
def size:∀w:World,((boot_heap w.params).isNs mainGlobals&&(Array.mk []:Array GenState).size==0,(boot_heap w.params).objs.size,(boot_heap w.params).nsMap mainGlobals "__annotations__")=(true,11,(some (rf 6))):=by
 rw[W.Fast.te8920871248978507458];intro w;kernel_rfl
local macro_rules|`(-$x:num)=>`(nat_lit $x)
def K(P:Params):Frag:=(-3,ns P (en P "__name__" 165 (.str "law_duskbook_k50_great_chains" 862)) 97 98)::(-20,oC "contrary" 189 2 1 15 (rf 17) (rf 18) 19 181 193)::(-21,oF "contrary" 1 p0 20)::(-25,oC "led_to" 196 4 2 22 .none .none 24 181 199)::(-26,oF "led_to" 2 p0 25)::(-32,oC "is_road" 202 12 2 27 (rf 29) (rf 30) 31 181 208)::(-33,oF "is_road" 3 p0 32)::(-39,oC "traced" 211 17 2 34 (rf 36) (rf 37) 38 181 218)::(-40,oF "traced" 4 p0 39)::(-46,oC "ways_from" 221 24 2 41 (rf 43) (rf 44) 45 181 230)::(-47,oF "ways_from" 5 p0 46)::(-48,⟨.type "dict",none,(.dict #[en P "eithers" 235 (.str "eithers" 236),en P "sums" 237 (.str "sums" 238),en P "ifs" 239 (.str "nots" 240),en P "nots" 241 (.str "ifs" 242)] 4),#[]⟩)::(-52,oC "exchanged_rule" 248 37 2 49 .none .none 51 181 251)::(-53,oF "exchanged_rule" 8 p1 52)::(-57,oC "exchanged" 254 43 1 54 .none .none 56 181 257)::(-58,oF "exchanged" 9 p1 57)::(-62,oC "beacons_with" 262 47 3 59 .none .none 61 181 265)::(-63,oF "beacons_with" 11 p2 62)::(-69,oC "is_rising" 268 49 1 64 (rf 66) (rf 67) 68 181 272)::(-70,oF "is_rising" 12 p2 69)::(-76,oC "both_added" 277 52 2 71 (rf 73) (rf 74) 75 181 282)::(-77,oF "both_added" 14 p3 76)::(-83,oC "added" 285 54 2 78 (rf 80) (rf 81) 82 181 292)::(-84,oF "added" 15 p3 83)::(-90,oC "pairs_added" 295 59 2 85 (rf 87) (rf 88) 89 181 300)::(-91,oF "pairs_added" 16 p3 90)::(-97,oC "cleared" 303 61 2 92 (rf 94) (rf 95) 96 181 309)::(-98,oF "cleared" 17 p3 97)::(-102,oC "reduced" 312 66 1 99 .none .none 101 181 315)::(-103,oF "reduced" 18 p3 102)::(-107,oC "either_holds" 320 78 2 104 .none .none 106 181 323)::(-108,oF "either_holds" 20 p4 107)::(-112,oC "sum_holds" 326 80 2 109 .none .none 111 181 329)::(-113,oF "sum_holds" 21 p4 112)::(-117,oC "if_holds" 332 83 3 114 .none .none 116 181 335)::(-118,oF "if_holds" 22 p4 117)::(-124,oC "rule_holds" 338 87 3 119 (rf 121) (rf 122) 123 181 344)::(-125,oF "rule_holds" 23 p4 124)::(-129,oC "broken_rules" 347 93 2 126 .none .none 128 181 350)::(-130,oF "broken_rules" 24 p4 129)::(-136,oC "holds" 353 95 2 131 (rf 133) (rf 134) 135 181 358)::(-137,oF "holds" 25 p4 136)::(-141,oC "beacons_in" 361 97 2 138 .none .none 140 181 364)::(-142,oF "beacons_in" 26 p4 141)::(-148,oC "is_void" 367 103 2 143 (rf 145) (rf 146) 147 181 372)::(-149,oF "is_void" 27 p4 148)::(-153,oC "without" 375 105 2 150 .none .none 152 181 378)::(-154,oF "without" 28 p4 153)::(-160,oC "is_place" 383 108 2 155 (rf 157) (rf 158) 159 181 388)::(-161,oF "is_place" 30 p5 160)::(-165,oC "body_is_known" 391 110 2 162 .none .none 164 181 394)::(-166,oF "body_is_known" 31 p5 165)::(-172,oC "is_step" 397 112 3 167 (rf 169) (rf 170) 171 181 404)::(-173,oF "is_step" 32 p5 172)::(-179,oC "is_derivation" 407 117 3 174 (rf 176) (rf 177) 178 181 415)::(-180,oF "is_derivation" 33 p5 179)::(-184,oC "derived" 418 124 3 181 .none .none 183 181 421)::(-185,oF "derived" 34 p5 184)::(-191,oC "step_to_more" 424 127 2 186 (rf 188) (rf 189) 190 181 431)::(-192,oF "step_to_more" 35 p5 191)::(-196,oC "derived_in_full" 434 132 2 193 .none .none 195 181 437)::(-197,oF "derived_in_full" 36 p5 196)::(-201,oC "is_broken" 442 142 1 198 .none .none 200 181 445)::(-202,oF "is_broken" 38 p6 201)::(-208,oC "lead_there_and_back" 448 144 3 203 (rf 205) (rf 206) 207 181 454)::(-209,oF "lead_there_and_back" 39 p6 208)::(-215,oC "clash_good" 457 148 3 210 (rf 212) (rf 213) 214 181 463)::(-216,oF "clash_good" 40 p6 215)::(-222,oC "cross_good" 466 150 3 217 (rf 219) (rf 220) 221 181 472)::(-223,oF "cross_good" 41 p6 222)::(-229,oC "late_good" 475 154 5 224 (rf 226) (rf 227) 228 181 483)::(-230,oF "late_good" 42 p6 229)::(-234,oC "odd_good" 486 158 3 231 .none .none 233 181 489)::(-235,oF "odd_good" 43 p6 234)::(-239,oC "first_ones" 492 165 4 236 .none .none 238 181 495)::(-240,oF "first_ones" 44 p6 239)::(-246,oC "is_first_part" 498 170 4 241 (rf 243) (rf 244) 245 181 505)::(-247,oF "is_first_part" 45 p6 246)::(-253,oC "is_last_part" 508 174 4 248 (rf 250) (rf 251) 252 181 517)::(-254,oF "is_last_part" 46 p6 253)::(-260,oC "lone_good" 520 180 4 255 (rf 257) (rf 258) 259 181 529)::(-261,oF "lone_good" 47 p6 260)::(-267,oC "either_paper_good" 532 186 4 262 (rf 264) (rf 265) 266 181 539)::(-268,oF "either_paper_good" 48 p6 267)::(-274,oC "storm_good" 542 194 4 269 (rf 271) (rf 272) 273 181 551)::(-275,oF "storm_good" 49 p6 274)::(-281,oC "sayings_of" 556 209 1 276 (rf 278) (rf 279) 280 181 562)::(-282,oF "sayings_of" 51 p7 281)::(-288,oC "lead_to_one_another" 565 214 3 283 (rf 285) (rf 286) 287 181 571)::(-289,oF "lead_to_one_another" 52 p7 288)::(-295,oC "clash_found" 574 216 1 290 (rf 292) (rf 293) 294 181 580)::(-296,oF "clash_found" 53 p7 295)::(-302,oC "cross_found" 583 222 2 297 (rf 299) (rf 300) 301 181 590)::(-303,oF "cross_found" 54 p7 302)::(-309,oC "late_found" 593 228 3 304 (rf 306) (rf 307) 308 181 601)::(-310,oF "late_found" 55 p7 309)::(-314,oC "storms_paper" 604 234 4 311 .none .none 313 181 607)::(-315,oF "storms_paper" 56 p7 314)::(-321,oC "free_saying" 610 240 2 316 (rf 318) (rf 319) 320 181 616)::(-322,oF "free_saying" 57 p7 321)::(-328,oC "truths_made" 619 243 3 323 (rf 325) (rf 326) 327 181 628)::(-329,oF "truths_made" 58 p7 328)::(-335,oC "plan_row" 631 251 4 330 (rf 332) (rf 333) 334 181 639)::(-336,oF "plan_row" 59 p7 335)::(-340,oC "either_outcome" 642 256 3 337 .none .none 339 181 645)::(-341,oF "either_outcome" 60 p7 340)::(-345,oC "rows_by_beacon" 650 266 1 342 .none .none 344 181 653)::(-346,oF "rows_by_beacon" 62 p8 345)::(-352,oC "is_plan_row" 656 268 2 347 (rf 349) (rf 350) 351 181 661)::(-353,oF "is_plan_row" 63 p8 352)::(-359,oC "come_to" 664 270 2 354 (rf 356) (rf 357) 358 181 670)::(-360,oF "come_to" 64 p8 359)::(-364,oC "either_is_kept" 673 275 2 361 .none .none 363 181 676)::(-365,oF "either_is_kept" 65 p8 364)::(-369,oC "plan_good" 679 278 4 366 .none .none 368 181 682)::(-370,oF "plan_good" 66 p8 369)::(-374,oC "is_sum_row" 685 283 2 371 .none .none 373 181 688)::(-375,oF "is_sum_row" 67 p8 374)::(-381,oC "replaced" 691 285 2 376 (rf 378) (rf 379) 380 181 699)::(-382,oF "replaced" 68 p8 381)::(-386,oC "sums_good" 702 291 4 383 .none .none 385 181 705)::(-387,oF "sums_good" 69 p8 386)::(-391,oC "are_some_of" 708 296 2 388 .none .none 390 181 711)::(-392,oF "are_some_of" 70 p8 391)::(-396,oC "ahead_of" 714 298 2 393 .none .none 395 181 717)::(-397,oF "ahead_of" 71 p8 396)::(-403,oC "is_row" 720 300 3 398 (rf 400) (rf 401) 402 181 726)::(-404,oF "is_row" 72 p8 403)::(-408,oC "holds_where_lit" 729 302 3 405 .none .none 407 181 732)::(-409,oF "holds_where_lit" 73 p8 408)::(-413,oC "rows_good" 735 304 6 410 .none .none 412 181 738)::(-414,oF "rows_good" 74 p8 413)::(-420,oC "keeper_good" 741 311 4 415 (rf 417) (rf 418) 419 181 750)::(-421,oF "keeper_good" 75 p8 420)::(-427,oC "places_to_none" 755 324 2 422 (rf 424) (rf 425) 426 181 762)::(-428,oF "places_to_none" 77 p9 427)::(-432,oC "places_to_beacon" 765 329 3 429 .none .none 431 181 768)::(-433,oF "places_to_beacon" 78 p9 432)::(-437,oC "some_of" 771 334 2 434 .none .none 436 181 774)::(-438,oF "some_of" 79 p9 437)::(-444,oC "facts_beside" 777 336 3 439 (rf 441) (rf 442) 443 181 783)::(-445,oF "facts_beside" 80 p9 444)::(-451,oC "if_outcome" 786 338 3 446 (rf 448) (rf 449) 450 181 800)::(-452,oF "if_outcome" 81 p9 451)::(-458,oC "last_beacon" 805 355 1 453 (rf 455) (rf 456) 457 181 809)::(-459,oF "last_beacon" 83 jK 458)::(-463,oC "storms_places" 812 357 3 460 .none .none 462 181 815)::(-464,oF "storms_places" 84 jK 463)::(-468,oC "sum_rows" 818 362 2 465 .none .none 467 181 821)::(-469,oF "sum_rows" 85 jK 468)::(-475,oC "sum_outcome" 824 370 3 470 (rf 472) (rf 473) 474 181 834)::(-476,oF "sum_outcome" 86 jK 475)::(-477,tu [(.int (0) 839)])::(-483,oC "outcome" 840 379 3 478 (rf 480) (rf 481) 482 181 846)::(-484,⟨.type "function",none,(fn "outcome" "outcome" (Lw.top 88) (rf 477) .none .none (.str "duskbook.outcomes" 837) none (rf 483) .none 3 0),#[]⟩)::(-490,oC "good" 851 388 5 485 (rf 487) (rf 488) 489 181 859)::(-491,oF "good" 90 RG 490)::(-497,oC "_law_cell" 864 393 2 492 (rf 494) (rf 495) 496 181 869)::(-498,oF "_law_cell" 92 dJ 497)::(-504,oC "_law_mixed" 872 397 2 499 (rf 501) (rf 502) 503 181 877)::(-505,oF "_law_mixed" 93 dJ 504)::(-509,oC "_law_hands" 880 399 2 506 .none .none 508 181 883)::(-510,oF "_law_hands" 94 dJ 509)::(-519,oC "_law_plain" 892 404 1 516 .none .none 518 181 895)::(-520,oF "_law_plain" 96 dJ 519)::(-524,oC "_law_truths" 898 408 1 521 .none .none 523 181 901)::(-525,oF "_law_truths" 97 dJ 524)::(-531,oC "_law_good" 904 414 4 526 (rf 528) (rf 529) 530 181 911)::(-532,oF "_law_good" 98 dJ 531)::(-538,oC "_law_order" 914 420 2 533 (rf 535) (rf 536) 537 181 921)::(-539,oF "_law_order" 99 dJ 538)::(-543,oC "_law_few" 924 425 2 540 .none .none 542 181 927)::(-544,oF "_law_few" 100 dJ 543)::(-550,oC "_law_chain" 930 430 4 545 (rf 547) (rf 548) 549 181 941)::(-551,oF "_law_chain" 101 dJ 550)::(-555,oC "law" 944 446 1 552 .none .none 554 181 947)::(-556,oF "law" 102 dJ 555)::[]
def hk:Hook:=kHook K (3::20::21::25::26::32::33::39::40::46::47::48::52::53::57::58::62::63::69::70::76::77::83::84::90::91::97::98::102::103::107::108::112::113::117::118::124::125::129::130::136::137::141::142::148::149::153::154::160::161::165::166::172::173::179::180::184::185::191::192::196::197::201::202::208::209::215::216::222::223::229::230::234::235::239::240::246::247::253::254::260::261::267::268::274::275::281::282::288::289::295::296::302::303::309::310::314::315::321::322::328::329::335::336::340::341::345::346::352::353::359::360::364::365::369::370::374::375::381::382::386::387::391::392::396::397::403::404::408::409::413::414::420::421::427::428::432::433::437::438::444::445::451::452::458::459::463::464::468::469::475::476::477::483::484::490::491::497::498::504::505::509::510::519::520::524::525::531::532::538::539::543::544::550::551::555::556::[]) (λ_=>by kernel_rfl)
def Q:P7:={pg with main:={pg.main with body:=[Lw.top 102]} }
noncomputable def ls:AJ:=(["contrary","led_to","is_road","traced","ways_from","EXCHANGED_KINDS","exchanged_rule","exchanged","beacons_with","is_rising","both_added","added","pairs_added","cleared","reduced","either_holds","sum_holds","if_holds","rule_holds","broken_rules","holds","beacons_in","is_void","without","is_place","body_is_known","is_step","is_derivation","derived","step_to_more","derived_in_full","is_broken","lead_there_and_back","clash_good","cross_good","late_good","odd_good","first_ones","is_first_part","is_last_part","lone_good","either_paper_good","storm_good","sayings_of","lead_to_one_another","clash_found","cross_found","late_found","storms_paper","free_saying"]++["truths_made","plan_row","either_outcome","rows_by_beacon","is_plan_row","come_to","either_is_kept","plan_good","is_sum_row","replaced","sums_good","are_some_of","ahead_of","is_row","holds_where_lit","rows_good","keeper_good","places_to_none","places_to_beacon","some_of","facts_beside","if_outcome","last_beacon","storms_places","sum_rows","sum_outcome","outcome","good","_law_cell","_law_mixed","_law_hands","_law_own","_law_plain","_law_truths","_law_good","_law_order","_law_few","_law_chain"]).map Str.ofString
abbrev Xt(s:Shared):Bool:=xlAt Q [] s&&recOk (RowW.records (OpenRow.toRowW PySem.Challenge.rw_duskbook_k50_great_chains.row)) s
def LO:∀w:World,(λos=>((staticsOk (importedModules pg.main.body) (boot_heap w.params) (tF w.params)&&namesBound pg (tF w.params)&&gensDone (nj w os)&&laidKept (boot_heap w.params) (tF w.params)),openSeen Q ls (importedModules pg.main.body) Xt true (nj w os),Hook.obs hk (nj w os)))=λ_=>(true,openGood Q ls,Hook.val hk w):=by
 rw[W.Fast.te5923862056798008813,W.Fast.te4187177175401517315];intro w;kernel_rfl
def left:LeftO pg Q ls Xt (Hook.obs hk) (Hook.val hk) 5684:=LeftO.of_pieces (H₁:=tF) op size run (by decide) LO
end Op
end
noncomputable def PySem.W.Fast.tw16098759709007830842:PySem.Program:=PySem.Challenge.pw_duskbook_k50_great_chains
theorem PySem.W.Fast.te16098759709007830842:PySem.Challenge.pw_duskbook_k50_great_chains=PySem.W.Fast.tw16098759709007830842:=rfl
open PySem PySem.W PyProof.Rows
theorem PySem.Challenge.cw_duskbook_k50_great_chains_holds : PySem.Challenge.rw_duskbook_k50_great_chains.Holds := by
 w_on;o_law
 refine holds_open (q:=Op.Q) (loose:=Op.ls) (Xt:=Op.Xt) (XP:=XL Op.Q []) (Yf:=Hook.obs Op.hk) (Ya:=Hook.val Op.hk) (YP:=InK Op.K) (N:=5684) Op.left (Hook.of Op.hk) (Hook.keeps Op.hk) (λs e=>xl_of s (Bool.and_eq_true_iff.mp e).1) XL.keeps (by rfl) (by rfl) (by rfl) (λs e=>recFacts_of (Bool.and_eq_true_iff.mp e).2) (by rfl) (by assumption) (by decide +kernel) ⟨rfl,rfl,rfl,rfl,rfl,by decide +kernel⟩ ?hw ?hc
 (case hw=>w_witness2)
 k_fill
 refine Lw.walk Lw.law_true (l:=PySem.Challenge.rw_duskbook_k50_great_chains) rfl rfl (K:=Op.K) (λw h Y=>Y) ?F
 case F=>
  intro w mg fa h KX G hmg;refine' Lw.all_mk KX G hmg ..
  all_goals (try (first|(refine' Lw.fkd_mk ?a ?l ?c ?k ?t;(case a=>k_is);(case l=>k_is);(case c=>k_is);(case k=>k_is);(case t=>k_is))|(refine' Lw.fk_mk ?a ?l ?c ?k;(case a=>k_is);(case l=>k_is);(case c=>k_is);(case k=>k_is))|k_is))
