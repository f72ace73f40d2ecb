import PyProof.Rows.All
import Wide.All
import OpenK.AllK
import Wide.FinOn
import Lean
import PyProof.EqAt
import PyProof.EqKinds
import PyProof.TupleCall
import PySem.Challenge.RW_duskbook_k47_nots_and_all_kinds
set_option Elab.async false
set_option linter.all false
set_option genSizeOf false
set_option compiler.extract_closed false
set_option maxRecDepth 100000
abbrev gY(l:List (PySem.Str×PySem.NameKind)):PySem.Scope:={ kind:=.function,names:=l,isGenerator:=false,isCoroutine:=false,more:=[] }
def qa{c d:Type _}{o:Option c}{f:c->Option d}{b:d}(h:o.bind f=some b):∃a,o=some a/\f a=some b:=Option.bind_eq_some_iff.mp h
def qc{c d:Type _}{o:Option c}{f:c->d}{b:d}(h:o.map f=some b):∃a,o=some a/\f a=b:=Option.map_eq_some_iff.mp h
def qd:=@Option.bind_some
def qe:=@PySem.Heap.get?_push_of_some
def qf:=@List.length_map
def qg:=@List.mem_cons_of_mem
def qh:=@List.mem_cons_self
def qi:=@Bool.false_ne_true
def qj:=@Array.length_toList
def qk:=@List.size_toArray
def ql:=@PySem.Heap.lt_size
def qm:=@Nat.ne_of_lt
def qo{b:Type _}{l:List b}{i:Nat}{a:b}(h:l[i]?=some a):∃h:i<l.length,l[i]=a:=List.getElem?_eq_some_iff.mp h
def qp:=@PySem.Heap.get?_push_size
def qr:=@List.getElem?_eq_getElem
def qt:=@List.length_cons
def qu{c:Type _}{a b:c}{l:List c}(h:a∈b::l):a=b\/a∈l:=List.mem_cons.mp h
def qv:=@Nat.le_refl
def qw{b:Type _}{a:b}{s t:List b}(h:a∈s++t):a∈s\/a∈t:=List.mem_append.mp h
def qx:=@Nat.lt_succ_of_lt
def qy{c d:Type _}{b:d}{f:c->d}{l:List c}(h:b∈l.map f):∃a,a∈l/\f a=b:=List.mem_map.mp h
def qz:=@List.length_append
def Qa:=@Nat.lt_succ_self
def Qb{m n:Nat}(h:m∈List.range n):m<n:=List.mem_range.mp h
def Qc{b:Type _}{p:b->Bool}{l:List b}{a:b}(h:a∈l.filter p):a∈l/\p a=true:=List.mem_filter.mp h
def Qd:=@List.map_cons
def Qe:=@Bool.and_eq_true
def Qf:=@List.map_map
def Qg:=@Nat.le_trans
def Qh:=@Nat.zero_le
def Qi:=@Nat.lt_of_lt_of_le
def Qj:=@List.nil_append
def Ql:=@List.mem_filter
def Qm:=@List.getElem?_map
def Qn:=@List.length_filter_le
def Qo:=@Bool.false_eq_true
def Qp:=@List.getElem?_set_ne
def Qq:=@List.map_congr_left
def Qr:=@List.mem_append_right
def Qs:=@List.mem_map_of_mem
set_option maxHeartbeats 4000000
set_option hygiene false in
local macro_rules|`(tactic|and_intros)=>`(tactic|(intro _ _ _ _ _ _ us b;first|(obtain⟨_,rfl⟩:=lD b;rfl)|(obtain⟨_,_,rfl⟩:=iV b;rfl)|(obtain⟨_,_,_,rfl⟩:=iW b;rfl)|(obtain⟨_,_,_,_,rfl⟩:=lE b;rfl)|(obtain⟨_,_,_,_,_,rfl⟩:=lG b;rfl)|(obtain⟨_,_,_,_,_,_,rfl⟩:=lH b;rfl)|(obtain⟨_,_,_,_,_,_,_,rfl⟩:=q_ b;rfl)))
local macro_rules|`(tactic|ext)=>`(tactic|simp_all)
local macro_rules|`(tactic|grind)=>`(tactic|grind -abstractProof)
local macro_rules|`(tactic|lia)=>`(tactic|lia -abstractProof)
local macro_rules|`(tactic|symm)=>`(tactic|grind -lax)
local macro_rules|`(tactic|ac_nf)=>`(tactic|lia -lax)
local macro_rules|`(∅)=>`(by ac_nf)
local macro_rules|`(⋯)=>`(by symm)
local macro_rules|`(term|nofun)=>`(by simp)
local macro_rules|`(tactic|trivial)=>`(tactic|first|exact .inl rfl|exact .inr rfl|exact .inr (.inl rfl)|exact .inr (.inr rfl)|assumption)
local macro_rules|`(~~~$x)=>`(($x).heap.objs.size)|`(↑$x)=>`(some (.sh $x))
abbrev AA:=PySem.Value->PySem.Shared->Prop
abbrev AB:=List (PySem.Addr×PySem.Obj)
abbrev AC:=List PySem.Value
abbrev AD:=PySem.Str->Option PySem.Value
abbrev AE:=List Nat
abbrev AF:=List Int
abbrev AG:=List Bool
abbrev AH:=Nat->Bool
abbrev AJ:=List PySem.Str
abbrev AK:=List PySem.Expr
abbrev AL:=Option Nat
def wa:=@PySem.wpAny_bind
def wb:=@PySem.wpAny_pure
def wc:=@PySem.wpAny_holding
def we:=@PySem.wpAny_call_entry
def wg:=@PySem.wpAny_newObj_type
def wj:=@PySem.wpAny_setState_of
def wm:=@decide_eq_true_eq
def wn:=@decide_eq_true
def wo:=@decide_eq_false
def wq:=@of_decide_eq_true
def wt:=@List.map_append
def wu:=@Function.comp_def
def wv:=@PySem.Heap.SameBut.update
def ww:=@PySem.Heap.size_push
def wx:=@PySem.Heap.get?_update_self
def wy:=@PySem.codeAny_builtin
def wz:=@PySem.wpAny_mono
def w4:=@Option.some.inj
def w5:=@Int.toNat_natCast
def w6:=@List.append_nil
def w9:=@List.append_assoc
def ja:=@List.length_singleton
def jb:=@PySem.plainId_quiet
def jc:=@PySem.Around.under_plainId
def jd:=@PySem.PassesOwn.never
def je:=@PySem.Obj.data_mapFields
def jf:=@PySem.wpAny_attempt
def jg:=@PySem.sizeLine_eq
abbrev mZ:=@PySem.model
abbrev W7:=PySem.W.Frag
abbrev P7:=PySem.Program
noncomputable section
namespace L2
variable {X:Cx}{pins:AB}{pos apos cpos:Pos}{ys:AM}{es:AK}
open PySem PySem.Spec PyProof.Rows
abbrev bp:=Sum Int Str
noncomputable def kg:bp->Value->Bool
 | .inl k,v=>Value.isInt k v
 | .inr x,v=>Value.isStrOf x v
noncomputable def zG(w:World):bp->Int
 | .inl k=>hashInt k
 | .inr x=>hashStr w x
theorem gZ:∀{k:bp}{v:Value},kg k v=true->(∃i t,k=Sum.inl i/\v=Value.int i t)\/(∃x t,k=Sum.inr x/\v=Value.str x t)
 | .inl i,v,h=>by
   obtain⟨t,e⟩:=Value.isInt_shape h;exact .inl ⟨i,t,rfl,e⟩
 | .inr x,v,h=>by
   obtain⟨t,e⟩:=Value.isStrOf_shape h;exact .inr ⟨x,t,rfl,e⟩
def SU(i:Int)(t:Tok):kg (.inl i) (.int i t)=true:=by simp[kg,Value.isInt]
def SV(x:Str)(t:Tok):kg (.inr x) (.str x t)=true:=by simp[kg,Value.isStrOf]
theorem zH(a b:Int):decide ((Sum.inl a:bp)=Sum.inl b)=(a==b):=by ext<;>lia
theorem zI(a b:Str):decide ((Sum.inr a:bp)=Sum.inr b)=decide (a=b):=by ext
theorem zJ(a:Int)(b:Str):decide ((Sum.inl a:bp)=Sum.inr b)=false:=by grind
theorem zL(a:Str)(b:Int):decide ((Sum.inr a:bp)=Sum.inl b)=false:=by grind
def cH(prog:P7)(w:World):KeyKind prog w bp where
 is:=kg
 hash:=zG w
 inj:=λv a b l m=>by
  rcases gZ l with⟨i,t,rfl,rfl⟩|⟨x,t,rfl,rfl⟩
  .rcases gZ m with⟨j,u,rfl,e⟩|⟨y,u,rfl,e⟩
   .grind
   grind
  .rcases gZ m with⟨j,u,rfl,e⟩|⟨y,u,rfl,e⟩
   .grind
   grind
 byValue:=λk v h=>by
  rcases gZ h with⟨i,t,rfl,rfl⟩|⟨x,t,rfl,rfl⟩<;>rfl
 pyHash:=λd h=>by
  rcases gZ d with⟨i,t,rfl,rfl⟩|⟨x,t,rfl,rfl⟩
  .exact wpAny_pyHash_int h
  .exact wpAny_pyHash_str h
 eqBool:=λg d h=>by
  rcases gZ g with⟨i,t,rfl,rfl⟩|⟨x,t,rfl,rfl⟩
  .rcases gZ d with⟨j,u,rfl,rfl⟩|⟨y,u,rfl,rfl⟩
   .rw[zH]at h;exact wpAny_eqBool_int h
   .exact SeqAt.EqAt.int_str i t y u _ _ _ _ h
  .rcases gZ d with⟨j,u,rfl,rfl⟩|⟨y,u,rfl,rfl⟩
   .exact SeqAt.EqAt.str_int x t j u _ _ _ _ h
   .rw[zI]at h;exact wpAny_eqBool_str h
 «strs»:=λk x t v h=>by
  rcases gZ h with⟨i,u,rfl,e⟩|⟨y,u,rfl,e⟩
  .grind
  .injection e with n _
   subst n;cases v<;>rfl
def SW(prog:P7)(w:World)(i:Int)(t:Tok):(cH prog w).is (.inl i) (.int i t)=true:=SU i t
def SY(prog:P7)(w:World)(x:Str)(t:Tok):(cH prog w).is (.inr x) (.str x t)=true:=SV x t
inductive V where
 | non|bl (b:Bool)|int (i:Int)|str (x:Str)|byt (b:Array UInt8)|flt (b:UInt64)|ref (a:Addr)|ty (n:String)
 deriving DecidableEq
abbrev AM:=List V
def RelV:V->Value->Prop
 | .non,u=>u=.none
 | .bl b,u=>u=.bool b
 | .int i,u=>∃t,u=.int i t
 | .str x,u=>∃t,u=.str x t
 | .byt b,u=>∃t,u=.bytes b t
 | .flt b,u=>∃t,u=.float b t
 | .ref a,u=>u=.ref a
 | .ty n,u=>u=.type n
abbrev Vals:AM->AC->Prop:=Paired RelV
def Vals.length(r:Vals xs us):xs.length=us.length:=Paired.length r
theorem Vals.get:∀{xs:AM}{us:AC}{i:Nat}{x:V},Vals xs us->xs[i]?=some x->∃u,us[i]?=some u/\RelV x u
 | _,_,_,_,.nil,e=>by simp at e
 | _,_,0,_,.cons r _,e=>by ext
 | _,_,i+1,x,.cons _ t,e=>by
   obtain⟨u,a,b⟩:=Vals.get t (by simpa using e)
   ext
theorem Vals.append:∀{xs ys:AM}{us a:AC},Vals xs us->Vals ys a->Vals (xs++ys) (us++a)
 | _,_,_,_,.nil,s=>s
 | _,_,_,_,.cons r t,s=>.cons r (Vals.append t s)
theorem Vals.take:∀{xs:AM}{us:AC} (n:Nat),Vals xs us->Vals (xs.take n) (us.take n)
 | _,_,0,_=>.nil
 | _,_,_+1,.nil=>.nil
 | _,_,n+1,.cons r t=>.cons r (Vals.take n t)
theorem Vals.drop:∀{xs:AM}{us:AC} (n:Nat),Vals xs us->Vals (xs.drop n) (us.drop n)
 | _,_,0,r=>r
 | _,_,_+1,.nil=>.nil
 | _,_,n+1,.cons _ t=>.drop n t
def RelO:Option V->Option Value->Prop
 | some v,some u=>RelV v u
 | none,none=>True
 | _,_=>False
def KV{κ:Type}:List (κ×V)->List (κ×Value)->Prop:=Paired λp q=>p.1=q.1/\RelV p.2 q.2
noncomputable def kV:bp->V
 | .inl i=>.int i
 | .inr x=>.str x
inductive HO where
 | lst (xs:AM)
 | tup (xs:AM)
 | dK (kvs:List (bp×V))|dT (kvs:List (List bp×V))
 | set (S:Int->Bool) (n:Nat)
 | ins (C dx:Addr) (fs:List (Str×V))
 | own (x:Addr)
 | xd (fs:List (Str×V))
 | met (f x:Addr)
 | rng (lo hi:Int)
 | frz (o:Obj) (u:HO)
 | tbl (ps:Array Value)
 | ext (φ:Heap->Prop)
abbrev Hp:=Addr->Option HO
noncomputable def upd(H:Hp)(a:Addr)(o:HO):Hp:=λb=>if b=a then some o else H b
theorem Yh:upd H a o a=some o:=by unfold upd;grind
def Ym(h:b≠a):upd H a o b=H b:=by unfold upd;rw[if_neg h]
theorem zM{H:Hp}(h:H a=some o)(h':H b=some u)(d:o≠u):a≠b:=by grind
theorem Yk{H:Hp}(h:H a=some o)(c:H b=none):a≠b:=by grind
section
variable (P:P7)(w:World)
def ObjOk(H:Hp)(h:Heap)(a:Addr):HO->Prop
 | .lst xs=>xs.length<=sizeLine/\∃(its:AC) (n:Nat),Vals xs its/\h.get? a=some {cls:=.type "list",data:=.seq its.toArray n}
 | .tup xs=>xs.length<=sizeLine/\∃its:AC,Vals xs its/\IsTup h a its.toArray
 | .dK c=>c.length<=sizeLine/\(a==sysModules)=false/\∃vs,KV c vs/\h.DictOf (cH P w) a vs
 | .dT c=>c.length<=sizeLine/\(a==sysModules)=false/\∃xs:List (List bp×Addr×Value),
  Paired (λp q=>p.1=q.1/\H q.2.1=some (.tup (p.1.map kV))/\RelV p.2 q.2.2) c xs/\
  ∃o k m,h.get? a=some o/\o.ExactDict/\o.data=.dict k m/\k.toList=xs.map (entryOfKey (tupleKind (cH P w)))/\(xs.map (·.1)).Nodup
 | .set S n=>h.SetOf (intKind P w) a S n
 | .ins C g e=>H g=some (.own a)/\e.length<=1000/\g≠a/\h.get? a=some (W.instObj C g)/\
  ∃d,h.Ns1 g d/\(∀f,RelO (e.lookup f) (d f))/\PySem.Within d (e.map (·.1))
 | .own _=>∃o,h.get? a=some o
 | .xd e=>∃d,h.Ns1 a d/\∀f,RelO (e.lookup f) (d f)
 | .rng lo r=>∃t u v,h.get? a=some {cls:=.type "range",data:=.fields #[.int lo t,.int r u,.int 1 v]}
 | .frz o u=>h.get? a=some o/\ObjOk H h a u
 | .tbl ps=>h.get? a=some {cls:=.none,data:=.fields ps}
 | .met f x=>h.get? a=some (W.methodObj (.ref f) (.ref x))
 | .ext i=>i h/\(∃o,h.get? a=some o)/\∀j l,i j->(∀o,j.get? a=some o->l.get? a=some o)->i l
def HOk(H:Hp)(h:Heap):Prop:=∀a o,H a=some o->ObjOk P w H h a o
end
section
variable {P:P7}{w:World}{H H':Hp}{h h':Heap}{a:Addr}{o:HO}
def ObjOk.lt(x:ObjOk P w H h a o):a<h.objs.size:=by
 cases o with
 | lst k=>obtain⟨_,_,_,_,e⟩:=x;exact ql e
 | tup k=>obtain⟨_,_,_,p⟩:=x;exact p.lt
 | dK b=>obtain⟨_,_,_,_,o,_,_,e,_⟩:=x;exact ql e
 | dT b=>obtain⟨_,_,_,_,o,_,_,e,_⟩:=x;exact ql e
 | set S n=>obtain⟨o,_,_,_,e,_⟩:=x;exact ql e
 | ins C i c=>obtain⟨_,_,_,e,_⟩:=x;exact ql e
 | own y=>obtain⟨_,e⟩:=x;exact ql e
 | xd c=>obtain⟨_,⟨_,_,_,e,_⟩,_⟩:=x;exact ql e
 | rng lo g=>obtain⟨_,_,_,e⟩:=x;exact ql e
 | frz d u=>obtain⟨e,_⟩:=x;exact ql e
 | tbl l=>exact ql (x)
 | met f y=>exact ql (x)
 | ext j=>obtain⟨_,⟨_,e⟩,_⟩:=x;exact ql e
theorem Paired.mapP:∀{g:List d}{c:List e},Paired F g c->(∀a b,F a b->G a b)->Paired G g c
 | _,_,.nil,_=>.nil
 | _,_,.cons r t,f=>.cons (f _ _ r) (Paired.mapP t f)
theorem ObjOk.stay(x:ObjOk P w H h a o)(k:∀b u,(b=a\/H b=some (.own a))->h.get? b=some u->h'.get? b=some u)(G:∀b,H b=some (.own a)->H' b=some (.own a))(E:∀b xs,H b=some (.tup xs)->H' b=some (.tup xs)):ObjOk P w H' h' a o:=by
 induction o with
 | lst xs=>obtain⟨z,l,n,r,e⟩:=x;exact⟨z,l,n,r,k _ _ (.inl rfl) e⟩
 | tup xs=>obtain⟨z,l,r,g,e,c⟩:=x;exact⟨z,l,r,g,k _ _ (.inl rfl) e,c⟩
 | dK s=>obtain⟨z,y,L,r,g,i,j,e,c⟩:=x;exact⟨z,y,L,r,g,i,j,k _ _ (.inl rfl) e,c⟩
 | dT s=>
   obtain⟨z,y,xs,r,g,i,j,e,c⟩:=x;exact⟨z,y,xs,Paired.mapP r λp q z=>⟨z.1,E _ _ z.2.1,z.2.2⟩,g,i,j,k _ _ (.inl rfl) e,c⟩
 | set S n=>obtain⟨g,i,j,t,e,c⟩:=x;exact⟨g,i,j,t,k _ _ (.inl rfl) e,c⟩
 | ins C I D=>
   obtain⟨d,z,B,e,A,⟨m,i,j,M,c⟩,r⟩:=x;exact⟨G _ d,z,B,k _ _ (.inl rfl) e,A,⟨m,i,j,k _ _ (.inr d) M,c⟩,r⟩
 | own y=>obtain⟨g,e⟩:=x;exact⟨g,k _ _ (.inl rfl) e⟩
 | xd D=>obtain⟨A,⟨m,i,j,e,c⟩,r⟩:=x;exact⟨A,⟨m,i,j,k _ _ (.inl rfl) e,c⟩,r⟩
 | rng lo K=>obtain⟨t,u,v,e⟩:=x;exact⟨t,u,v,k _ _ (.inl rfl) e⟩
 | frz g u F=>obtain⟨e,q⟩:=x;exact⟨k _ _ (.inl rfl) e,F q⟩
 | tbl N=>
   have e:_=_:=x;show _=_
   ext
 | met f y=>
   have e:_=_:=x;show _=_
   ext
 | ext J=>obtain⟨p,⟨o,e⟩,st⟩:=x;exact⟨st _ _ p λo q=>k _ _ (.inl rfl) q,⟨o,k _ _ (.inl rfl) e⟩,st⟩
def HOk.lt(x:HOk P w H h)(e:H a=some o):a<h.objs.size:=(x a o e).lt
def HOk.fresh(x:HOk P w H h)(e:h.objs.size<=a):H a=none:=by
 cases q:H a with
 | none=>rfl
 | some u=>exact absurd (Qi (x.lt q) e) (Nat.lt_irrefl _)
def HOk.kept(x:HOk P w H h)(k:∀b u,h.get? b=some u->h'.get? b=some u):HOk P w H h':=λa o e=>
 (x a o e).stay (λb u _ q=>k b u q) (λ_ q=>q) λ_ _ q=>q
theorem HOk.laid(x:HOk P w H h)(k:∀b u,h.get? b=some u->h'.get? b=some u)(g:h.objs.size<=a)(f:ObjOk P w (upd H a o) h' a o):HOk P w (upd H a o) h':=λb u e=>by
 have d:=x.fresh g;by_cases i:b=a
 .subst i;rw[Yh]at e;grind
 .rw[Ym i]at e
  exact(x b u e).stay (λc v _ q=>k c v q) (λc q=>by rwa [Ym (Yk q d)]) λc j q=>by rwa [Ym (Yk q d)]
end
def Rd(H:Hp)(a:Addr)(u:HO):Prop:=H a=some u\/∃o,H a=some (.frz o u)
def Rd.ok(r:Rd H a u)(x:HOk P w H h):ObjOk P w H h a u:=by
 rcases r with r|⟨o,r⟩
 .exact x a u r
 .obtain⟨_,q⟩:=x a _ r
  exact q
def oh:Option HO->Prop
 | some (.lst _)=>True
 | some (.dK _)=>True
 | some (.dT _)=>True
 | some (.set _ _)=>True
 | some (.ins _ _ _)=>True
 | some (.ext _)=>True
 | _=>False
section
variable {P:P7}{w:World}{H:Hp}{h h':Heap}{x e:Addr}{o':HO}
theorem HOk.write(l:HOk P w H h)(d:oh (H x))(o:e=x\/H e=some (.own x))(k:∀b u,b≠e->h.get? b=some u->h'.get? b=some u)(f:∃u,h'.get? e=some u)(i:ObjOk P w (upd H x o') h' x o'):HOk P w (upd H x o') h':=λb u q=>by
 have a:∀c y,H c=some (.own y)->c≠x:=λc y r z=>by subst z;rwa [r]at d
 by_cases p:b=x
 .subst p;rw[Yh]at q;grind
 .rw[Ym p]at q
  by_cases j:b=e
  .have g:H b=some (.own x):=by
    grind
   rw[q]at g;cases g;obtain⟨v,m⟩:=f;exact⟨v,by grind⟩
  .refine(l b u q).stay (λc v n r=>k c v ?_ r) (λc r=>by rwa [Ym (a c b r)]) λc s r=>by rwa [Ym ((λc s r z=>by subst z;rwa [r]at d) c s r)]
   grind
end
structure Un(fs ex:List Addr)(H H':Hp)(h h':Heap):Prop where
 keep:∀b o,h.get? b=some o->H b=none->b∉fs->b∉ex->h'.get? b=some o
 slot:∀b o,h.get? b=some o->H b=none->b∈fs->b∉ex->∃sl,h'.get? b=some {o with slots:=sl}
 free:∀b o,h.get? b=some o->H b=none->b∉ex->H' b=none
 there:∀b o,h.get? b=some o->b∉ex->∃o',h'.get? b=some o'
 tups:∀b xs,H b=some (.tup xs)->H' b=some (.tup xs)
 frzs:∀b o u,H b=some (.frz o u)->H' b=some (.frz o u)
 tbls:∀b ps,H b=some (.tbl ps)->∃more,H' b=some (.tbl (ps++more))
section
variable {fs fs' ex ex':List Addr}{H H1 H2:Hp}{h h1 h2 h':Heap}{a x e:Addr}{o:HO}
def Un.any(u:Un fs ex H H1 h h1)(q:h.get? b=some c)(n:H b=none)(d:b∉ex):∃f,h1.get? b=some {c with slots:=f}:=by
 by_cases a:b∈fs
 .exact u.slot b c q n a d
 .exact⟨c.slots,u.keep b c q n a d⟩
def Un.kept(k:∀b u,h.get? b=some u->h'.get? b=some u):Un fs ex H H h h':=
 ⟨λb c q _ _ _=>k b c q,λb c q _ _ _=>⟨c.slots,k b c q⟩,λ_ _ _ n _=>n,λb c q _=>⟨c,k b c q⟩,λ_ _ q=>q,λ_ _ _ q=>q,λ_ a q=>⟨#[],by rw[q];simp⟩⟩
def Un.refl:Un fs ex H H h h:=.kept λ_ _ q=>q
theorem Un.laid(k:∀b u,h.get? b=some u->h'.get? b=some u)(d:h.objs.size<=a)(c:H a=none):Un fs ex H (upd H a o) h h' where
 keep:=λb u q _ _ _=>k b u q
 slot:=λb u q _ _ _=>⟨u.slots,k b u q⟩
 free:=λb u q n _=>by rwa [Ym (qm (Qi (ql q) d))]
 there:=λb u q _=>⟨u,k b u q⟩
 tups:=λb e q=>by rwa [Ym (Yk q c)]
 frzs:=λb u e q=>by rwa [Ym (Yk q c)]
 tbls:=λb f q=>⟨#[],by rw[Ym (Yk q c),q];simp⟩
theorem Un.write(d:oh (H x))(j:e=x\/H e=some (.own x))(k:∀b u,b≠e->h.get? b=some u->h'.get? b=some u)(g:∃u,h'.get? e=some u):Un fs ex H (upd H x o) h h':=by
 have f:∀b,H b=none->b≠x:=λb n z=>by subst z;rwa [n]at d
 have a:∀b,H b=none->b≠e:=λb n z=>by
  ext
 have c:∀b u,H b=some u->¬oh (some u)->b≠x:=λb u q i z=>by grind
 refine⟨λb u q n _ _=>k b u (a b n) q,λb u q n _ _=>⟨u.slots,k b u (a b n) q⟩,λb u q n _=>by rwa [Ym (f b n)],λb u q _=>?_,
  λb l q=>by rwa [Ym (c b _ q λz=>z)],λb u l q=>by rwa [Ym (c b _ q λz=>z)],λb m q=>⟨#[],by rw[Ym (c b _ q λz=>z),q];simp⟩⟩
 grind
end
noncomputable def SZ(h:Heap)(H:Hp):List Addr:=(List.range h.objs.size).filter λa=>(H a).isSome
def eK(h:Heap)(H:Hp):Heap:=W.hideAll h (SZ h H)
def S0(h:Heap)(H:Hp):(eK h H).objs.size=h.objs.size:=W.hideAll_size _ _
theorem zN(e:h.get? b=some o)(n:H b=none):(eK h H).get? b=some o:=
 W.hideAll_get _ e λc=>by
  have q:=(Qc c).2;grind
theorem zO(e:(eK h H).get? b=some o):h.get? b=some o/\H b=none:=by
 have c:=W.of_hideAll _ e;refine⟨c,?_⟩
 cases q:H b with
 | none=>rfl
 | some x=>
   have z:(eK h H).get? b=none:=W.hideAll_none _ (List.mem_filter.mpr ⟨List.mem_range.mpr (ql c),by simp[q]⟩);grind
structure Mod(K:W7)(mg:AD)(base:Heap):Prop where
 kin:K.In base
 glob:base.Ns mainGlobals mg
 blt:∃mb,base.Ns builtinsNs mb/\∀x:Str,x≠"__name__"->mb x=bootBuiltins x
 nolimit:base.NoLimit
structure Cx where
 prog:P7
 w:World
 K:W7
 mg:AD
 base:Heap
 A:Around
 N:AJ
 s₀:Shared
 H₀:Hp
 env:Env
 outer:List Env
 stack:List Env
 ex:List Addr
 fn:Str->Bool
 calm:Bool
 pn:AB
 xe:AA
noncomputable def fT(l:List Env):List Addr:=l.filterMap (·.frame)
abbrev Cx.fs(X:Cx):List Addr:=fT X.outer
def g0(a:Scope)(x:Str):Prop:=a.names.lookup x=some .local\/a.names.lookup x=some .cell\/a.names.lookup x=some .free
def c8(a:Scope)(x:Str):Prop:=a.names.lookup x=some .local\/a.names.lookup x=some .cell
def zP(env:Env)(h:Heap)(m:AD)(x:Str)(u:Value):Prop:=
 env.kindOf x=some .local/\m x=some u\/((env.kindOf x=some .cell\/env.kindOf x=some .free)/\∃c,env.cells.lookup x=some c/\h.IsCell c (some u))
structure Cx.Ok(X:Cx):Prop where
 mod:Mod X.K X.mg X.base
 kind:X.env.scope.kind=.function
 glob:X.env.globals=mainGlobals
 blt:X.env.builtins=builtinsNs
 above:X.s₀.heap.objs.size<=X.env.locals
 inj:∀x y c,X.env.cells.lookup x=some c->X.env.cells.lookup y=some c->x=y
 has:∀x,(X.env.kindOf x=some .cell\/X.env.kindOf x=some .free)->∃c,X.env.cells.lookup x=some c
 cab:∀x c,X.fn x=true->X.env.cells.lookup x=some c->X.s₀.heap.objs.size<=c
 hd:X.calm=true->X.A.handled=none
 frames:X.A.frames=some X.stack
 stk:X.stack=X.outer\/(X.stack=X.env::X.outer/\X.env.frame=some X.env.locals)
 exf:∀b∈X.ex,b≠X.env.locals/\∀x c,X.env.cells.lookup x=some c->c≠b
 bs:∀b o,X.base.get? b=some o->X.s₀.heap.get? b=some o/\X.H₀ b=none
 bsz:X.base.objs.size<=X.s₀.heap.objs.size
 noex:∀b o,X.base.get? b=some o->b∉X.ex
 exfs:∀b∈X.ex,b∉X.fs
 funs:X.s₀.heap.FunFrames X.base X.outer
 frf:∀b∈X.fs,X.H₀ b=none
structure Inv(X:Cx)(pins:AB)(σ:List (Option V))(H:Hp)(s:Shared):Prop where
 ok:X.Ok
 os:s.os=X.s₀.os
 bare:AllBare s.gens
 base:Un X.fs X.ex X.H₀ H X.s₀.heap s.heap
 loc:∃m,s.heap.Ns X.env.locals m/\∀(i:Nat) (x:Str) (v:V),X.N[i]?=some x->σ[i]?=some (some v)->g0 X.env.scope x->∃u,RelV v u/\zP X.env s.heap m x u
 cell:∀x c,X.env.cells.lookup x=some c->∃v,s.heap.IsCell c v
 free:H X.env.locals=none
 freeC:∀x c,X.env.cells.lookup x=some c->H c=none
 pin:∀p∈X.pn++pins,s.heap.get? p.1=some p.2/\H p.1=none/\p.1≠X.env.locals/\p.1∉X.fs/\∀v,p.2.data≠.cell v
 hok:HOk X.prog X.w H s.heap
 len:σ.length=X.N.length
section
variable {σ:List (Option V)}{H H':Hp}{s:Shared}{h':Heap}
theorem Cx.Ok.nofr(c:X.Ok)(e:X.base.get? b=some o):b∉X.fs:=λa=>by
 have:=(c.funs.mem a).1;grind
def Inv.bs(I:Inv X pins σ H s):∀b o,X.base.get? b=some o->s.heap.get? b=some o/\H b=none:=λb o e=>
 ⟨I.base.keep b o (I.ok.bs b o e).1 (I.ok.bs b o e).2 (I.ok.nofr e) (I.ok.noex b o e),I.base.free b o (I.ok.bs b o e).1 (I.ok.bs b o e).2 (I.ok.noex b o e)⟩
def Inv.bk(I:Inv X pins σ H s):∀b o,X.base.get? b=some o->s.heap.get? b=some o:=λb o e=>(I.bs b o e).1
def Inv.mod(I:Inv X pins σ H s):Mod X.K X.mg X.base:=I.ok.mod
def Inv.kIn(I:Inv X pins σ H s):X.K.In s.heap:=I.ok.mod.kin.keeps I.bk
def Inv.lt(I:Inv X pins σ H s):X.env.locals< ~~~s:=let ⟨_,a,_⟩:=I.loc;a.lt
def Inv.sz(I:Inv X pins σ H s):X.s₀.heap.objs.size<= ~~~s:=Qg I.ok.above (Nat.le_of_lt I.lt)
def Inv.nofs(I:Inv X pins σ H s){a:Addr}(h:(~~~s)<=a):a∉X.fs:=λc=>by
 obtain⟨_,o,b,_⟩:=I.ok.funs.mem c;exact absurd (Qi (ql b) (Qg I.sz h)) (Nat.lt_irrefl _)
theorem Inv.cne(I:Inv X pins σ H s):∀x c,X.env.cells.lookup x=some c->c≠X.env.locals:=λx c e z=>by
 obtain⟨v,o,d,i⟩:=I.cell x c e;obtain⟨m,⟨g,f,h,b,a,_⟩,_⟩:=I.loc;grind
theorem Inv.funs(I:Inv X pins σ H s):s.heap.FunFrames X.base X.outer:=by
 have c:∀(l:_),(∀b∈fT l,b∈X.fs)->X.s₀.heap.FunFrames X.base l->s.heap.FunFrames X.base l:=by
  intro l
  induction l with
  | nil=>intro _ _;trivial
  | cons t r k=>
    intro q m;obtain⟨j,⟨L,o,d,i,f,h⟩,g⟩:=m;have a:=q L (by unfold fT;ext);obtain⟨n,e⟩:=I.base.slot L o f (I.ok.frf L a) a λz=>I.ok.exfs L z a;exact⟨j,⟨L,_,d,i,e,h⟩,k (λb p=>q b (by unfold fT;rw[List.filterMap_cons,d];exact qg _ p)) g⟩
 exact c _ (λ_ p=>p) I.ok.funs
def Inv.stack(I:Inv X pins σ H s):s.heap.FunFrames X.base X.stack:=by
 rcases I.ok.stk with e|⟨e,b⟩
 .rw[e];exact I.funs
 .rw[e]
  obtain⟨m,a,_⟩:=I.loc;exact .cons (by rw[I.ok.kind];decide) b a (Heap.get?_none_of_le (Qg I.ok.bsz I.ok.above)) I.funs
theorem Inv.stkSub(I:Inv X pins σ H s):∀b∈fT X.stack,b∈X.env.locals::X.fs:=λb c=>by
 rcases I.ok.stk with e|⟨e,a⟩
 .grind
 .rw[e]at c
  unfold fT at c
  rwa [List.filterMap_cons,a]at c
def Inv.stkFree(I:Inv X pins σ H s):∀b∈fT X.stack,H b=none:=λb c=>by
 rcases qu (I.stkSub b c)with e|c
 .rw[e];exact I.free
 .obtain⟨_,o,a,_⟩:=I.ok.funs.mem c
  exact I.base.free b o a (I.ok.frf b c) λz=>I.ok.exfs b z c
theorem Inv.step{ch:List Addr}(I:Inv X pins σ H s)(hch:∀b∈ch,(b∈X.ex\/X.s₀.heap.objs.size<=b)/\b≠X.env.locals/\(∀x c,X.env.cells.lookup x=some c->c≠b)/\∀p∈X.pn++pins,p.1≠b)(keep:∀b o,b≠X.env.locals->b∉X.fs->b∉ch->s.heap.get? b=some o->H b=none->h'.get? b=some o)(slot:∀b o,b≠X.env.locals->b∈X.fs->b∉ch->s.heap.get? b=some o->H b=none->∃sl,h'.get? b=some {o with slots:=sl})(free:∀b o,b∉ch->s.heap.get? b=some o->H b=none->H' b=none)(there:∀b o,b∉ch->s.heap.get? b=some o->∃o',h'.get? b=some o')(tups:∀b xs,H b=some (.tup xs)->H' b=some (.tup xs))(frzs:∀b o u,H b=some (.frz o u)->H' b=some (.frz o u))(tbls:∀b ps,H b=some (.tbl ps)->∃more,H' b=some (.tbl (ps++more)))(ns:∀m,s.heap.Ns X.env.locals m->h'.Ns X.env.locals m)(hok:HOk X.prog X.w H' h')(hg:AllBare g'):
 Inv X pins σ H' {s with heap:=h',gens:=g',drawn:=d',toks:=t' }:=by
 have neL:∀b o,X.s₀.heap.get? b=some o->b≠X.env.locals:=λb o e=>qm (Qi (ql e) I.ok.above)
 have neC:∀b o,X.s₀.heap.get? b=some o->b∉X.ex->b∉ch:=λb o e hx hb=>by
  rcases(hch b hb).1 with z|z
  .exact hx z
  .exact absurd (Qi (ql e) z) (Nat.lt_irrefl _)
 have cellK:∀x c,X.env.cells.lookup x=some c->∀v,s.heap.IsCell c v->h'.IsCell c v:=λx c e v hx_=>by
  obtain⟨o,ho,hd⟩:=hx_;have nch:c∉ch:=λz=>(hch c z).2.2.1 x c e rfl;by_cases hc:c∈X.fs
  .obtain⟨sl,q⟩:=slot c o (I.cne x c e) hc nch ho (I.freeC x c e)
   exact⟨_,q,hd⟩
  .exact⟨o,keep c o (I.cne x c e) hc nch ho (I.freeC x c e),hd⟩
 refine⟨I.ok,I.os,hg,⟨λb o e n hb hx=>?_,λb o e n hb hx=>?_,λb o e n hx=>?_,λb o e hx=>?_,λb xs e=>tups b xs (I.base.tups b xs e),λb o xs e=>frzs b o xs (I.base.frzs b o xs e),λb ps e=>?_⟩,?_,λx c e=>?_,?_,λx c e=>?_,λp hp=>?_,hok,I.len⟩
 .exact keep b o (neL b o e) hb (neC b o e hx) (I.base.keep b o e n hb hx) (I.base.free b o e n hx)
 .obtain⟨sl,e1⟩:=I.base.slot b o e n hb hx
  obtain⟨sl',e2⟩:=slot b _ (neL b o e) hb (neC b o e hx) e1 (I.base.free b o e n hx);exact⟨sl',e2⟩
 .obtain⟨o',e1⟩:=I.base.there b o e hx
  exact free b o' (neC b o e hx) e1 (I.base.free b o e n hx)
 .obtain⟨o',e1⟩:=I.base.there b o e hx
  exact there b o' (neC b o e hx) e1
 .obtain⟨m1,e1⟩:=I.base.tbls b ps e
  obtain⟨m2,e2⟩:=tbls b _ e1;exact⟨m1++m2,by rw[e2,Array.append_assoc]⟩
 .obtain⟨m,hn,hl⟩:=I.loc
  refine⟨m,ns m hn,λi x v e1 e2 e3=>?_⟩;obtain⟨u,r,l⟩:=hl i x v e1 e2 e3;refine⟨u,r,?_⟩;rcases l with l|⟨k,c,e,z⟩
  .exact .inl l
  .exact .inr ⟨k,c,e,cellK x c e _ z⟩
 .obtain⟨v,z⟩:=I.cell x c e
  exact⟨v,cellK x c e v z⟩
 .obtain⟨m,⟨o,_,_,ho,_⟩,_⟩:=I.loc
  exact free _ o (λz=>(hch _ z).2.1 rfl) ho I.free
 .obtain⟨v,o,ho,hd⟩:=I.cell x c e
  exact free c o (λz=>(hch c z).2.2.1 x c e rfl) ho (I.freeC x c e)
 .obtain⟨e,n,ne,nf,d⟩:=I.pin p hp
  have nch:p.1∉ch:=λz=>(hch p.1 z).2.2.2 p hp rfl;exact⟨keep p.1 p.2 ne nf nch e n,free p.1 p.2 nch e n,ne,nf,d⟩
theorem Inv.un(I:Inv X pins σ H s)(u:Un X.fs [] H H' s.heap h')(f:HOk X.prog X.w H' h'):Inv X pins σ H' {s with heap:=h',toks:=t' }:=by
 obtain⟨m,⟨o,q,t,g,r⟩,_⟩:=id I.loc;obtain⟨p,j⟩:=u.any g I.free nofun
 exact I.step (ch:=[]) (λ_ z=>nomatch z) (λb o _ v _ e n=>u.keep b o e n v nofun) (λb o _ v _ e n=>u.slot b o e n v nofun) (λb o _ e n=>u.free b o e n nofun) (λb o _ e=>u.there b o e nofun) u.tups u.frzs u.tbls (λk h=>by
  obtain⟨l,c,d,a,i⟩:=h;rw[g]at a;cases a
  exact⟨_,c,d,j,i⟩) f I.bare
def Inv.call(I:Inv X pins σ H s)(u:Un (fT X.stack) ch H H' s.heap h')(i:HOk X.prog X.w H' h')(q:AllBare D)(d:∀b∈ch,(b∈X.ex\/X.s₀.heap.objs.size<=b)/\b≠X.env.locals/\(∀x c,X.env.cells.lookup x=some c->c≠b)/\∀p∈X.pn++pins,p.1≠b):
 Inv X pins σ H' {s with heap:=h',gens:=D,drawn:=E,toks:=t' }:=by
 obtain⟨m,⟨o,B,A,k,r⟩,_⟩:=id I.loc;obtain⟨v,j⟩:=u.any k I.free λz=>(d _ z).2.1 rfl
 exact I.step d (λb o j C a e n=>u.keep b o e n (λz=>(qu (I.stkSub b z)).elim j C) a) (λb o _ _ a e n=>u.any e n a) (λb o a e n=>u.free b o e n a) (λb o a e=>u.there b o e a) u.tups u.frzs u.tbls (λy l=>by
  obtain⟨w,g,h,f,t⟩:=l;rw[k]at f;cases f
  exact⟨_,g,h,j,t⟩) i q
theorem Inv.turned(I:Inv X pins σ H s)(k:∀b o,b≠a->s.heap.get? b=some o->h'.get? b=some o)(t:H a=none)(i:a≠X.env.locals)(w:a∈X.ex\/X.s₀.heap.objs.size<=a)(y:∀x c,X.env.cells.lookup x=some c->c≠a)(l:∀p∈X.pn++pins,p.1≠a):Inv X pins σ H {s with heap:=h',toks:=t' }:=by
 refine I.step (ch:=[a]) (λb A=>?_) (λb o _ _ d e _=>k b o (λz=>d (by simp[z])) e) (λb o _ _ d e _=>⟨o.slots,k b o (λz=>d (by simp[z])) e⟩) (λ_ _ _ _ n=>n)
  (λb o d e=>⟨o,k b o (λz=>d (by simp[z])) e⟩) (λ_ _ e=>e) (λ_ _ _ e=>e) (λb B e=>⟨#[],by rw[e];simp⟩) (λm f=>?_) (λb u e=>?_) I.bare
 .simp_all<;>ac_nf
 .obtain⟨o,g,h,j,r⟩:=f
  exact⟨o,g,h,k _ o (.symm i) j,r⟩
 .refine(I.hok b u e).stay (λc v d q=>k c v ?_ q) (λ_ q=>q) λ_ _ q=>q
  symm
def Inv.tok(I:Inv X pins σ H s)(t:Nat):Inv X pins σ H {s with toks:=t}:=I.un .refl I.hok
def Inv.kept(I:Inv X pins σ H s)(k:∀b u,s.heap.get? b=some u->h'.get? b=some u):Inv X pins σ H {s with heap:=h',toks:=t' }:=I.un (.kept k) (I.hok.kept k)
def Inv.laid{a:Addr}(I:Inv X pins σ H s)(k:∀b u,s.heap.get? b=some u->h'.get? b=some u)(c:(~~~s)<=a)(d:ObjOk X.prog X.w (upd H a o) h' a o):
 Inv X pins σ (upd H a o) {s with heap:=h',toks:=t' }:=I.un (.laid k c (I.hok.fresh c)) (I.hok.laid k c d)
def Inv.write(I:Inv X pins σ H s)(f:oh (H x))(d:e=x\/H e=some (.own x))(k:∀b u,b≠e->s.heap.get? b=some u->h'.get? b=some u)(a:∃u,h'.get? e=some u)(c:ObjOk X.prog X.w (upd H x o) h' x o):Inv X pins σ (upd H x o) {s with heap:=h',toks:=t' }:=I.un (.write f d k a) (I.hok.write f d k a c)
def Inv.pins_of(I:Inv X pins σ H s)(h:∀p∈a,s.heap.get? p.1=some p.2/\H p.1=none/\p.1≠X.env.locals/\p.1∉X.fs/\∀v,p.2.data≠.cell v):Inv X a σ H s:=
 ⟨I.ok,I.os,I.bare,I.base,I.loc,I.cell,I.free,I.freeC,λp b=>(qw b).elim (λz=>I.pin p (List.mem_append_left _ z)) (h p),I.hok,I.len⟩
def M7{N:AJ}(c:N.Nodup){i j:Nat}(a:N[i]?=some x)(b:N[j]?=some x):i=j:=by
 obtain⟨e,f⟩:=qo a;obtain⟨d,g⟩:=qo b;exact(List.getElem_inj c).mp (f.trans g.symm)
theorem M8(I:Inv X pins σ H s)(hN:X.N.Nodup)(J:X.N[i]?=some x)(g:c8 X.env.scope x)(r:RelV v u)(h:∀s',Inv X pins (σ.set i (some v)) H s'->(∃a,Heap.SameBut a s.heap s'.heap/\(a=X.env.locals\/X.env.cells.lookup x=some a))->Q () s')(hf:X.fn x=true\/X.env.scope.names.lookup x=some .local:=by trivial):wpAny M A (storeName X.env x u) Q E s:=by
 obtain⟨m,N,hl⟩:=id I.loc
 have F:(X.env.scope.kind==.class||(X.env.scope.kind==.module&&X.env.locals != X.env.globals))=false:=by rw[I.ok.kind];rfl
 have t:i<σ.length:=by rw[I.len];grind
 have B:=I.cne
 have f:∀{a:Addr}{h':Heap},(∃o,s.heap.get? a=some o/\H a=none)->Heap.SameBut a s.heap h'->HOk X.prog X.w H h':=λ{a h'} ha V b ob e=>by
  refine(I.hok b ob e).stay (λc R l q=>(V.2 c ?_).trans q) (λ_ q=>q) λ_ _ q=>q;grind
 rcases g with D|D
 .refine wpAny_storeName_local D N (λh' hn' V=>?_) F
  obtain⟨oL,_,_,Z,_⟩:=id N;refine h _ ⟨I.ok,I.os,I.bare,⟨λb o e n hb g=>?_,λb o e n hb g=>?_,I.base.free,λb o e g=>?_,I.base.tups,I.base.frzs,I.base.tbls⟩,⟨_,hn',λj y O e1 e2 U=>?_⟩,λy c e=>?_,I.free,I.freeC,λp L=>?_,f ⟨oL,Z,I.free⟩ V,by simpa using I.len⟩ ⟨_,V,.inl rfl⟩
  .exact(V.2 b (qm (Qi (ql e) I.ok.above))).trans (I.base.keep b o e n hb g)
  .obtain⟨T,e1⟩:=I.base.slot b o e n hb g
   exact⟨T,(V.2 b (qm (Qi (ql e) I.ok.above))).trans e1⟩
  .obtain⟨o',e1⟩:=I.base.there b o e g
   exact⟨o',(V.2 b (qm (Qi (ql e) I.ok.above))).trans e1⟩
  .by_cases w:j=i
   .subst w
    rw[J]at e1;cases e1;rw[List.getElem?_set_self t]at e2;cases e2;exact⟨u,r,.inl ⟨D,by simp⟩⟩
   .rw[Qp (Ne.symm w)]at e2
    obtain⟨W,S,q⟩:=hl j y O e1 e2 U;refine⟨W,S,?_⟩;rcases q with⟨k,e⟩|⟨k,c,e,z⟩
    .refine .inl ⟨k,?_⟩
     have:y≠x:=λe=>w (M7 hN e1 (e ▸ J));grind
    .exact .inr ⟨k,c,e,z.sameBut V (B y c e)⟩
  .obtain⟨R,z⟩:=I.cell y c e
   exact⟨R,z.sameBut V (B y c e)⟩
  .obtain⟨e,n,K,nf,d⟩:=I.pin p L
   exact⟨(V.2 p.1 K).trans e,n,K,nf,d⟩
 .have C:X.fn x=true:=by
   grind
  obtain⟨c,l⟩:=I.ok.has x (.inl D);obtain⟨R,z⟩:=I.cell x c l;refine wpAny_storeName_cell I.ok.kind D l z (λh' P V=>?_);obtain⟨oc,hoc,hocd⟩:=id z;refine h {s with heap:=h' } ⟨I.ok,I.os,I.bare,⟨λb o e n hb g=>?_,λb o e n hb g=>?_,I.base.free,λb o e g=>?_,I.base.tups,I.base.frzs,I.base.tbls⟩,⟨m,N.sameBut V (Ne.symm (B x c l)),λj y O e1 e2 U=>?_⟩,λy G e=>?_,I.free,I.freeC,λp L=>?_,f ⟨oc,hoc,I.freeC x c l⟩ V,by simpa using I.len⟩ ⟨c,V,.inr l⟩
  .exact(V.2 b (qm (Qi (ql e) (I.ok.cab x c C l)))).trans (I.base.keep b o e n hb g)
  .obtain⟨T,e1⟩:=I.base.slot b o e n hb g
   exact⟨T,(V.2 b (qm (Qi (ql e) (I.ok.cab x c C l)))).trans e1⟩
  .obtain⟨o',e1⟩:=I.base.there b o e g
   exact⟨o',(V.2 b (qm (Qi (ql e) (I.ok.cab x c C l)))).trans e1⟩
  .by_cases w:j=i
   .subst w
    rw[J]at e1;cases e1;rw[List.getElem?_set_self t]at e2;cases e2;exact⟨u,r,.inr ⟨.inl D,c,l,P⟩⟩
   .rw[Qp (Ne.symm w)]at e2
    obtain⟨W,S,q⟩:=hl j y O e1 e2 U;refine⟨W,S,?_⟩;rcases q with q|⟨k,G,e,z'⟩
    .exact .inl q
    .refine .inr ⟨k,G,e,z'.sameBut V ?_⟩
     rintro rfl;exact w (M7 hN e1 (I.ok.inj _ _ _ e l ▸ J))
  .by_cases Y:G=c
   .grind
   .obtain⟨w2,z2⟩:=I.cell y G e
    exact⟨w2,z2.sameBut V Y⟩
  .obtain⟨e,n,K,nf,d⟩:=I.pin p L
   refine⟨(V.2 p.1 ?_).trans e,n,K,nf,d⟩;grind
abbrev aaf(X:Cx)(x:Str):Prop:=X.fn x=true\/X.env.scope.names.lookup x=some .local
def zQ(I:Inv X pins σ H s)(a:X.N.Nodup)(d:X.N[i]?=some x)(b:c8 X.env.scope x)(r:RelV v u)(h:∀s',Inv X pins (σ.set i (some v)) H s'->Q () s')(e:aaf X x:=by trivial):wpAny M A (storeName X.env x u) Q E s:=
 M8 I a d b r (λs' c _=>h s' c) e
def Inv.call'(I:Inv X pins σ H s)(f:s'.os=s.os)(u:Un (fT X.stack) ch H H' s.heap s'.heap)(d:HOk X.prog X.w H' s'.heap)(e:AllBare s'.gens)(a:∀b∈ch,(b∈X.ex\/X.s₀.heap.objs.size<=b)/\b≠X.env.locals/\(∀x c,X.env.cells.lookup x=some c->c≠b)/\∀p∈X.pn++pins,p.1≠b):Inv X pins σ H' s':=by
 obtain⟨k,h,j,i,g⟩:=s';subst f;exact I.call u d e a
end
abbrev XK:=Value->Option Addr->Hp->Prop
abbrev St:=List (Option V)
abbrev VK:=V->Hp->Prop
abbrev TE:=St->Hp->VK->Prop
abbrev TT:=St->Hp->(Bool->Hp->Prop)->Prop
abbrev TA:=St->Hp->(AM->Hp->Prop)->Prop
structure fA where
 nx:St->Hp->Prop
 rt:VK
 bk:St->Hp->Prop:=λ_ _=>False
 ct:St->Hp->Prop:=λ_ _=>False
abbrev TS:=fA->St->Hp->Prop
def EP(X:Cx)(pins:AB)(σ:St)(Q:VK)(u:Value)(s':Shared):Prop:=∃v a,Inv X pins σ a s'/\RelV v u/\Q v a
def TP(X:Cx)(pins:AB)(σ:St)(Q:Bool->Hp->Prop)(b:Bool)(s':Shared):Prop:=∃a,Inv X pins σ a s'/\Q b a
def AP(X:Cx)(pins:AB)(σ:St)(Q:AM->Hp->Prop)(us:AC)(s':Shared):Prop:=∃a b,Inv X pins σ b s'/\Vals a us/\Q a b
def SP(X:Cx)(pins:AB)(D:fA)(f:Flow)(s':Shared):Prop:=
 match f with
 | .next=>∃a b,Inv X pins a b s'/\D.nx a b
 | .brk=>∃a b,Inv X pins a b s'/\D.bk a b
 | .cont=>∃a b,Inv X pins a b s'/\D.ct a b
 | .ret u=>∃v a b,Inv X pins a b s'/\RelV v u/\D.rt v b
abbrev aah(X:Cx){a:Type}:=@wpAny a (mZ X.prog X.w) X.A
def PE(X:Cx)(e:Expr)(t:TE):Prop:=
 ∀(a:List _) (s:Shared) (b:St) (H:Hp) (Q:VK),Inv X a b H s->t b H Q->aah X (eval e X.env) (EP X a b Q) X.xe s
def PT(X:Cx)(e:Expr)(t:TT):Prop:=
 ∀(a:List _) (s:Shared) (b:St) (H:Hp) (Q:Bool->Hp->Prop),Inv X a b H s->t b H Q->aah X (isTrue e X.env (eval e X.env)) (TP X a b Q) X.xe s
def PW(X:Cx)(e:Expr)(t:TT):Prop:=
 ∀(a:Sem _) (b:List _) (s:Shared) (c:St) (H:Hp) (Q:Bool->Hp->Prop),Inv X b c H s->t c H Q->aah X (isTrue e X.env a) (TP X b c Q) X.xe s
def PW.pt(h:PW X e t):PT X e t:=h _
def PA(X:Cx)(b:AK)(t:TA):Prop:=
 ∀(a:Pos) (c:List _) (s:Shared) (d:St) (H:Hp) (Q:AM->Hp->Prop),Inv X c d H s->t d H Q->aah X (spliced (backTo a (starEach b X.env))) (AP X c d Q) X.xe s
def PS(X:Cx)(st:Stmt)(t:TS):Prop:=
 ∀(a:List _) (s:Shared) (b:St) (H:Hp) (D:fA),Inv X a b H s->t D b H->aah X (exec st X.env) (SP X a D) X.xe s
def PSs(X:Cx)(st:List Stmt)(t:TS):Prop:=
 ∀(a:List _) (s:Shared) (b:St) (H:Hp) (D:fA),Inv X a b H s->t D b H->aah X (execs st X.env) (SP X a D) X.xe s
def aL(h:wpAny M A t Q E s)(c:∀a s,Q a s->b a s):wpAny M A t b E s:=wz h c λ_ _ x=>x
section
def zR(i:Nat):TE:=λa H Q=>∃v,a[i]?=some (some v)/\Q v H
def tC(v:V):TE:=λ_ H Q=>Q v H
abbrev du(x:Str):Prop:=(x==("__debug__":Str))=false
abbrev ju(x:Str):Prop:=(x==("__classdict__":Str))=false
def kh{j:Pos}(p:X.N[i]?=some x)(o:g0 X.env.scope x)(f:du x:=by decide)(g:ju x:=by decide):PE X (.Name x j) (zR i):=by
 intro w s y H Q I h;obtain⟨v,e,h⟩:=h;obtain⟨m,n,q⟩:=I.loc;obtain⟨u,r,l⟩:=q i x v p e o
 have b:EP X _ y Q u s:=⟨v,H,I,r,h⟩
 rcases l with⟨d,t⟩|⟨d,c,k,a⟩
 .exact wpAny_Name (wpAny_loadName_local I.ok.kind d n t b) f
 .rcases d with d|d
  .exact wpAny_Name (wpAny_loadName_cell I.ok.kind d k a b) f
  .exact wpAny_Name (wpAny_loadName_free I.ok.kind d k a b g) f
def zS{i j a}:PE X (.Constant (.int i) j a) (tC (.int i)):=λ_ _ _ H _ I h=>wpAny_Constant_int ⟨.int i,H,I.tok _,⟨_,rfl⟩,h⟩
def zT{b j a}:PE X (.Constant (.bool b) j a) (tC (.bl b)):=λ_ _ _ H _ I h=>Constant_bool ⟨.bl b,H,I,rfl,h⟩
def zU{j a}:PE X (.Constant .none j a) (tC .non):=λ_ _ _ H _ I h=>Constant_none ⟨.non,H,I,rfl,h⟩
def oi{x j b}:PE X (.Constant (.str x) j b) (tC (.str x)):=λ_ _ _ H _ I h=>Calls.Constant_str ⟨.str x,H,I.tok _,⟨_,rfl⟩,h⟩
def Gl(X:Cx)(x:Str):Prop:=X.env.kindOf x=some .globalImplicit
def M9{σ:St}(I:Inv X pins σ H s)(d:Gl X x)(e:X.mg x=some u)(h:Q u s)(c:du x:=by decide):aah X (eval (.Name x b) X.env) Q E s:=
 Calls.Name_function_global I.ok.kind d (Calls.loadGlobal_global (by rw[I.ok.glob];exact I.mod.glob.keeps I.bk) e h) c
theorem jv{E:AA}{σ:St}{b:Pos}(I:Inv X pins σ H s)(e:Gl X x)(g:X.mg x=none)(c:bootBuiltins x=some u)(h:Q u s)(j:x≠"__name__":=by decide)(f:du x:=by decide):aah X (eval (.Name x b) X.env) Q E s:=by
 obtain⟨k,i,d⟩:=I.mod.blt;exact Calls.Name_function_global I.ok.kind e (Calls.loadGlobal_builtin (by rw[I.ok.glob];exact I.mod.glob.keeps I.bk) g (by rw[I.ok.blt];exact i.keeps I.bk) ((d x j).trans c) h) f
def zV{a:Pos}(d:Gl X x)(e:X.mg x=none)(b:bootBuiltins x=some u)(r:RelV v u)(f:x≠"__name__":=by decide)(c:du x:=by decide):PE X (.Name x a) (tC v):=
 λ_ _ _ H _ I h=>jv I d e b ⟨v,H,I,r,h⟩ f c
variable {a b:Expr}{ta tb:TE}
variable {tA tB':TT}{rest:AK}
def oj(t u:TT):TT:=λa H Q=>t a H λc d=>if c=true then u a d Q else Q false d
def M_(t u:TT):TT:=λa H Q=>t a H λc d=>if c=true then Q true d else u a d Q
def zW(t:TT):TT:=λa H Q=>t a H λc d=>Q (!c) d
def zX(d:PT X a tA):PW X (.BoolOp .And [a] pos) tA:=by
 intro g b s i H Q I h;refine isTrue_and (aL (d _ s i H Q I h) λc f e=>?_)
 cases c with
 | true=>exact isTrue_and_nil e
 | false=>exact e
def zY(d:PT X a tA):PW X (.BoolOp .Or [a] pos) tA:=by
 intro g b s i H Q I h;refine isTrue_or (aL (d _ s i H Q I h) λc f e=>?_)
 cases c with
 | false=>exact isTrue_or_nil e
 | true=>exact e
def zZ(i:PT X a tA)(n:PW X (.BoolOp .And (b::rest) pos) tB'):PW X (.BoolOp .And (a::b::rest) pos) (oj tA tB'):=by
 intro k l s m H Q I h;refine isTrue_and (aL (i _ s m H _ I h) λc j d=>?_);obtain⟨g,f,e⟩:=d
 cases c with
 | true=>exact n k _ j m g Q f e
 | false=>exact⟨g,f,e⟩
def z0(i:PT X a tA)(n:PW X (.BoolOp .Or (b::rest) pos) tB'):PW X (.BoolOp .Or (a::b::rest) pos) (M_ tA tB'):=by
 intro k l s m H Q I h;refine isTrue_or (aL (i _ s m H _ I h) λc j d=>?_);obtain⟨g,f,e⟩:=d
 cases c with
 | true=>exact⟨g,f,e⟩
 | false=>exact n k _ j m g Q f e
def z1(d:PT X a tA):PT X (.UnaryOp .Not a pos) (zW tA):=by
 intro b s c H Q I h;exact isTrue_not (d _ s c H _ I h)
def z3(ta tb:TE):TE:=λa H Q=>ta a H λx d=>∃c,x=.bl c/\if c=true then tb a d Q else Q (.bl false) d
def z4(ta tb:TE):TE:=λσ H Q=>ta σ H λx d=>∃c,x=.bl c/\if c=true then Q (.bl true) d else tb σ d Q
def z7(ta:TE):TE:=λa H Q=>ta a H λx d=>∃c,x=.bl c/\Q (.bl (!c)) d
def om{e}(h:PE X a t):PE X (.BoolOp e [a] pos) t:=λb s d H Q I c=>BoolOp_one (h _ s d H Q I c)
def z9(k:PE X a ta)(n:PE X (.BoolOp .And (b::rest) pos) tb):PE X (.BoolOp .And (a::b::rest) pos) (z3 ta tb):=by
 intro l s m H Q I h;refine BoolOp_and (aL (k _ s m H _ I h) λv i e=>?_);obtain⟨x,f,g,j,d⟩:=e;obtain⟨c,rfl,d⟩:=d;cases j;refine wpAny_truthy_bool ?_
 cases c with
 | true=>exact n _ i m f Q g d
 | false=>exact⟨.bl _,f,g,rfl,d⟩
def z_(k:PE X a ta)(hb:PE X (.BoolOp .Or (b::rest) pos) tb):PE X (.BoolOp .Or (a::b::rest) pos) (z4 ta tb):=by
 intro pins s σ H Q I h;refine BoolOp_or (aL (k pins s σ H _ I h) λv i e=>?_);obtain⟨x,f,g,j,d⟩:=e;obtain⟨c,rfl,d⟩:=d;cases j;refine wpAny_truthy_bool ?_
 cases c with
 | false=>exact hb pins i σ f Q g d
 | true=>exact⟨.bl true,f,g,rfl,d⟩
def Aa(j:PE X a ta):PE X (.UnaryOp .Not a pos) (z7 ta):=by
 intro b s l H Q I h;refine UnaryOp_ (aL (j _ s l H _ I h) λv k d=>?_);obtain⟨x,i,g,f,e⟩:=d;obtain⟨c,rfl,e⟩:=e;cases f;exact not_of (wpAny_truthy_bool ⟨.bl _,i,g,rfl,e⟩)
def S2(t:TT)(ta tb:TE):TE:=λa H Q=>t a H λc d=>if c=true then ta a d Q else tb a d Q
def Ab(l:PT X c tA)(k:PE X a ta)(o:PE X b tb):PE X (.IfExp c a b pos) (S2 tA ta tb):=by
 intro n s m H Q I h;refine wpAny_IfExp (aL (l _ s m H _ I h) λd j e=>?_);obtain⟨i,g,f⟩:=e
 cases d with
 | true=>exact k _ j m i Q g f
 | false=>exact o _ j m i Q g f
end
def SqL(K:W7)(H:Hp)(a:Addr)(xs:AM):Prop:=
 Rd H a (.lst xs)\/
  ∃(o:Obj) (b:Array _) (n:Nat),K.lookup a=some o/\o.cls=.type "list"/\o.dict=none/\o.data=.seq b n/\b.size<=sizeLine/\Vals xs b.toList
def SqT(K:W7)(H:Hp)(a:Addr)(xs:AM):Prop:=
 Rd H a (.tup xs)\/
  ∃(o:Obj) (b:Array _) (n:Nat),K.lookup a=some o/\o.cls=.type "tuple"/\o.data=.seq b n/\b.size<=sizeLine/\Vals xs b.toList
noncomputable def Ac:Value->Option V
 | .none=>some .non
 | .bool b=>some (.bl b)
 | .int i _=>some (.int i)
 | .str x _=>some (.str x)
 | .bytes b _=>some (.byt b)
 | .float b _=>some (.flt b)
 | .ref a=>some (.ref a)
 | .type n=>some (.ty n)
 | _=>none
def RelV.abs(r:RelV x u):Ac u=some x:=by
 cases x with
 | non=>cases r;rfl
 | bl _=>cases r;rfl
 | int _=>obtain⟨t,rfl⟩:=r;rfl
 | str _=>obtain⟨t,rfl⟩:=r;rfl
 | byt _=>obtain⟨t,rfl⟩:=r;rfl
 | flt _=>obtain⟨t,rfl⟩:=r;rfl
 | ref _=>cases r;rfl
 | ty _=>cases r;rfl
def RelV.inj(r:RelV x u)(q:RelV y u):x=y:=w4 (r.abs.symm.trans q.abs)
theorem Vals.inj:∀{xs ys:AM}{us:AC},Vals xs us->Vals ys us->xs=ys
 :=by
  intro xs ys us h
  induction h generalizing ys with
  | nil=>
    intro a;cases a;rfl
  | cons r t c=>
    intro a
    cases a with
    | cons b d=>rw[r.inj b,c d]
section
variable {σ:St}{H:Hp}{s:Shared}{a:Addr}{xs:AM}
def SqL.of{K:W7}(h:H a=some (.lst xs)):SqL K H a xs:=.inl (.inl h)
def SqT.of{K:W7}(h:H a=some (.tup xs)):SqT K H a xs:=.inl (.inl h)
theorem Inv.list(I:Inv X pins σ H s)(h:SqL X.K H a xs):∃its:AC,Vals xs its/\PlainL s.heap a its.toArray/\xs.length<=sizeLine:=by
 rcases h with h|⟨o,its,n,c,d,b,g,f,r⟩
 .obtain⟨z,its,n,r,e⟩:=h.ok I.hok
  exact⟨its,r,⟨_,n,e,rfl,rfl,rfl⟩,z⟩
 .refine⟨its.toList,r,⟨o,n,I.kIn a o c,d,b,by simpa using g⟩,?_⟩
  have e:=r.length
  ext
theorem Inv.tuple(I:Inv X pins σ H s)(h:SqT X.K H a xs):∃its:AC,Vals xs its/\IsTup s.heap a its.toArray/\xs.length<=sizeLine:=by
 rcases h with h|⟨o,its,n,c,b,d,f,r⟩
 .obtain⟨z,its,r,p⟩:=h.ok I.hok
  exact⟨its,r,p,z⟩
 .refine⟨its.toList,r,⟨o,I.kIn a o c,b,n,by simpa using d⟩,?_⟩
  have e:=r.length
  ext
theorem Inv.list_inj(I:Inv X pins σ H s)(h:SqL X.K H a xs)(k:SqL X.K H a ys):xs=ys:=by
 obtain⟨j,r,⟨o,n,e,_,_,d⟩,_⟩:=I.list h;obtain⟨i,b,⟨c,f,g,_,_,l⟩,_⟩:=I.list k
 have:j=i:=by grind
 subst this;exact r.inj b
theorem Inv.tuple_inj(I:Inv X pins σ H s)(h:SqT X.K H a xs)(k:SqT X.K H a ys):xs=ys:=by
 obtain⟨j,r,⟨o,e,_,n,d⟩,_⟩:=I.tuple h;obtain⟨i,b,⟨c,g,_,f,l⟩,_⟩:=I.tuple k
 have:j=i:=by grind
 subst this;exact r.inj b
end
noncomputable abbrev Cx.wish(X:Cx)(E:AA):Cx:={X with xe:=E}
abbrev Cx.nox(X:Cx):Cx:=X.wish λ_ _=>False
def Cx.Ok.wish{X:Cx}(a:X.Ok)(E:AA):(X.wish E).Ok:=
 ⟨a.mod,a.kind,a.glob,a.blt,a.above,a.inj,a.has,a.cab,a.hd,a.frames,a.stk,a.exf,a.bs,a.bsz,a.noex,a.exfs,a.funs,a.frf⟩
def Cx.Ok.unwish{X:Cx}(a:(X.wish E).Ok):X.Ok:=
 ⟨a.mod,a.kind,a.glob,a.blt,a.above,a.inj,a.has,a.cab,a.hd,a.frames,a.stk,a.exf,a.bs,a.bsz,a.noex,a.exfs,a.funs,a.frf⟩
section
variable {σ:St}{H:Hp}{s:Shared}{E:AA}{st:Stmt}{rest:List Stmt}{t u:TS}{e:Expr}{te:TE}
def Inv.wish(I:Inv X pins σ H s)(E:AA):Inv (X.wish E) pins σ H s:=⟨I.ok.wish E,I.os,I.bare,I.base,I.loc,I.cell,I.free,I.freeC,I.pin,I.hok,I.len⟩
def Inv.unwish(I:Inv (X.wish E) pins σ H s):Inv X pins σ H s:=⟨I.ok.unwish,I.os,I.bare,I.base,I.loc,I.cell,I.free,I.freeC,I.pin,I.hok,I.len⟩
def SP.unwish(h:SP (X.wish E) pins D f s'):SP X pins D f s':=by
 cases f with
 | next=>obtain⟨a,b,I,q⟩:=h;exact⟨a,b,I.unwish,q⟩
 | brk=>obtain⟨a,b,I,q⟩:=h;exact⟨a,b,I.unwish,q⟩
 | cont=>obtain⟨a,b,I,q⟩:=h;exact⟨a,b,I.unwish,q⟩
 | ret u=>obtain⟨v,a,b,I,r,q⟩:=h;exact⟨v,a,b,I.unwish,r,q⟩
def PSs.nox{st:List Stmt}(h:PSs X.nox st t):PSs X st t:=λb s c H D I a=>
 wz (h _ s c H D (I.wish _) a) (λ_ _ q=>q.unwish) λ_ _ z=>False.elim z
def Ad:TS:=λD a H=>D.nx a H
def Ae(t u:TS):TS:=λD a H=>t {D with nx:=u D} a H
def Af:PSs X [] Ad:=λ_ _ a H _ I h=>wpAny_execs_nil ⟨a,H,I,h⟩
def Ag(a:PS X st t)(c:PSs X rest u):PSs X (st::rest) (Ae t u):=by
 intro g s i H D I h;refine wpAny_execs_cons (aL (a _ s i H _ I h) λf b q=>?_)
 cases f with
 | next=>
   obtain⟨e,j,d,q⟩:=q;exact c _ b e j D d q
 | ret v=>exact q
 | brk=>exact q
 | cont=>exact q
def Ah(a:PS X st t):PSs X [st] t:=by
 intro c s d H D I h;refine wpAny_execs_cons (aL (a _ s d H D I h) λf b q=>?_)
 cases f with
 | next=>exact wpAny_execs_nil q
 | ret v=>exact q
 | brk=>exact q
 | cont=>exact q
def Inv.quiet(I:Inv X pins σ H s):interactive X.env=false:=by simp[interactive,I.ok.kind]
def Ai(te:TE):TS:=λD b H=>te b H λ_ a=>D.nx b a
def Aj(f:PE X e te)(hs:swapsWith e none pos.line X.env=pure false:=by rfl):PS X (.Expr e pos) (Ai te):=by
 intro j s k H D I h;refine wpAny_Expr_any (aL (f _ s k H _ I h) λv i a=>?_) I.quiet hs;obtain⟨x,d,c,g,b⟩:=a;exact⟨k,d,c,b⟩
def Ak(te:TE):TS:=λD a H=>te a H D.rt
def Al(d:PE X e te):PS X (.Return (some e) pos) (Ak te):=by
 intro j s k H D I h;refine wpAny_Return_some (aL (d _ s k H _ I h) λv i a=>?_);obtain⟨x,g,c,b,f⟩:=a;exact⟨x,k,g,c,b,f⟩
def Am(c:TT)(t u:TS):TS:=λD d H=>c d H λb a=>if b=true then t D d a else u D d a
def An(m:PT X c n)(l:PSs X a t)(p:PSs X b u):PS X (.If c a b pos) (Am n t u):=by
 intro o s e H D I h;refine wpAny_If (aL (m _ s e H _ I h) λd g f=>?_);obtain⟨k,i,j⟩:=f
 cases d with
 | true=>exact l _ g e k D i j
 | false=>exact p _ g e k D i j
end
abbrev TG:=V->St->Hp->(St->Hp->Prop)->Prop
abbrev ki:=AM->St->Hp->(St->Hp->Prop)->Prop
def PG(X:Cx)(a:Expr)(t:TG):Prop:=
 ∀(b:List _) (s:Shared) (d:St) (H:Hp) (v:V) (u:Value) (Q:St->Hp->Prop),Inv X b d H s->RelV v u->t v d H Q->
  aah X (assign a X.env u) (λ_ f=>∃c e,Inv X b c e f/\Q c e) X.xe s
def oq(X:Cx)(a:AK)(t:ki):Prop:=
 ∀(b:List _) (s:Shared) (g:St) (H:Hp) (f:AM) (e:List _) (Q:St->Hp->Prop),Inv X b g H s->Vals f e->t f g H Q->
  aah X (assignInOrder ((assignEach a X.env).map (·.2)) e) (λ_ h=>∃c d,Inv X b c d h/\Q c d) X.xe s
abbrev ot:=V->V->V->Hp->(Hp->Prop)->Prop
def kj(X:Cx)(t:ot):Prop:=
 ∀(a:List _) (s:Shared) (d:St) (H:Hp) (o i v:V) (b c u:Value) (Q:Hp->Prop),Inv X a d H s->RelV o b->RelV i c->RelV v u->t o i v H Q->
  aah X (setItem b c u) (λ_ f=>∃e,Inv X a d e f/\Q e) X.xe s
abbrev Ao:=V->V->Hp->VK->Prop
def Na(X:Cx)(c:Operator)(t:Ao):Prop:=
 ∀(a:List _) (s:Shared) (b:St) (H:Hp) (x y:V) (v u:Value) (Q:VK),Inv X a b H s->RelV x v->RelV y u->t x y H Q->
  aah X (inplaceOp c v u) (EP X a b Q) X.xe s
def mH(i:Nat):TG:=λv a H Q=>Q (a.set i (some v)) H
def mI(a:X.N.Nodup)(d:X.N[i]?=some x)(b:c8 X.env.scope x)(e:aaf X x:=by trivial):PG X (.Name x pos) (mH i):=by
 intro f s j H v u Q I r h;exact wpAny_assign_Name (zQ I a d b r (λg c=>⟨_,H,c,h⟩) e)
def Ap:ki:=λb a H Q=>b=[]/\Q a H
def Aq(t:TG)(u:ki):ki:=λd b H Q=>∃v r,d=v::r/\t v b H λa c=>u r a c Q
def Nb:oq X [] Ap:=by
 intro a s b H d c Q I r h;obtain⟨e,h⟩:=h;exact assignInOrder_nil ⟨b,H,I,h⟩
def ou(k:PG X e t)(i:oq X a u)(hs:(assignEach (e::a) X.env).map (·.2)=assign e X.env::(assignEach a X.env).map (·.2):=by rfl):oq X (e::a) (Aq t u):=by
 intro n s o H w q Q I r h;obtain⟨v,m,p,h⟩:=h;subst p
 cases r with
 | cons r f=>
   rw[hs];refine assignInOrder_cons (aL (k _ s o H _ _ _ I r h) λ_ d b=>?_);obtain⟨c,j,g,l⟩:=b;exact i _ d c j _ _ Q g f l
def Ar(K:W7)(n:Nat)(t:ki):TG:=λv d H Q=>∃a c,v=.ref a/\SqT K H a c/\c.length=n/\t c d H Q
theorem As{k:Nat}(l:X.calm=true)(h:oq X f t)(m:(assignEach f X.env).length=n:=by rfl)(d:(assignEach f X.env).findIdx? (·.1)=none:=by rfl):PG X (.Tuple f k pos) (Ar X.K n t):=by
 intro x s B H v u Q I r c;obtain⟨a,z,y,p,q,c⟩:=c;subst y;cases r;obtain⟨A,i,j,w⟩:=I.tuple p;exact assign_Tuple_tuple (I.ok.hd l) j (by simp[m,<-q,i.length]) d λC g=>h _ _ B H z _ Q (I.kept λb o e=>g b o (qm (ql e)) e) (by grind) c
def Au(b f:TE)(t:ot):TG:=λv a H Q=>b a H λo d=>f a d λi c=>t o i v c λe=>Q a e
def ov(n:PE X o D)(k:PE X i f)(hs:kj X t)(B:∀v,assign (.Subscript o i pos) X.env v=(do
  let b <-holding [v] (eval o X.env)
  let c <-holding [v,b] (eval i X.env)
  standAt pos
  holding [v,b,c] (setItem b c v)
  release [v,b,c] []):=by intro _;rfl):PG X (.Subscript o i pos) (Au D f t):=by
 intro e s d H v u Q I r h;rw[B];refine wa (wc (aL (n _ s d H _ I h) λb m a=>?_));obtain⟨x,p,j,G,q⟩:=a;refine wa (wc (aL (k _ m d p _ j q) λc l a=>?_));obtain⟨y,E,C,A,F⟩:=a;refine wa (wpAny_standAt (wa (wc (aL (hs _ l d E x y v b c u _ C G A r F) λ_ J a=>?_))));obtain⟨w,g,z⟩:=a;exact wpAny_release ⟨d,w,g,z⟩
def gk(a:TE)(g:TG):TS:=λD c H=>a c H λx b=>g x c b D.nx
theorem Av(i:PE X e m)(j:PG X a g)(hs:swapsWithSole [a] e pos.line X.env=pure false:=by rfl)(o:swappedStores [a] e X.env=pure none:=by rfl)(n:(assignEach [a] X.env).map (·.2)=[assign a X.env]:=by rfl):PS X (.Assign [a] e pos) (gk m g):=by
 intro r s t H D I h;refine wpAny_Assign_stores (aL (i _ s t H _ I h) λv c b=>?_) hs o;obtain⟨x,d,l,k,f⟩:=b;rw[n];exact aL (j _ c t d x v _ l k f) λ_ p q=>q
def mJ(c:X.N.Nodup)(o:X.N[i]?=some x)(p:c8 X.env.scope x)(j:PE X e n)(hs:swapsWith e (some (.Name x a)) pos.line X.env=pure false:=by rfl)(g:aaf X x:=by trivial):
 PS X (.Assign [.Name x a] e pos) (gk n (mH i)):=by
 intro t s u H D I h;refine wpAny_Assign_Name (aL (j _ s u H _ I h) λv r b=>?_) hs;obtain⟨y,d,m,l,f⟩:=b;exact zQ m c o p l (λq k=>⟨_,d,k,f⟩) g
def Aw(i:Nat)(d:TE)(e:Ao):TS:=λD a H=>∃x,a[i]?=some (some x)/\d a H λy c=>e x y c λz b=>D.nx (a.set i (some z)) b
theorem Ax(hN:X.N.Nodup)(A:X.N[i]?=some x)(o:c8 X.env.scope x)(V:PE X e E)(Y:Na X B J)(T:aaf X x:=by trivial):
 PS X (.AugAssign (.Name x q) B e pos) (Aw i E J):=by
 intro g s t H D I h;obtain⟨v,G,h⟩:=h;obtain⟨m,N,M⟩:=I.loc
 have n:g0 X.env.scope x:=by rcases o with k|k;exact .inl k;exact .inr (.inl k)
 obtain⟨u,r,l⟩:=M i x v A G n;refine wpAny_AugAssign_Name ?_
 have p:aah X (eval e X.env) (λw f=>aah X (inplaceOp B u w) (λr j=>aah X (storeName X.env x r) (λ_=>SP X g D .next) X.xe j) X.xe f) X.xe s:=by
  refine aL (V _ s t H _ I h) λw L b=>?_;obtain⟨y,H1,R,O,C⟩:=b;refine aL (Y _ L t H1 v y u w _ R r O C) λz s2 b=>?_;obtain⟨zv,H2,Z,U,F⟩:=b;exact zQ Z hN A o U (λs3 Q=>⟨_,H2,Q,F⟩) T
 rcases l with⟨a,K⟩|⟨a,c,S,d⟩
 .exact wpAny_loadName_local I.ok.kind a N K p
 .rcases a with a|a
  .exact wpAny_loadName_cell I.ok.kind a S d p
  .rcases o with k|k
   .have:X.env.scope.names.lookup x=_:=a
    ext
   .have:X.env.scope.names.lookup x=_:=a
    ext
def S3(f:Int->Int->Int):Ao:=λx y H Q=>∃i j,x=.int i/\y=.int j/\Q (.int (f i j)) H
def Ay:Na X .Add (S3 λi j=>i+j):=by
 intro a s g H x y v u Q I d e h;obtain⟨i,j,b,c,q⟩:=h;subst b c;obtain⟨t,rfl⟩:=d;obtain⟨f,rfl⟩:=e;exact iadd_int ⟨.int _,H,I.tok _,⟨_,rfl⟩,q⟩
def Az(c:TT)(e:TS):TS:=λD f H=>∃W:Nat->St->Hp->Prop,(∃m,W m f H)/\∀m f H,W m f H->
 c f H λb d=>if b=true then ∃N:St->Hp->Prop,(∀g h,N g h->∃a,a<m/\W a g h)/\e {D with nx:=N,ct:=N,bk:=D.nx} f d else D.nx f d
def AI(B:PassesOwn (mZ X.prog X.w) X.A X.env X.xe)(M:PT X c J)(hb:PSs X e L):PS X (.While c e [] pos) (Az J L):=by
 intro z s E H D I h;obtain⟨W,⟨R,O⟩,j⟩:=h;refine wpAny_While (codeAny_whileLoop (λn K=>∃g x,Inv X _ g x K/\W n g x) ?_ R ⟨E,H,I,O⟩);rintro n C ⟨d,w,F,G⟩;refine wpAny_passesOwn B (aL (M _ C d w _ F (j n d w G)) λb Q q=>?_);obtain⟨y,u,l⟩:=q
 cases b with
 | true=>
   obtain⟨N,A,l⟩:=l;refine wpAny_passesOwn B (aL (hb _ Q d y _ u l) λf S k=>?_)
   cases f with
   | next=>
     obtain⟨a,i,o,r⟩:=k;obtain⟨p,t,m⟩:=A a i r;exact⟨p,t,a,i,o,m⟩
   | cont=>
     obtain⟨a,i,o,r⟩:=k;obtain⟨p,t,m⟩:=A a i r;exact⟨p,t,a,i,o,m⟩
   | brk=>exact k
   | ret v=>exact k
 | false=>
   exact wpAny_execs_nil ⟨d,y,u,l⟩
structure It where
 go:Nat->Hp->Prop
 yld:Nat->Hp->V->Hp->Prop
 stop:Nat->Hp->Prop
def cV(X:Cx)(pins:AB)(H:Hp)(b:Addr):Prop:=
 H b=none/\b≠X.env.locals/\b∉X.fs/\(b∈X.ex\/X.s₀.heap.objs.size<=b)/\(∀x c,X.env.cells.lookup x=some c->c≠b)/\∀p∈X.pn++pins,p.1≠b
theorem Inv.fpOk{σ:St}{b:Addr}(I:Inv X pins σ H s)(f:(~~~s)<=b)(a:H' b=none):cV X pins H' b:=by
 refine⟨a,Nat.ne_of_gt (Qi I.lt f),I.nofs f,.inr (Qg I.sz f),λx c e z=>?_,λp d z=>?_⟩
 .obtain⟨v,q⟩:=I.cell x c e
  exact absurd (Qi q.lt (by ext)) (Nat.lt_irrefl _)
 .exact absurd (Qi (ql (I.pin p d).1) (by ext)) (Nat.lt_irrefl _)
structure ee(P:P7)(w:World)(K:W7)(tg:Expr)(J:It)(fp:List Addr)(it:Addr)(tn:Nat->Heap->Prop):Prop where
 mem:it∈fp
 obj:∀i h,tn i h->∀b∈fp,∃o,h.get? b=some o/\∀v,o.data≠.cell v
 keep:∀i h h',tn i h->(∀b∈fp,∀o,h.get? b=some o->h'.get? b=some o)->tn i h'
 item:∀(X:Cx),X.prog=P->X.w=w->X.K=K->X.calm=true->∀(i:Nat) (pins:AB) (s:Shared) (σ:St) (H:Hp) (E:AA),Inv X pins σ H s->(∀b∈fp,cV X pins H b)->tn i s.heap->J.go i H->
  wpAny (mZ P w) X.A (pyNext (.ref it)) (λr s1=>∃u,r=some u/\
   wpAny (mZ P w) X.A (letOwnedTupleGo tg (.ref it) u) (λ_ s2=>∃x H',Inv X pins σ H' s2/\RelV x u/\J.yld i H x H'/\tn (i+1) s2.heap/\∀b∈fp,H' b=none) E s1) E s
 done:∀(X:Cx),X.prog=P->X.w=w->X.K=K->X.calm=true->∀(i:Nat) (pins:AB) (s:Shared) (σ:St) (H:Hp) (E:AA),Inv X pins σ H s->(∀b∈fp,cV X pins H b)->tn i s.heap->J.stop i H->
  wpAny (mZ P w) X.A (pyNext (.ref it)) (λr s1=>r=none/\Inv X pins σ H s1) E s
 self:∀(A:Around) (i:Nat) (s:Shared) (Q:AA) (E:AA),tn i s.heap->Q (.ref it) s->wpAny (mZ P w) A (pyIter (.ref it)) Q E s
abbrev TI:=St->Hp->(It->Hp->Prop)->Prop
def Nc(X:Cx)(pins:AB)(σ:St)(g:Expr)(R:It->Hp->Prop)(a:Value)(e:Shared):Prop:=
 ∃(f:Addr) (d:List _) (c:Nat->Heap->Prop) (J:It) (h:Hp),a=.ref f/\Inv X pins σ h e/\ee X.prog X.w X.K g J d f c/\c 0 e.heap/\(∀b∈d,cV X pins h b)/\R J h
def PI(X:Cx)(d a:Expr)(b:TI):Prop:=
 ∀(e:List _) (s:Shared) (f:St) (H:Hp) (R:It->Hp->Prop),Inv X e f H s->b f H R->
  aah X (eval a X.env) (λv c=>aah X (pyIter v) (Nc X e f d R) X.xe c) X.xe s
theorem ip(f:s.heap.get? c=some o)(b:o.cls=.type n)(e:o.data=.fields vs)(g:["enumerate","zip","dict_itemiterator","dict_reverseitemiterator","odict_iterator","itertools.zip_longest","itertools.pairwise"].contains n=false)(a:Q () s):wpAny M A (letOwnedTupleGo d (.ref c) u) Q E s:=by
 cases d<;>first
  | exact wb a
  | (cases u<;>first
   | exact wb a
   | (refine wa (wpAny_load f ?_)
      rw[b,e];show wpAny M A (if _ then _ else _) Q E s;rw[if_neg ⋯]
      exact wb a))
noncomputable def Nd(K:W7)(a:Addr):It:=
 ⟨λi H=>∃b x,SqL K H a b/\b[i]?=some x,λi H x d=>d=H/\∀b,SqL K H a b->b[i]?=some x,λi H=>∃b,SqL K H a b/\b.length<=i⟩
def Nf(K:W7)(a:Addr):It:=
 ⟨λi H=>∃b x,SqT K H a b/\b[i]?=some x,λi H x d=>d=H/\∀b,SqT K H a b->b[i]?=some x,λi H=>∃b,SqT K H a b/\b.length<=i⟩
def ox(lo:Int)(n:Nat):It:=⟨λi _=>i<n,λi H x a=>a=H/\x=.int (lo+i),λi _=>n<=i⟩
theorem S4{K:W7}(a g:Addr):ee P w K tg (Nd K a) [g] g (λi h=>h.IsListIter g a i) where
 mem:=by simp
 obj:=λi h st b f=>by
  have e:=by simpa using f
  subst e;obtain⟨o,e,c,d⟩:=st;exact⟨o,e,λv z=>by rw[d]at z;cases z⟩
 keep:=λi h M st k=>st.at λo e=>k g nofun o e
 item:=by
  intro X B F C N i j s σ H E I n st L;subst B F C;obtain⟨U,x,m,O⟩:=L;obtain⟨A,r,p,Z⟩:=I.list m;obtain⟨u,R,S⟩:=r.get O;obtain⟨t,G,T,y,J,D⟩:=n g nofun;refine wpAny_pyNext_list_item st p.isList (by simpa using R) λM l Y=>?_;obtain⟨o,e,c,d⟩:=id l;exact⟨u,rfl,ip e c d (by decide) ⟨x,H,I.turned (t':=s.toks) (λb o f e=>(Y.2 b f).trans e) t G y J D,S,⟨rfl,λys Q=>by rwa [I.list_inj Q m]⟩,l,λb f=>(n b f).1⟩⟩
 done:=by
  intro X B F C N i j s σ H E I n st L;subst B F C;obtain⟨U,m,O⟩:=L;obtain⟨A,r,p,Z⟩:=I.list m;obtain⟨t,G,T,y,J,D⟩:=n g nofun;have hl:=r.length
  exact wpAny_pyNext_list_end (I.ok.hd N) st p.isList (by simp;ext) λM V=>⟨rfl,I.turned (λb o f e=>V b o f e) t G y J D⟩
 self:=λ_ _ _ _ _ st h=>wpAny_pyIter_listiter st h
theorem S5{K:W7}(a f:Addr):ee P w K S (Nf K a) [f] f (λi h=>h.IsTupleIter f a i) where
 mem:=by simp
 obj:=λi h st b m=>by
  obtain⟨o,e,c,d⟩:=st;grind
 keep:=λi h Y st k=>st.at λo e=>k f nofun o e
 item:=by
  intro X r n C F i T s σ H E I l st t;subst r n C;obtain⟨Z,x,j,z⟩:=t;obtain⟨U,A,p,J⟩:=I.tuple j;obtain⟨u,R,G⟩:=A.get z;obtain⟨q,y,N,v,B,D⟩:=l f nofun;refine wpAny_pyNext_tuple_item st (p) (x:=u) (by grind) λY g M=>?_;obtain⟨o,e,c,d⟩:=id g;exact⟨u,rfl,ip e c d (by decide) ⟨x,H,I.turned (λb o m e=>(M.2 b m).trans e) q y v B D,G,⟨rfl,λys L=>by rwa [I.tuple_inj L j]⟩,g,λb m=>(l b m).1⟩⟩
 done:=by
  intro X r n C F i T s σ H E I l st t;subst r n C;obtain⟨Z,j,z⟩:=t;obtain⟨U,A,p,J⟩:=I.tuple j;obtain⟨q,y,N,v,B,D⟩:=l f nofun;have Q:=A.length
  exact wpAny_pyNext_tuple_end (I.ok.hd F) st (p) (by simp;lia) λY O=>⟨rfl,I.turned (λb o m e=>O b o m e) q y v B D⟩
 self:=λ_ _ _ _ _ st h=>wpAny_pyIter_tupleiter st h
theorem S6{K:W7}(a:Addr)(lo:Int)(n:Nat):ee P w K F (ox lo n) [a] a (λi h=>IsRangeIter h a (lo+(i:Nat)*1) ((n:Int)-(i:Nat)) 1) where
 mem:=by simp
 obj:=λi h st b q=>by
  ext
 keep:=λi h J st k=>k a nofun _ st
 item:=by
  intro X y u x m i G s M H E I d st f;obtain⟨l,r,C,g,p,j⟩:=d a nofun;refine(Walks.range (I.ok.hd m) a lo 1 n).item i s _ _ f st λv J N A c z=>?_;obtain⟨t,rfl⟩:=A;have D:Inv X _ M H {s with heap:=J,toks:=N}:=I.turned (λb o q e=>z b o (by grind) e) l r g p j;refine⟨_,rfl,ip c rfl rfl (by decide) ⟨.int _,H,D,⟨t,?_⟩,⟨rfl,rfl⟩,c,λb q=>(d b q).1⟩⟩;grind
 done:=by
  intro X y u x m i G s M H E I d st f;obtain⟨l,r,C,g,p,j⟩:=d a nofun
  exact wpAny_pyNext_range_end (I.ok.hd m) st (by have:n<=i:=f;lia) λJ B=>⟨rfl,I.turned (λb o q e=>B b o q e) l r g p j⟩
 self:=λ_ _ _ _ _ st h=>wpAny_pyIter_rangeiter st h
section
variable {tg:Expr}
theorem Ng{σ:St}{lo a:Int}(I:Inv X pins σ H s)(d:-(2^62)<=lo)(g:lo<2^62)(f:-(2^62)<=a)(h:a<2^62)(q:R (ox lo (a-lo).toNat) H):aah X (pyIter (.ref (~~~s))) (Nc X pins σ tg R) E {s with heap:=s.heap.push {cls:=.type "range",data:=.fields #[.int lo t,.int a u,.int 1 v]},toks:=tk}:=by
 refine wpAny_pyIter_range (.new ..) (small_one d g f h) ?_;have c:Inv X _ σ H {s with heap:=s.heap.push {cls:=.type "range",data:=.fields #[.int lo t,.int a u,.int 1 v]},toks:=tk}:=I.kept λb o e=>qe _ e
 refine⟨(s.heap.push _).objs.size,[(s.heap.push _).objs.size],_,_,H,rfl,
  c.kept λb o e=>qe _ e,S6 _ lo _,?_,λb k=>?_,q⟩
 .have i:lo+((0:Nat))*1=lo:=by simp
  have j:(((a-lo).toNat))-((0:Nat))=Builtin.Range.rangeSize lo a 1:=by rw[rangeSize_one];split<;>lia
  rw[i,j];exact qp _ rfl
 .have e:b=(s.heap.push {cls:=.type "range",data:=.fields #[.int lo t,.int a u,.int 1 v]}).objs.size:=by ext
  subst e;exact c.fpOk (qv _) (c.hok.fresh (qv _))
def AO(a:TA):TI:=λd H R=>a d H λc b=>∃j:Int,c=[.int j]/\-(2^62)<=j/\j<2^62/\R (ox 0 j.toNat) b
def AY(a:TA):TI:=λc H R=>a c H λd b=>∃i j:Int,d=[.int i,.int j]/\(-(2^62)<=i/\i<2^62/\-(2^62)<=j/\j<2^62)/\R (ox i (j-i).toNat) b
abbrev aae(X:Cx)(e:Expr):Prop:=starEach [e] X.env=[(false,eval e X.env)]
theorem S7(k:Gl X "range")(g:X.mg "range"=none)(m:PA X [a] u)(hs:aae X a:=by rfl):PI X tg (.Call (.Name "range" p) [a] [] c) (AO u):=by
 intro x s y H R I h;refine Call_ (jv I k g boot_range (PyProof.Rows.callWith_type1 (aL (m c _ s y H _ I h) λA v f=>?_) hs rfl));obtain⟨z,w,l,o,d⟩:=f;obtain⟨j,e,d,n,q⟩:=d;subst e
 cases o with
 | cons r i=>
   cases i;obtain⟨t,rfl⟩:=r;exact call_range_1 (Ng l (by lia) (by lia) d n (by simpa using q))
theorem S8{p c:Pos}(o:Gl X "range")(l:X.mg "range"=none)(w:PA X [a,b] m)(hs:starEach [a,b] X.env=[(false,eval a X.env),(false,eval b X.env)]:=by rfl)(f:starEach [b] X.env=[(false,eval b X.env)]:=by rfl):
 PI X tg (.Call (.Name "range" p) [a,b] [] c) (AY m):=by
 intro C s D H R I h;refine Call_ (jv I o l boot_range (PyProof.Rows.callWith_type1 (aL (w c _ s D H _ I h) λF B ⟨G,A,u,n,k⟩=>?_) (by rw[hs,f]) (by rw[f];rfl)));obtain⟨i,j,e,⟨k,x,y,v⟩,q⟩:=k;subst e
 cases n with
 | cons r g=>
   cases g with
   | cons z g=>
     cases g;obtain⟨t,rfl⟩:=r;obtain⟨E,rfl⟩:=z;exact call_range_2 (Ng u k x y v q)
def AZ(f:TI)(g:TG)(e:TS):TS:=λD h H=>f h H λJ c=>∃W:Nat->Nat->St->Hp->Prop,(∃m,W 0 m h c)/\∀i m h H,W i m h H->
 (J.stop i H/\D.nx h H)\/(J.go i H/\∃N:St->Hp->Prop,(∀j k,N j k->∃b,b<m/\W (i+1) b j k)/\∀x k,J.yld i H x k->g x h k λa d=>e {D with nx:=N,ct:=N,bk:=D.nx} a d)
noncomputable def vF(a:List Addr)(h:Heap):AB:=a.filterMap λb=>(h.get? b).map λo=>(b,o)
def vG(c:b∈a)(e:h.get? b=some o):(b,o)∈vF a h:=List.mem_filterMap.mpr ⟨b,c,by rw[e];rfl⟩
theorem S9(a:p∈vF c h):p.1∈c/\h.get? p.1=some p.2:=by
 obtain⟨b,d,e⟩:=List.mem_filterMap.mp a
 cases q:h.get? b with
 | none=>grind
 | some o=>
   grind
theorem Inv.pinned{σ:St}(I:Inv X pins σ H s)(c:∀b∈a,cV X pins H b)(i:∀b∈a,∃o,s.heap.get? b=some o/\∀v,o.data≠.cell v):Inv X (pins++vF a s.heap) σ H s:=
 I.pins_of λp d=>(qw d).elim (λz=>I.pin p (Qr _ z)) λz=>by
  obtain⟨j,e⟩:=S9 z;obtain⟨f,g,h,_⟩:=c p.1 j;grind
def Inv.unpinned{σ:St}(I:Inv X (pins++b) σ H s):Inv X pins σ H s:=I.pins_of λp a=>I.pin p (Qr _ (List.mem_append_left _ a))
def A0(K:PassesOwn (mZ X.prog X.w) X.A X.env X.xe)(hc:X.calm=true)(hi:PI X tg y wi)(hg:PG X tg g)(hb:PSs X B tb)(hs:∀x,foldedSetIterable y X.env x=pure x:=by intro _;rfl):PS X (.For tg y B [] pos) (AZ wi g tb):=by
 intro c s σ H D I h;refine wpAny_For (aL (hi c s σ H _ I h) λv s1 h1=>aL h1 λitv s2 h2=>?_) hs;obtain⟨it,fp,V,J,H2,e,I2,T,Q,f2,W,⟨m0,w0⟩,L⟩:=h2;subst e
 have p:∀{w:Hp},(∀b _,_)->∀b _,cV X c w b:=λhn b hb=>⟨hn b hb,(f2 b hb).2⟩
 refine codeAny_forLoop_any (λn Z=>∃i l w,Inv X c l w Z/\V i Z.heap/\(∀b∈fp,w b=none)/\W i n l w) ?_ m0 ⟨0,σ,H2,I2,Q,λb hb=>(f2 b hb).1,w0⟩;rintro n Y ⟨i,k,M,I3,E,C,w3⟩;rcases L i n k M w3 with⟨F,qn⟩|⟨go,N,hN,step⟩
 .refine wpAny_passesOwn K (aL (T.done X rfl rfl rfl hc i c Y k M X.xe I3 (p C) E F) λr s4 j=>?_)
  obtain⟨R,I4⟩:=j;subst R;exact wpAny_execs_nil ⟨k,M,I4,qn⟩
 .refine wpAny_passesOwn K (aL (T.item X rfl rfl rfl hc i c Y k M X.xe I3 (p C) E go) λr s4 j=>?_)
  obtain⟨u,R,h4⟩:=j;subst R;refine wpAny_passesOwn K (aL h4 λ_ s5 j=>?_);obtain⟨x,H5,I5,r5,y5,A,O⟩:=j;have U:=I5.pinned (p O) (T.obj _ _ A);refine wpAny_passesOwn K (aL (hg _ s5 k H5 x u _ U r5 (step x H5 y5)) λ_ s6 j=>?_);obtain⟨S,H6,I6,q6⟩:=j;refine wpAny_passesOwn K (aL (hb _ s6 S H6 _ I6 q6) λf s7 z=>?_)
  have again:∀{a:St}{t:Hp},Inv X _ a t s7->_->∃m,m<n/\∃i l w,Inv X c l w s7/\V i _/\(∀b∈fp,w b=none)/\W i m l w:=λ{a t} q G=>by
   obtain⟨m',hm,w7⟩:=hN a t G;refine⟨m',hm,i+1,a,t,q.unpinned,T.keep _ _ _ A λb hb o e=>(q.pin _ (Qr _ (Qr _ (vG hb e)))).1,λb hb=>?_,w7⟩;obtain⟨o,e,d⟩:=T.obj _ _ A b hb;exact(q.pin _ (Qr _ (Qr _ (vG hb e)))).2.1
  cases f with
  | next=>obtain⟨a,t,q,G⟩:=z;exact again q G
  | cont=>obtain⟨a,t,q,G⟩:=z;exact again q G
  | brk=>obtain⟨a,t,q,z⟩:=z;exact⟨a,t,q.unpinned,z⟩
  | ret v=>obtain⟨x7,a,t,q,r7,z⟩:=z;exact⟨x7,a,t,q.unpinned,r7,z⟩
end
abbrev R2:=V->V->Hp->VK->Prop
def bX(X:Cx)(f:Value->Value->Sem Value)(r:R2):Prop:=
 ∀(a:List _) (s:Shared) (b:St) (H:Hp) (x y:V) (v u:Value) (Q:VK),Inv X a b H s->RelV x v->RelV y u->r x y H Q->
  aah X (f v u) (EP X a b Q) X.xe s
def A3(X:Cx)(f:Value->Sem Value)(r:V->Hp->VK->Prop):Prop:=
 ∀(a:List _) (s:Shared) (b:St) (H:Hp) (x:V) (v:Value) (Q:VK),Inv X a b H s->RelV x v->r x H Q->
  aah X (f v) (EP X a b Q) X.xe s
def dD(X:Cx)(f:Value)(r:AM->Hp->VK->Prop):Prop:=
 ∀(a:List _) (s:Shared) (b:St) (H:Hp) (c:AM) (d:List _) (Q:VK),Inv X a b H s->Vals c d->r c H Q->
  aah X (call f d) (EP X a b Q) X.xe s
def A4(X:Cx)(r:V->Hp->(Bool->Hp->Prop)->Prop):Prop:=
 ∀(a:List _) (s:Shared) (b:St) (H:Hp) (x:V) (v:Value) (Q:Bool->Hp->Prop),Inv X a b H s->RelV x v->r x H Q->
  aah X (truthy v) (TP X a b Q) X.xe s
def kl(r:R2)(d a:TE):TE:=λe H Q=>d e H λx b=>a e b λy c=>r x y c Q
def S_(r:V->Hp->VK->Prop)(a:TE):TE:=λc H Q=>a c H λx b=>r x b Q
def rI(C:Int->Int->Prop)(g:Int->Int->V):R2:=λx y H Q=>∃i j,x=.int i/\y=.int j/\C i j/\Q (g i j) H
def g7(g:Int->Int->V):R2:=λx y H Q=>∃i j,x=.int i/\y=.int j/\Q (g i j) H
def rU(g:Int->V):V->Hp->VK->Prop:=λx H Q=>∃i,x=.int i/\Q (g i) H
section
variable {a b c:Expr}{ta tb tc:TE}
def km(n:PE X a ta)(hb:PE X b tb){σ:St}{R:V->V->Hp->Prop}(I:Inv X pins σ H s)(h:ta σ H λx j=>tb σ j λy d=>R x y d){f:Value->Value->Sem Value}(t:∀v u i x y d,Inv X pins σ d i->RelV x v->RelV y u->R x y d->aah X (f v u) Q X.xe i):
 aah X (eval a X.env) (λv g=>aah X (eval b X.env) (λu e=>aah X (f v u) Q X.xe e) X.xe g) X.xe s:=by
 refine aL (n _ s σ H _ I h) λv k c=>?_;obtain⟨x,j,p,m,o⟩:=c;refine aL (hb _ k σ j _ p o) λu i c=>?_;obtain⟨y,d,l,r,q⟩:=c;exact t v u i x y d l m r q
def iq(j:bX X (binaryOp n) r)(d:PE X a ta)(l:PE X b tb):PE X (.BinOp a n b pos) (kl r ta tb):=by
 intro c s m H Q I h;exact wpAny_BinOp (km d l I h λv u g x y f i e k q=>j _ g m f x y v u Q i e k q)
def A5(k:A3 X (unaryOp m) r)(l:PE X a ta):PE X (.UnaryOp m a pos) (S_ r ta):=by
 intro b s c H Q I h;refine UnaryOp_ (aL (l _ s c H _ I h) λv g d=>?_);obtain⟨x,j,f,e,i⟩:=d;exact k _ g c j x v Q f e i
def vH{g:Int->Int->Int}(rule:∀(i j:Int) (t u:Tok) (s:Shared) (Q:AA) (E:AA),C i j->Q (.int (g i j) s.toks) {s with toks:=s.toks+1}->aah X (f (.int i t) (.int j u)) Q E s):
 bX X f (rI C λi j=>.int (g i j)):=by
 intro a s c H x y v u Q I e d h;obtain⟨i,j,rfl,rfl,k,q⟩:=h;obtain⟨t,rfl⟩:=e;obtain⟨b,rfl⟩:=d;exact rule i j t b s _ _ k ⟨.int _,H,I.tok _,⟨_,rfl⟩,q⟩
def ko{g:Int->Int->Int}(rule:∀(i j:Int) (t u:Tok) (s:Shared) (Q:AA) (E:AA),Q (.int (g i j) s.toks) {s with toks:=s.toks+1}->aah X (f (.int i t) (.int j u)) Q E s):
 bX X f (g7 λi j=>.int (g i j)):=by
 intro a s c H x y v u Q I e d h;obtain⟨i,j,rfl,rfl,q⟩:=h;obtain⟨t,rfl⟩:=e;obtain⟨b,rfl⟩:=d;exact rule i j t b s _ _ ⟨.int _,H,I.tok _,⟨_,rfl⟩,q⟩
def kr{g:Int->Int->Bool}(rule:∀(i j:Int) (t u:Tok) (s:Shared) (Q:AA) (E:AA),Q (.bool (g i j)) s->aah X (f (.int i t) (.int j u)) Q E s):
 bX X f (g7 λi j=>.bl (g i j)):=by
 intro a s c H x y v u Q I e d h;obtain⟨i,j,rfl,rfl,q⟩:=h;obtain⟨t,rfl⟩:=e;obtain⟨b,rfl⟩:=d;exact rule i j t b s _ _ ⟨.bl _,H,I,rfl,q⟩
def A6(i j:Int):Prop:=0<j/\j<1073741824
def CMul(i j:Int):Prop:=-(2^64)<i/\i<2^64\/(-(2^64)<j/\j<2^64)
def CMul.ok(h:CMul i j):IntMulOk i j:=by
 rcases h with⟨d,e⟩|⟨d,e⟩
 .exact .of_left (intBits_le_64 d e)
 .exact .of_right (intBits_le_64 d e)
theorem Ta(k:Nat):(0:Int)<=2^k:=by constructor<;>ac_nf
def A7:bX X (binaryOp .Add) (g7 λi j=>.int (i+j)):=ko λ_ _ _ _ _ _ _ q=>add_int q
def A8:bX X (binaryOp .Sub) (g7 λi j=>.int (i-j)):=ko λ_ _ _ _ _ _ _ q=>sub_int q
def A9:bX X (binaryOp .Mult) (rI CMul λi j=>.int (i*j)):=vH λ_ _ _ _ _ _ _ d q=>mul_int q d.ok
theorem A_:bX X (binaryOp .FloorDiv) (rI A6 λi j=>.int (i/j)):=vH λi j _ _ _ _ _ b q=>by
 have d:=b.1;have c:=b.2;exact floordiv_int ∅ (by rwa [Int.fdiv_eq_ediv_of_nonneg i ∅]) (.inl (PyProof.noPylong_small (by omega)))
theorem Ba:bX X (binaryOp .Mod) (rI (λ_ j=>0<j) λi j=>.int (i%j)):=vH λi j _ _ _ _ _ a q=>mod_int' ∅ (by rwa [Int.fmod_eq_emod_of_nonneg i ∅])
def Bb:bX X (binaryOp .RShift) (rI (λ_ j=>0<=j) λi j=>.int (i/2^j.toNat)):=vH λi j _ _ _ _ _ a q=>
 rshift_int a (by rwa [Int.fdiv_eq_ediv_of_nonneg i (Ta _)])
def op_xor:bX X (binaryOp .BitXor) (g7 λi j=>.int (Builtin.bitXor i j)):=ko λ_ _ _ _ _ _ _ q=>xor_int q
def Tb{g:Int->Int}(rule:∀(i:Int) (t:Tok) (s:Shared) (Q:AA) (E:AA),Q (.int (g i) s.toks) {s with toks:=s.toks+1}->aah X (f (.int i t)) Q E s):
 A3 X f (rU λi=>.int (g i)):=by
 intro a s b H x v Q I d h;obtain⟨i,rfl,q⟩:=h;obtain⟨t,rfl⟩:=d;exact rule i t s _ _ ⟨.int _,H,I.tok _,⟨_,rfl⟩,q⟩
def Bc:A3 X (unaryOp .USub) (rU λi=>.int (-i)):=Tb λ_ _ _ _ _ q=>neg_int q
end
noncomputable def scal:V->V->Bool
 | .non,.non=>true|.non,.int _=>true|.int _,.non=>true|.non,.bl _=>true|.bl _,.non=>true|.non,.str _=>true|.str _,.non=>true
 | .int _,.int _=>true|.bl _,.bl _=>true|.str _,.str _=>true|.byt _,.byt _=>true
 | .int _,.str _=>true|.str _,.int _=>true|.bl _,.str _=>true|.str _,.bl _=>true
 | _,_=>false
section
variable {a b c:Expr}{ta tb tc:TE}
def oy{σ:St}(I:Inv X pins σ H s)(q:Q (.bl k) H)(e:k=d):EP X pins σ Q (.bool d) s:=by
 subst e;exact⟨.bl k,H,I,rfl,q⟩
def ku:bX X (compareOp .Lt) (g7 λi j=>.bl (decide (i<j))):=kr λ_ _ _ _ _ _ _ q=>lt_int q
def Bd:bX X (compareOp .LtE) (g7 λi j=>.bl (decide (i<=j))):=kr λ_ _ _ _ _ _ _ q=>le_int q
def Be:bX X (compareOp .Gt) (g7 λi j=>.bl (decide (j<i))):=kr λ_ _ _ _ _ _ _ q=>gt_int q
def oz:bX X (compareOp .Is) (λx y H Q=>y=.non/\Q (.bl (decide (x=.non))) H):=by
 intro a s b H x y v u Q I e d h;obtain⟨rfl,q⟩:=h;cases d;refine is_none_gen (oy I q ?_)
 cases x<;>first
  | (rfl)
  | (obtain⟨t,rfl⟩:=e;rfl)
def Nh:bX X (compareOp .IsNot) (λx y H Q=>y=.non/\Q (.bl (!decide (x=.non))) H):=by
 intro a s b H x y v u Q I e d h;obtain⟨rfl,q⟩:=h;cases d;refine isnot_none_gen (oy I q ?_)
 cases x<;>first
  | (rfl)
  | (obtain⟨t,rfl⟩:=e;rfl)
theorem fU(b:Expr)(h:op≠.In:=by decide)(e:op≠.NotIn:=by decide):behindInMarks op b=false:=by
 cases b with
 | Set d k p=>
   show(_&&_)=_;grind
 | _=>rfl
def Bf(k:bX X (compareOp m) r)(d:PE X a ta)(n:PE X b tb)(j:behindInMarks m b=false):PE X (.Compare a [m] [b] pos) (kl r ta tb):=by
 intro c s o H Q I h;exact wpAny_Compare1 (km d n I h λv u g x y f i e l q=>k _ g o f x y v u Q i e l q) j
def oA(t:TE):TT:=λa H Q=>t a H λx b=>∃k,x=.bl k/\Q k b
def Bg(E:bX X (compareOp J) r)(p:PE X a ta)(L:PE X b tb)(f:behindInMarks J b=false):PT X (.Compare a [J] [b] pos) (oA (kl r ta tb)):=by
 intro K s G H Q I h;refine wpAny_isTrue_Compare1 (aL (p _ s G H _ I h) λv C d=>?_) f;obtain⟨x,g,w,o,i⟩:=d;refine aL (L _ C G g _ w i) λu D d=>?_;obtain⟨y,t,n,m,B⟩:=d;refine aL (E _ D G t x y v u _ n o m B) λc F d=>?_;obtain⟨z,j,q,A,k,e,l⟩:=d;subst e;cases A;exact wpAny_truthy_bool ⟨j,q,l⟩
def Bh(r f:R2)(ta tb tc:TE):TE:=λa H Q=>ta a H λx d=>tb a d λy g=>r x y g λz b=>∃k,z=.bl k/\
 (if k=true then tc a b λc e=>f y c e Q else Q (.bl false) b)
def Bi(E:bX X (compareOp o) r)(j:bX X (compareOp g) J)(R:PE X a ta)(hb:PE X b tb)(O:PE X c tc)(t:lastMarks [o,g] [b,c]=false:=by with_unfolding_all rfl):PE X (.Compare a [o,g] [b,c] pos) (Bh r J ta tb tc):=by
 intro q s i H Q I h;refine Compare_chain (aL (R _ s i H _ I h) λv w f=>?_) t;obtain⟨x,F,A,S,G⟩:=f;refine chain_link (aL (hb _ w i F _ A G) λu C f=>?_);obtain⟨y,U,K,m,Z⟩:=f;refine aL (E _ C i U x y v u _ K S m Z) λd s3 f=>?_;obtain⟨z,l,p,Y,k,e,n⟩:=f;subst e;cases Y;refine wpAny_truthy_bool ?_
 cases k with
 | false=>exact ite_ff ⟨.bl _,l,p,rfl,n⟩
 | true=>
   refine ite_tt (chain_last (aL (O _ s3 i l _ p n) λB N f=>?_));obtain⟨V,M,D,T,L⟩:=f;exact j _ N i M y V u B Q D m T L
def ky(K:W7)(x:V)(H:Hp)(k:Bool):Prop:=
 match x with
 | .non=>k=false
 | .bl b=>k=b
 | .int i=>k=(i != 0)
 | .str y=>y.length<=sizeLine/\k=((y.length:Int)!=0)
 | .byt y=>y.size<=sizeLine/\k=((y.size:Int)!=0)
 | .ref p=>(∃a,SqL K H p a/\k=!a.isEmpty)\/(∃a,SqT K H p a/\k=!a.isEmpty)\/∃d,H p=some (.dK d)/\k=!d.isEmpty
 | _=>False
def Tc{vs:List (κ×Value)}(r:KV d vs):(!vs.isEmpty)=!d.isEmpty:=by
 cases r<;>rfl
def Ni(r:Vals xs its):(!its.toArray.isEmpty)=!xs.isEmpty:=by
 cases r<;>simp
def oB:(sizeLine:Nat)<2^63:=by decide
theorem Bj:A4 X (λx H Q=>∃k,ky X.K x H k/\Q k H):=by
 intro A s E H x v Q I j h;obtain⟨k,e,q⟩:=h;have z:=oB;have D:sizeLine=16777216:=jg
 cases x with
 | non=>
   cases j;have d:k=false:=e;subst d;exact truthy_none ⟨H,I,q⟩
 | bl b=>
   cases j;have d:k=b:=e;subst d;exact wpAny_truthy_bool ⟨H,I,q⟩
 | int i=>
   obtain⟨t,rfl⟩:=j;have d:k=(i != 0):=e;subst d;exact PySem.P.truthy_int ⟨H,I,q⟩
 | str y=>
   obtain⟨t,rfl⟩:=j;obtain⟨w,d⟩:=e;subst d;exact PySem.P.truthy_str (by lia) ⟨H,I.tok _,q⟩
 | byt y=>
   obtain⟨t,rfl⟩:=j;obtain⟨w,d⟩:=e;subst d;exact W.truthy_bytes (by lia) ⟨H,I.tok _,q⟩
 | ref p=>
   cases j;have d:=e;rcases d with⟨C,l,d⟩|⟨C,l,d⟩|⟨n,l,d⟩
   .subst d
    obtain⟨c,r,f,o⟩:=I.list l;have g:=r.length;exact wpAny_truthy_list f.isList (by ext<;>lia) ⟨H,I.tok _,by rw[Ni r];exact q⟩
   .subst d
    obtain⟨c,r,f,o⟩:=I.tuple l;have g:=r.length;exact truthy_tuple f (by ext<;>lia) ⟨H,I.tok _,by rw[Ni r];exact q⟩
   .subst d
    obtain⟨o,u,B,r,m⟩:=I.hok p _ l;have g:n.length=B.length:=Paired.length r;exact wpAny_truthy_dict u m (by lia) ⟨H,I.tok _,by rw[Tc r];exact q⟩
 | _=>exact(show False from e).elim
def Bm(n:PE X a ta)(l:∀d,isTrue a X.env d=(do let v <-d;standAt a.pos;holding [v] (truthy v))):
 PT X a (λσ H Q=>ta σ H λx H'=>∃k,ky X.K x H' k/\Q k H'):=by
 intro b s σ H Q I h;refine isTrue_plain (aL (n _ s σ H _ I h) λv i e=>?_) (l _);obtain⟨x,m,g,f,j⟩:=e;exact Bj _ i σ m x v Q g f j
def d6(r:Vals [x] us):∃u,us=[u]/\RelV x u:=by
 cases r with
 | cons a b=>cases b;exact⟨_,rfl,a⟩
def oD(r:Vals [x,y] us):∃u w',us=[u,w']/\RelV x u/\RelV y w':=by
 cases r with
 | cons r1 r2=>
   cases r2 with
   | cons r3 r4=>cases r4;exact⟨_,_,rfl,r1,r3⟩
def Nj(c:X.calm=true):dD X (.builtin "min") (λxs H Q=>∃i j,xs=[.int i,.int j]/\Q (.int (if j<i then j else i)) H):=by
 intro b s f H xs e Q I r h;obtain⟨i,j,rfl,q⟩:=h;obtain⟨u,m,rfl,⟨t,rfl⟩,⟨g,rfl⟩⟩:=oD r
 refine min_two_ints (I.ok.hd c) λl d k=>⟨_,H,I.kept k,?_,q⟩
 by_cases a:j<i
 .rw[if_pos a,if_pos a];exact⟨_,rfl⟩
 .rw[if_neg a,if_neg a];exact⟨_,rfl⟩
def Td:dD X (.type "int") (λxs H Q=>(∃i,xs=[.int i]/\Q (.int i) H)\/∃k,xs=[.bl k]/\Q (.int (if k then 1 else 0)) H):=by
 intro pins s σ H xs us Q I r h;rcases h with⟨i,rfl,q⟩|⟨k,rfl,q⟩
 .obtain⟨u,rfl,t,rfl⟩:=d6 r
  exact call_int_int ⟨.int i,H,I,⟨_,rfl⟩,q⟩
 .obtain⟨u,rfl,d⟩:=d6 r
  cases d;exact call_int_bool ⟨.int (if k then 1 else 0),H,I.tok _,⟨_,rfl⟩,q⟩
end
structure ObjM(h:Heap)(x dx C:Addr)(mA:AD):Prop where
 obj:h.get? x=some (W.instObj C dx)
 ns:h.Ns1 dx mA
 ne:dx≠x
theorem Te{h:Heap}(n:h.Ns1 m l):∃d,h.get? m=some d/\∀b,W.lookIn b d=some (l b):=by
 obtain⟨o,j,q,f,i,g,_,p⟩:=n;refine⟨o,f,λb=>?_⟩;have e:=p b;unfold nsFind findBy at e;unfold W.lookIn;rw[i];dsimp only
 split
 .grind
 .have a:j.toList.any (·.refKey)=false:=by
   rw[List.any_eq_false];intro y k;obtain⟨z,t,c⟩:=g y (Array.mem_toList_iff.mp k);simp[DictEntry.refKey,c]
  grind
def ObjM.look(I:ObjM h x d C e):∃b,W.InstAt h x (W.instObj C d) C (some b)/\∀g,W.lookIn g b=some (e g):=
 let ⟨b,c,f⟩:=Te I.ns
 ⟨b,⟨I.obj,rfl,rfl,c⟩,f⟩
def RelO.some_of(r:RelO (some v) o):∃u,o=some u/\RelV v u:=by
 cases o with
 | none=>exact(r).elim
 | some u=>exact⟨u,rfl,r⟩
section
variable {P:P7}{w:World}{H H':Hp}{h h':Heap}{a C dx:Addr}{fs fs':List (Str×V)}
def Bn(g:HOk P w H h)(e:H a=some (.ins C dx fs)):∃b,ObjM h a dx C b/\(∀f,RelO (fs.lookup f) (b f))/\PySem.Within b (fs.map (·.1))/\fs.length<=1000/\H dx=some (.own a):=by
 obtain⟨d,z,i,j,b,n,r,q⟩:=g a _ e;exact⟨b,⟨j,n,i⟩,r,q,z,d⟩
end
structure Cls(K:W7)(C:Addr):Prop where
 pg:W.plainGet K C Str.empty=true
 hd:W.hasDictIn K C=true
 po:W.plainOver K C=true
 sa:W.findIn K (.ref C) "__setattr__"=some (some (.builtin "object.__setattr__"))
def Cls.get{K:W7}(c:Cls K C)(f:Str):W.plainGet K C f=true:=c.pg
structure Con(K:W7)(C:Addr)(f:Str)(v:V)(u:Value):Prop where
 at_:W.findIn K (.ref C) f=some (some u)
 rel:RelV v u
 get:W.specialIn K u "__get__"=some none
 cp:W.copiedNames.contains f=false
structure Tg(K:W7)(C:Addr)(m:Str)(f:Addr):Prop where
 at_:W.findIn K (.ref C) m=some (some (.ref f))
 fn:W.isFn K (.ref f)=true
 kp:W.keepIn K (.ref f)=true
section
variable {σ:St}{H:Hp}{s:Shared}{A:Around}{E Q:AA}{c:Value}{b:Bool}
inductive cP (K:W7) (H:Hp):V->Value->Prop where
 | non:cP K H .non (.type "NoneType")
 | bl (x:Bool):cP K H (.bl x) (.type "bool")
 | int (i:Int):cP K H (.int i) (.type "int")
 | str (x:Str):cP K H (.str x) (.type "str")
 | flt (x:UInt64):cP K H (.flt x) (.type "float")
 | lst {a:Addr}{xs:AM} (e:H a=some (.lst xs)):cP K H (.ref a) (.type "list")
 | frz {a:Addr}{o:Obj}{xs:AM} (e:H a=some (.frz o (.lst xs))):cP K H (.ref a) (.type "list")
 | tup {a:Addr}{xs:AM} (e:H a=some (.tup xs)):cP K H (.ref a) (.type "tuple")
 | dK {a:Addr}{kvs:List (bp×V)} (e:H a=some (.dK kvs)):cP K H (.ref a) (.type "dict")
 | dT {a:Addr}{kvs:List (List bp×V)} (e:H a=some (.dT kvs)):cP K H (.ref a) (.type "dict")
 | ins {a C dx:Addr}{fs:List (Str×V)} (e:H a=some (.ins C dx fs)) (cl:Cls K C) (ha:W.findIn K (.ref C) "__class__"=some (some (.builtin "object.__class__")))
  (hn:W.specialIn K (.builtin "object.__class__") "__get__"=some (some (.builtin "getset_descriptor.__get__"))) (htk:W.takesIn K (.builtin "object.__class__")=some true)
  (hm:W.mroIn K C (.type "object")=some true):cP K H (.ref a) (.ref C)
def Th(I:Inv X pins σ H s)(j:RelV x u)(F:cP X.K H x t)(e:W.kitOne X.K t c=some b)(h:∀tk,Q (.bool b) {s with toks:=tk}):
 wpAny (mZ X.prog X.w) A (call (.builtin "isinstance") [u,c]) Q E s:=by
 cases F with
 | non=>cases (j);exact W.kia_one W.kitx_none I.kIn .intro e (λz=>nomatch z) h
 | bl y=>cases (j);exact W.kia_one W.kitx_bool I.kIn .intro e (λz=>nomatch z) h
 | int i=>obtain⟨t,q⟩:=j;cases q;exact W.kia_one W.kitx_int I.kIn .intro e (λz=>nomatch z) h
 | str y=>obtain⟨t,q⟩:=j;cases q;exact W.kia_one W.kitx_str I.kIn .intro e (λz=>nomatch z) h
 | flt y=>obtain⟨t,q⟩:=j;cases q;exact W.kia_one W.kitx_float I.kIn .intro e (λz=>nomatch z) h
 | @lst a f g=>
   cases (show u=.ref a from j);obtain⟨_,_,n,_,k⟩:=I.hok a _ g;exact W.kia_one W.kitx_list I.kIn ⟨_,k,rfl⟩ e (λz=>nomatch z) h
 | @frz a P f g=>
   cases (j);obtain⟨_,_,_,n,_,k⟩:=I.hok a _ g;exact W.kia_one W.kitx_list I.kIn ⟨_,k,rfl⟩ e (λz=>nomatch z) h
 | @tup a f g=>
   cases (show u=.ref a from j);obtain⟨_,_,_,p⟩:=I.hok a _ g;obtain⟨o,k,l,_⟩:=p;exact W.kia_one W.kitx_tuple I.kIn ⟨o,k,l⟩ e (λz=>nomatch z) h
 | @dK a r g=>
   cases (show u=.ref a from j);obtain⟨_,_,S,_,p⟩:=I.hok a _ g;obtain⟨o,G,B,k,l,_⟩:=p;exact W.kia_one W.kitx_dict I.kIn ⟨o,k,l.1⟩ e (λz=>nomatch z) h
 | @dT a r g=>
   cases (show u=.ref a from j);obtain⟨_,_,f,_,o,G,B,k,l,_⟩:=I.hok a _ g;exact W.kia_one W.kitx_dict I.kIn ⟨o,k,l.1⟩ e (λz=>nomatch z) h
 | @ins a C L N g v D K m w=>
   cases (j);obtain⟨R,O,_⟩:=Bn I.hok g;obtain⟨M,J,_⟩:=O.look;exact W.kia_one (W.kitx_own (v.get _) v.hd D K m w) I.kIn J e (λz=>nomatch z) h
end
structure Room(k:Nat)(A:Around):Prop where
 hd:A.handled=none
 dp:A.depth+3*k+5<recursionLimit
 un:A.units+16*k+200<cLine
theorem Room.mono(r:Room k A)(h:j<=k):Room j A:=⟨r.hd,by have:=r.dp;lia,by have:=r.un;lia⟩
theorem Room.deeper(r:Room (k+1) A)(env:Env):Room k (A.deeper env):=
 ⟨r.hd,by have:=r.dp;show _+1+3*k+5<_;ac_nf,by have:=r.un;show _+3+16*k+200<_;ac_nf⟩
theorem Room.depth(r:Room k A):A.depth<recursionLimit:=by have:=r.dp;lia
theorem Room.units(r:Room k A):A.units+64<cLine:=by have:=r.un;lia
def Bp:TA:=λ_ H Q=>Q [] H
def Bq(a:TE)(d:TA):TA:=λe H Q=>a e H λx b=>d e b λf c=>Q (x::f) c
section
variable {e:Expr}{te:TE}{t:TA}
def ir:PA X [] Bp:=λ_ _ _ _ H Q I h=>Calls.spliced_nil ⟨[],H,I,.nil,h⟩
def g8(k:PE X e te)(d:PA X es t)(hs:starEach (e::es) X.env=(false,eval e X.env)::starEach es X.env:=by rfl):PA X (e::es) (Bq te t):=by
 intro b r s v H Q I h;rw[hs];show wpAny _ _ (spliced ((_,eval e _)::backTo b _)) _ _ s;refine Calls.spliced_cons (aL (k _ s v H _ I h) λu c a=>?_);obtain⟨x,o,m,j,f⟩:=a;refine aL (d b _ c v o _ m f) λy p a=>?_;obtain⟨w,l,i,g,n⟩:=a;exact⟨x::w,l,i,.cons j g,n⟩
def Br(t:TA):TE:=λc H Q=>t c H λb a=>b.length<=sizeLine/\∀p,a p=none->Q (.ref p) (upd a p (.tup b))
def Bs(t:TA):TE:=λc H Q=>t c H λb a=>b.length<=sizeLine/\∀p,a p=none->Q (.ref p) (upd a p (.lst b))
def Bt{d}(h:PA X es t):PE X (.Tuple es d pos) (Br t):=by
 intro i s k H Q I g;exact wpAny_Tuple_spliced (aL (h pos _ s k H _ I g) λl c ⟨j,f,a,r,z,q⟩=>⟨by rwa [<-r.length],⟨.ref _,upd f _ (.tup j),a.laid (λb u e=>qe _ e) (qv _) (⟨z,l,r,⟨_,qp _ rfl,rfl,_,rfl⟩⟩),rfl,q _ (a.hok.fresh (qv _))⟩⟩)
def Bu(h:PA X es t):PE X (.List es pos) (Bs t):=by
 intro g s j H Q I d;exact wpAny_List_spliced (aL (h pos _ s j H _ I d) λk a ⟨i,f,c,r,z,q⟩=>⟨by rwa [<-r.length],⟨.ref _,upd f _ (.lst i),c.laid (λb u e=>qe _ e) (qv _) (⟨z,k,0,r,qp _ rfl⟩),rfl,q _ (c.hok.fresh (qv _))⟩⟩)
end
abbrev Sp:=AM->Hp->VK->XK->Prop
abbrev jw:=List Env->Hp->Shared->XK->AA
structure iu(P:P7)(w:World)(K:W7)(mg:AD)(base:Heap)(A:Around)(outer:List Env)(s:Shared)(H:Hp):Prop where
 frames:A.frames=some outer
 mod:Mod K mg base
 bs:∀b o,base.get? b=some o->s.heap.get? b=some o/\H b=none
 bsz:base.objs.size<= ~~~s
 funs:s.heap.FunFrames base outer
 frf:∀b∈fT outer,H b=none
 hok:HOk P w H s.heap
 bare:AllBare s.gens
def CE(a:List Env)(P:P7)(w:World)(H:Hp)(s:Shared)(Q:VK)(u:Value)(s':Shared):Prop:=
 ∃v b,s'.os=s.os/\AllBare s'.gens/\Un (fT a) [] H b s.heap s'.heap/\HOk P w b s'.heap/\RelV v u/\Q v b
def CR(CX:jw)(a:List Env)(P:P7)(w:World)(H:Hp)(s:Shared)(Q:VK)(E:XK)(r:Result)(s':Shared):Prop:=
 match r with
 | .ok (.ret u)=>CE a P w H s Q u s'
 | .ok _=>False
 | .error e=>CX a H s E e s'
structure cA(P:P7)(w:World)(K:W7)(mg:AD)(base:Heap)(CX:jw)(k:Nat)(f:Addr)(fd:FuncData)(ps:AJ)(sp:Sp):Prop where
 len:∀vs H Q E,sp vs H Q E->vs.length=ps.length
 run:∀(A:Around) (outer:List Env) (s:Shared) (H:Hp) (args:Args) (us:AC) (vs:AM) (Q:VK) (E:XK),Room k A->iu P w K mg base A outer s H->BindsTo s fd args (ps.zip us)->Vals vs us->sp vs H Q E->
  codeAny (mZ P w) A (.call (.ref f) args) (CR CX outer P w H s Q E) s
section
variable {σ:St}{H:Hp}{s s':Shared}
def Inv.env0(I:Inv X pins σ H s):iu X.prog X.w X.K X.mg X.base X.A X.stack s H:=
 ⟨I.ok.frames,I.ok.mod,I.bs,Qg I.ok.bsz I.sz,I.stack,I.stkFree,I.hok,I.bare⟩
def Inv.after(I:Inv X pins σ H s)(h:CE X.stack X.prog X.w H s Q u s'):EP X pins σ Q u s':=by
 obtain⟨v,j,os,a,e,c,r,q⟩:=h;obtain⟨i,g,d,t,f⟩:=s';obtain rfl:=os;exact⟨v,j,I.call e c a (λb z=>absurd z nofun),r,q⟩
end
def Bv(sp:Sp)(b:AM)(E:XK)(t:TA):TE:=λc H Q=>t c H λd a=>sp (d++b) a Q E
def Binds(K:W7)(b:FuncData)(d:AJ)(e:AC):Prop:=
 ∀(s:Shared) (c:List _),K.In s.heap->(c++e).length=d.length->BindsTo s b ⟨c,[]⟩ (d.zip (c++e))
def Binds.all{K:W7}(h:∀us:AC,us.length=d.length->bindArgs c ⟨us,[]⟩=pure (d.zip us)):Binds K c d []:=λs us _ b=>by
 rw[w6]at b ⊢;exact .of_eq (h us b)
def Bw(CX:jw)(X:Cx)(E:XK):Prop:=∀(a:List _) (c:St) (H:Hp) (s:Shared) (e:Value) (b:Shared),Inv X a c H s->CX X.stack H s E e b->X.xe e b
section
variable {CX:jw}{k:Nat}{f C:Addr}{fd:FuncData}{ps:AJ}{sp:Sp}{dvs:AM}{ds:AC}{E:XK}{x m:Str}{p:Pos}{e o:Expr}{ta:TE}{t:TA}
def Bx{σ:St}(F:cA X.prog X.w X.K X.mg X.base CX k f fd ps sp)(d:Room k X.A)(m:Binds X.K fd ps ds)(c:Vals dvs ds)(g:Bw CX X E)(I:Inv X pins σ H s)(r:Vals vs us)(h:sp (vs++dvs) H Q E):aah X (call (.ref f) us) (EP X pins σ Q) X.xe s:=by
 have b:=r.append c
 have i:(us++ds).length=ps.length:=by rw[<-b.length];exact F.len _ _ _ _ h
 refine wpAny_call (codeAny_mono (F.run X.A _ s H _ _ _ Q E d I.env0 (m s us I.kIn i) b h) λr j a=>?_)
 cases r with
 | error e=>exact g _ σ H s e j I a
 | ok l=>
   cases l with
   | ret u=>exact I.after a
   | next=>exact .elim a
   | brk=>exact .elim a
   | cont=>exact .elim a
abbrev aac(X:Cx)(e:Expr)(s:List Expr):Prop:=starEach (e::s) X.env=(false,eval e X.env)::starEach s X.env
theorem Nk(F:cA X.prog X.w X.K X.mg X.base CX k f fd ps sp)(y:Room k X.A)(l:Gl X x)(w:X.mg x=some (.ref f))(v:W.keepIn X.K (.ref f)=true)(B:Binds X.K fd ps ds)(n:Vals dvs ds)(i:Bw CX X E)(u:PA X (e::es) t)(b:du x:=by decide)(j:aac X e es:=by rfl)(c:(backTo pos (starEach es X.env)).any (·.1)=false:=by rfl):
 PE X (.Call (.Name x p) (e::es) [] pos) (Bv sp dvs E t):=by
 intro m s o H Q I h;refine wpAny_Call_Name_kw (M9 I l w (W.callWith_K I.ok.mod.kin v (aL (u pos _ s o H _ I h) λD A d=>?_) j c) b);obtain⟨C,z,g,r,q⟩:=d;exact⟨g.kIn,Bx F y B n i g r q⟩
structure Mk(K:W7)(C f:Addr):Prop where
 makes:W.makesIn K C=true
 init:W.findIn K (.ref C) "__init__"=some (some (.ref f))
 fn:W.isFn K (.ref f)=true
 kp:W.keepIn K (.ref C)=true
end
section
variable {CX:jw}{k:Nat}{f C:Addr}{fd:FuncData}{ps ks:AJ}{sp:Sp}{E:XK}{x m:Str}{p kpos:Pos}{e o:Expr}{kws:List Keyword}{te ta:TE}{t tk:TA}{nm:Option Str}
structure By(K:W7)(fd:FuncData)(ps ks:AJ)(g:AC->AC->AC)(gV:AM->AM->AM):Prop where
 to:∀(s:Shared) (us ws:AC),K.In s.heap->(g us ws).length=ps.length->BindsTo s fd ⟨us,ks.zip ws⟩ (ps.zip (g us ws))
 rel:∀{vs:AM}{us:AC}{zs:AM}{ws:AC},Vals vs us->Vals zs ws->Vals (gV vs zs) (g us ws)
variable {g:AC->AC->AC}{gV:AM->AM->AM}
end
structure fV(N P:AJ)(sc:Scope):Prop where
 kind:sc.kind=.function
 co:sc.isCoroutine=false
 gen:sc.isGenerator=false
 nd:N.Nodup
 pre:N.take P.length=P
 par:∀x∈P,sc.names.lookup x=some .local\/sc.names.lookup x=some .cell
 nofree:∀y∈sc.names,y.2≠.free
theorem Nl{kindOf:Str->Option NameKind}:∀{a:List (Str×Value)}{m:AD},(∀v,(x,v)∉a)->bindL kindOf a m x=m x
 | [],_,_=>rfl
 | (n,v)::r,m,h=>by
   unfold bindL;rw[Nl λw b=>h w (qg _ b)]
   split
   .grind
   .rfl
theorem Nm{kindOf:Str->Option NameKind}:∀{a:List (Str×Value)}{m:AD},(∀v,(x,v)∉a)->bindC kindOf a m x=m x
 | [],_,_=>rfl
 | (n,v)::r,m,h=>by
   unfold bindC;rw[Nm λw b=>h w (qg _ b)]
   split
   .rfl
   symm
theorem Nn{kindOf:Str->Option NameKind}:∀{P:AJ}{vs:AC}{i:Nat}{m:AD},P.Nodup->P[i]?=some x->vs[i]?=some v->kindOf x=some .local->
 bindL kindOf (P.zip vs) m x=some v
 | [],_,_,_,_,h,_,_=>by simp at h
 | _::_,[],_,_,_,_,h,_=>by simp at h
 | p::P,w::vs,0,m,c,b,a,d=>by
   simp at b a;subst b a;show bindL _ (_::P.zip vs) m p=_;unfold bindL;rw[Nl λv e=>(List.nodup_cons.mp c).1 (List.of_mem_zip e).1,if_pos d];simp
 | p::P,w::vs,i+1,m,c,b,a,d=>by
   unfold bindL;exact Nn (List.nodup_cons.mp c).2 (by simpa using b) (by simpa using a) d
theorem Np{kindOf:Str->Option NameKind}:∀{P:AJ}{vs:AC}{i:Nat}{m:AD},P.Nodup->P[i]?=some x->vs[i]?=some v->kindOf x≠some .local->
 bindC kindOf (P.zip vs) m x=some v
 | [],_,_,_,_,h,_,_=>by simp at h
 | _::_,[],_,_,_,_,h,_=>by simp at h
 | p::P,w::vs,0,m,c,b,a,d=>by
   simp at b a;subst b a;show bindC _ (_::P.zip vs) m p=_;unfold bindC;rw[Nm λv e=>(List.nodup_cons.mp c).1 (List.of_mem_zip e).1,if_neg d];simp
 | p::P,w::vs,i+1,m,c,b,a,d=>by
   unfold bindC;exact Np (List.nodup_cons.mp c).2 (by simpa using b) (by simpa using a) d
noncomputable def start(N:AJ)(vs:AM):St:=vs.map some++List.replicate (N.length-vs.length) none
noncomputable def cW(CX:jw)(P:P7)(w:World)(K:W7)(mg:AD)(base:Heap)(N:AJ)(b:Str)(a:Scope)(f:Addr)(d:Value)(A:Around)(outer:List Env)(s:Shared)(H:Hp)(E:XK):Cx where
 prog:=P
 w:=w
 K:=K
 mg:=mg
 base:=base
 A:=A.deeper (envOfC b a (~~~s) f d)
 N:=N
 s₀:=s
 H₀:=H
 env:=envOfC b a (~~~s) f d
 outer:=outer
 stack:=envOfC b a (~~~s) f d::outer
 ex:=[]
 calm:=true
 fn:=λ_=>true
 pn:=[]
 xe:=λe i=>wpAny (mZ P w) (A.deeper (envOfC b a (~~~s) f d)) (leaving (envOfC b a (~~~s) f d) e) (λ_ c=>CX outer H s E e c) (λh c=>CX outer H s E h c) i
def Nq{b:Scope}(h:b.names.lookup x=some .cell):∃c,(cellsFrom n b.names []).lookup x=some c:=Option.isSome_iff_exists.mp (PySem.W.cellsFrom_some _ n [] (.inl h))
theorem Ti{K:W7}(S:fV N Y a)(M:A.handled=none)(l:iu P w K J m A j s H)(V:vs.length=Y.length)(r:Vals vs us)(x:InCallC s (~~~s) (bindL (envOfC g a (~~~s) f F).kindOf (Y.zip us) λ_=>none) (cellsFrom (~~~s+1) a.names []) (bindC (envOfC g a (~~~s) f F).kindOf (Y.zip us) λ_=>none) R):
 Inv (cW CX P w K J m N g a f F A j s H E) [] (start N vs) H R:=by
 have O:Y.length<=N.length:=by have:=congrArg List.length S.pre;grind
 obtain⟨C,Z,rfl,G⟩:=x.done;have n:∀b,b∉(cW CX P w K J m N g a f F A j s H E).ex:=λb z=>absurd (show b∈([]) from z) nofun
 refine⟨⟨l.mod,S.kind,rfl,rfl,qv _,λy z c C D=>?_,λy o=>?_,λy c _ h=>?_,λ_=>M,Around.frames_deeper l.frames,.inr ⟨rfl,rfl⟩,λb z=>absurd z (n b),l.bs,l.bsz,λb _ _=>n b,λb z=>absurd z (n b),l.funs,l.frf⟩,
  rfl,l.bare,Un.kept G,⟨_,x.toInCall.ns,λi y v C D T=>?_⟩,λy c h=>⟨_,x.cell y c h⟩,l.hok.fresh (qv _),λy c h=>?_,λp t=>absurd (show p∈([]) from t) nofun,l.hok.kept G,?_⟩
 .exact name_of_addr x.apart (PySem.mem_of_lookup C) (PySem.mem_of_lookup D)
 .rcases o with o|o
  .exact Nq o
  .exact absurd rfl (S.nofree _ (PySem.mem_of_lookup o))
 .exact Nat.le_of_lt (x.above y c (PySem.mem_of_lookup h))
 .have U:i<vs.length:=by
   unfold start at D;grind
  have Q:vs[i]?=some v:=by
   unfold start at D;grind
  obtain⟨u,I,L⟩:=r.get Q
  have t:Y[i]?=some y:=by
   rw[<-S.pre,List.getElem?_take_of_lt (by ext)];exact C
  have B:Y.Nodup:=by rw[<-S.pre];exact S.nd.sublist (List.take_sublist _ _)
  refine⟨u,L,?_⟩;rcases S.par y (List.mem_of_getElem? t)with k|k
  .exact .inl ⟨k,Nn B t I k⟩
  .obtain⟨c,e⟩:=Nq k
   refine .inr ⟨.inl k,c,e,?_⟩;have q:=x.cell y c e;rw[Np B t I (by show a.names.lookup y≠_;grind)]at q;exact q
 .exact l.hok.fresh (Nat.le_of_lt (x.above y c (PySem.mem_of_lookup h)))
 .unfold start
  show _=N.length
  ext
theorem kz{K:W7}{T kV y R h I Y:Value}(X:K.lookup f=some ⟨Y,od,.func (W.fnOf name g i j c T kV y R Z h I),osl⟩)(G:W.codeIn K h g=true)(S:fV N ps c)(B:∀vs H Q E,sp vs H Q E->vs.length=ps.length)(m:∀(A:Around) (a:List Env) (s:Shared) (H:Hp) (vs:AM) (Q:VK) (E:XK),Room k (A.deeper (envOfC g c (~~~s) f h))->sp vs H Q E->
   ∃t,PSs (cW CX P w K L l N g c f h A a s H E) j t/\t {nx:=λ_ H'=>Q .non H',rt:=Q} (start N vs) H):
  cA P w K L l CX (k+1) f (W.fnOf name g i j c T kV y R Z h I) ps sp:=by
  refine⟨B,λA a s H M us vs Q E D C hb r z=>?_⟩;have O:=C.mod.kin.keeps λb o e=>(C.bs b o e).1
  refine codeAny_call_function D.depth (O _ _ X) rfl S.co S.gen rfl (W.codeRec_of O G) (hb _ _ _ _ (wpAny_newFunctionEnv_cells S.kind (λ⟨n,v⟩ U=>by
   rcases S.par n (List.of_mem_zip U).1 with q|q
   .exact .inl q
   .exact .inr ⟨q,PySem.W.cellsFrom_some _ _ _ (.inl q)⟩) λenv d s1 x=>?_))
  subst d;refine⟨(C.mod.nolimit.keeps λb o e=>(C.bs b o e).1).keeps x.toInCall.keep,codeAny_func ?_⟩;obtain⟨t,ht,hq⟩:=m A a s H vs Q E (D.deeper _) z;refine wz (ht [] s1 _ H _ (Ti S D.hd C (B _ _ _ _ z) r x) hq) (λfl s' hs=>?_) λe s' hs=>hs
  have p:∀{σ':St}{H':Hp}{v:V}{u:_},Inv (cW CX P w K L l N g c f h A a s H E) [] σ' H' s'->_->Q v H'->CE a P w H s Q u s':=
   λ{σ' H' v u} J F q=>⟨v,H',J.os,J.bare,J.base,J.hok,F,q⟩
  cases fl with
  | ret u=>
    obtain⟨v,σ',H',J,F,q⟩:=hs;exact p J F q
  | next=>
    obtain⟨σ',H',J,q⟩:=hs;exact p (v:=.non) J rfl q
  | brk=>
    obtain⟨_,_,_,q⟩:=hs;grind
  | cont=>
    obtain⟨_,_,_,q⟩:=hs;grind
section
variable {x:Str}{p:Pos}{e:Expr}{t:TA}{id T:String}{r:AM->Hp->VK->Prop}
def vI(r:AM->Hp->VK->Prop)(t:TA):TE:=λb H Q=>t b H λc a=>r c a Q
abbrev aad(X:Cx)(p:Pos)(s:List Expr):Prop:=(backTo p (starEach s X.env)).any (·.1)=false
theorem oE(i:dD X (.builtin id) r)(j:Gl X x)(v:X.mg x=none)(m:bootBuiltins x=some (.builtin id))(n:PA X (e::es) t)(l:x≠"__name__":=by decide)(b:du x:=by decide)(g:aac X e es:=by rfl)(d:aad X pos es:=by rfl):PE X (.Call (.Name x p) (e::es) [] pos) (vI r t):=by
 intro y s w H Q I h;refine wpAny_Call_Name_kw (jv I j v m (PyProof.Rows.callWith_builtin1 (aL (n pos _ s w H _ I h) λA k c=>?_) g d) l b);obtain⟨z,f,q,o,u⟩:=c;exact i _ k w f z A Q q o u
theorem jx(i:dD X (.type T) r)(j:Gl X x)(v:X.mg x=none)(m:bootBuiltins x=some (.type T))(n:PA X (e::es) t)(l:x≠"__name__":=by decide)(b:du x:=by decide)(g:aac X e es:=by rfl)(d:aad X pos es:=by rfl):PE X (.Call (.Name x p) (e::es) [] pos) (vI r t):=by
 intro y s w H Q I h;refine wpAny_Call_Name_kw (jv I j v m (PyProof.Rows.callWith_type1 (aL (n pos _ s w H _ I h) λA k c=>?_) g d) l b);obtain⟨z,f,q,o,u⟩:=c;exact i _ k w f z A Q q o u
end
section
variable {κ:Type}[DecidableEq κ]
noncomputable def bT(a:List (κ×V))(k:κ):Option V:=(a.find? λb=>decide (b.1=k)).map (·.2)
noncomputable def bM(a:List (κ×V))(k:κ)(v:V):List (κ×V):=
 if (a.any λb=>decide (b.1=k))=true then a.map (λb=>if b.1=k then (b.1,v)else b)else a++[(k,v)]
def iv{k:κ}(e:p.1=k):bT (p::r) k=some p.2:=by simp[bT,e]
def iw{k:κ}(e:¬p.1=k):bT (p::r) k=bT r k:=by simp[bT,e]
theorem Bz(k:κ):∀a:List (κ×V),(a.any λb=>decide (b.1=k))=(bT a k).isSome
 | []=>rfl
 | p::r=>by
   rw[List.any_cons];by_cases e:p.1=k
   .simp [iv e,wn e,Bool.true_or]
   .rw[iw e,wo e];exact Bz k r
theorem Nr(k j:κ)(y:V):∀a:List (κ×V),bT a k=none->bT (a++[(k,y)]) j=if j=k then some y else bT a j
 | [],_=>by
   by_cases e:k=j
   .rw[if_pos e.symm];exact iv e
   .rw[if_neg (λz=>e z.symm)];exact iw e
 | p::r,b=>by
   rw[List.cons_append]
   have c:¬_:=λz=>by rw[iv z]at b;cases b
   rw[iw c]at b;by_cases e:p.1=j
   .rw[iv e,iv e,if_neg (λz=>c (e.trans z))]
   .rw[iw e,iw e,Nr k j y r b]
theorem vJ(a:List (κ×V))(k:κ)(v:V):(bM a k v).length<=a.length+1:=by
 unfold bM
 split<;>ext
def BA{a:List (κ×V)}{k:κ}(v:V)(h:bT a k=none):bM a k v=a++[(k,v)]:=by
 unfold bM;rw[Bz,h];exact if_neg (by decide)
def RelO.isSome_eq(r:RelO o u):o.isSome=u.isSome:=by
 cases o with
 | none=>cases u with
   | none=>rfl
   | some _=>exact(r).elim
 | some _=>cases u with
   | none=>exact(r).elim
   | some _=>rfl
def RelO.getD(r:RelO o u)(a:RelV d b):RelV (o.getD d) (u.getD b):=by
 cases o with
 | none=>cases u with
   | none=>exact a
   | some _=>exact(r).elim
 | some _=>cases u with
   | none=>exact(r).elim
   | some _=>exact r
theorem KV.val(r:KV a vs)(k:κ):RelO (bT a k) (valueAt vs k):=by
 induction r with
 | nil=>exact .intro
 | @cons p q j c h t i=>
   obtain⟨f,g⟩:=h;by_cases e:p.1=k
   .have d:=f.symm.trans e
    have b:valueAt (q::c) k=some q.2:=by simp[valueAt,d]
    rwa [iv e,b]
   .have d:¬_:=λz=>e (f.trans z)
    have b:valueAt (q::c) k=valueAt c k:=by simp[valueAt,d]
    rwa [iw e,b]
theorem KV.any(r:KV b vs)(k:κ):(b.any λa=>decide (a.1=k))=vs.any λa=>decide (a.1=k):=by
 induction r with
 | nil=>rfl
 | cons h t c=>ext
theorem KV.repl(r:KV b vs)(k:κ)(d:RelV y u):
 KV (b.map λa=>if a.1=k then (a.1,y)else a) (vs.map λa=>if a.1=k then (a.1,u)else a):=by
 induction r with
 | nil=>exact .nil
 | @cons p q f e h t c=>
   refine .cons ?_ c;symm
def KV.put(r:KV a vs)(k:κ)(b:RelV y u):KV (bM a k y) (stored vs k u):=by
 unfold bM stored;rw[r.any k];by_cases e:(vs.any λc=>decide (c.1=k))=true
 .rw[if_pos e,if_pos e];exact r.repl k b
 .rw[if_neg e,if_neg e];exact .snoc r ⟨rfl,b⟩
def KV.length{vs:List (κ×Value)}(r:KV a vs):a.length=vs.length:=Paired.length r
end
def jy(r:RelV (kV k) u):(cH P w).is k u=true:=by
 cases k with
 | inl i=>obtain⟨t,e⟩:=r;subst e;exact SW P w i t
 | inr x=>obtain⟨t,e⟩:=r;subst e;exact SY P w x t
theorem Nt:∀{ks:List bp}{us:AC},Vals (ks.map kV) us->ItemsAre (cH P w) ks us
 | [],_,r=>by cases r;exact .nil
 | k::ks,_,r=>by
   cases r with
   | cons h t=>exact .cons (jy h) (Nt t)
abbrev KT(H:Hp):List (List bp×V)->List (List bp×Addr×Value)->Prop:=Paired λp q=>p.1=q.1/\H q.2.1=some (.tup (p.1.map kV))/\RelV p.2 q.2.2
theorem KT.val(r:KT H a xs)(k:List bp):RelO (bT a k) ((atKey xs k).map (·.2)):=by
 induction r with
 | nil=>exact .intro
 | @cons p q j c h t i=>
   obtain⟨f,_,g⟩:=h;by_cases e:p.1=k
   .have d:=f.symm.trans e
    have b:atKey (q::c) k=some q.2:=by simp[atKey,d]
    rwa [iv e,b]
   .have d:¬_:=λz=>e (f.trans z)
    have b:atKey (q::c) k=atKey c k:=by simp[atKey,d]
    rwa [iw e,b]
theorem KT.repl(r:KT H b xs)(k:List bp)(d:RelV y u):
 KT H (b.map λa=>if a.1=k then (a.1,y)else a) (xs.map (putAt k u)):=by
 induction r with
 | nil=>exact .nil
 | @cons p q e f h t c=>
   refine .cons ?_ c;unfold putAt
   split<;>ext
def KT.put(r:KT H a xs)(k:List bp)(d:H b=some (.tup (k.map kV)))(c:RelV y u):
 KT H (bM a k y) (storedH xs k b u):=by
 have e:(a.any λf=>decide (f.1=k))=(atKey xs k).isSome:=by
  rw[Bz,(r.val k).isSome_eq,Option.isSome_map]
 unfold bM storedH;rw[e];by_cases q:(atKey xs k).isSome=true
 .rw[if_pos q,if_pos q];exact r.repl k c
 .rw[if_neg q,if_neg q];exact .snoc r ⟨rfl,d,c⟩
def KT.keeps(r:KT H a xs)(c:∀b ys,H b=some (.tup ys)->H' b=some (.tup ys)):KT H' a xs:=
 Paired.mapP r λ_ _ z=>⟨z.1,c _ _ z.2.1,z.2.2⟩
section
variable {P:P7}{w:World}{H:Hp}{h:Heap}{a:Addr}
def oG(b:HOk P w H h)(e:Rd H a u):ObjOk P w H h a u:=e.ok b
def jz(c:HOk P w H h)(e:Rd H a (.dK b)):b.length<=sizeLine/\(a==sysModules)=false/\∃vs,KV b vs/\h.DictOf (cH P w) a vs:=
 oG c e
def ix(c:HOk P w H h)(e:H a=some (.dK b)):b.length<=sizeLine/\(a==sysModules)=false/\∃vs,KV b vs/\h.DictOf (cH P w) a vs:=jz c (.inl e)
def mK(f:HOk P w H h)(e:H a=some (.tup (ks.map kV))):(tupleKind (cH P w)).is h ks a:=by
 obtain⟨_,g,r,o,b,d,n,c⟩:=f a _ e;exact⟨o,g.toArray,n,b,d,c,by simpa using Nt r⟩
theorem kA(d:HOk P w H h)(e:Rd H a (.dT b)):b.length<=sizeLine/\(a==sysModules)=false/\
 ∃xs,KT H b xs/\h.DictOfH (tupleKind (cH P w)) a xs:=by
 obtain⟨z,y,xs,r,o,s,i,k,n,u,j,f⟩:=oG d e;refine⟨z,y,xs,r,o,s,i,k,n,u,j,λx c=>?_,f⟩
 have g:∀{l:_}{m:_},KT H l m->∀x∈m,(tupleKind (cH P w)).is h x.1 x.2.1:=by
  intro l m q
  induction q with
  | nil=>grind
  | @cons p q C B A t v=>
    intro x c;rcases qu c with e|c
    .exact mK d (by ext)
    grind
 grind
def BB(c:HOk P w H h)(e:H a=some (.dT b)):b.length<=sizeLine/\(a==sysModules)=false/\
 ∃xs,KT H b xs/\h.DictOfH (tupleKind (cH P w)) a xs:=kA c (.inl e)
end
def DGet(H:Hp)(a:Addr)(y:V)(r:Option V):Prop:=
 (∃c k,Rd H a (.dK c)/\y=kV k/\r=bT c k)\/∃c k b,Rd H a (.dT c)/\y=.ref b/\H b=some (.tup (k.map kV))/\r=bT c k
def DPut(H:Hp)(a:Addr)(y v:V)(H':Hp):Prop:=
 (∃c k,H a=some (.dK c)/\y=kV k/\c.length<sizeLine/\H'=upd H a (.dK (bM c k v)))\/
 ∃c k b,H a=some (.dT c)/\y=.ref b/\H b=some (.tup (k.map kV))/\c.length<sizeLine/\H'=upd H a (.dT (bM c k v))
def DGet.k{k:bp}(e:H a=some (.dK b)):DGet H a (kV k) (bT b k):=.inl ⟨b,k,.inl e,rfl,rfl⟩
def DPut.k{k:bp}(e:H a=some (.dK b))(c:b.length<sizeLine):DPut H a (kV k) v (upd H a (.dK (bM b k v))):=.inl ⟨b,k,e,rfl,c,rfl⟩
section
variable {σ:St}{H:Hp}{s:Shared}{a:Addr}{y v:V}{u r:Value}{o:Option V}{A:Around}{E:AA}
def Inv.big(I:Inv X pins σ H s):sysModules< ~~~s:=Nat.lt_trans (by decide) ((I.mod.glob.keeps I.bk).lt)
def Nu(w:A.units+1<cLine)(I:Inv X pins σ H s)(g:DGet H a y (some v))(t:RelV y u)(h:∀f s',Inv X pins σ H s'->RelV v f->Q f s'):
 wpAny (mZ X.prog X.w) A (getItem (.ref a) u) Q E s:=by
 rcases g with⟨n,k,e,j,l⟩|⟨n,k,b,e,j,C,l⟩
 .subst j
  obtain⟨z,x,o,d,i⟩:=jz I.hok e;obtain⟨f,m,c⟩:=RelO.some_of (by rw[l];exact d.val k);exact wpAny_getItem_of (jy t) i.mapOf m (h f _ (I.tok _) c)
 .subst j
  cases (t);obtain⟨z,x,r,d,i⟩:=kA I.hok e;obtain⟨f,m,c⟩:=RelO.some_of (by rw[l];exact d.val k);obtain⟨p,B,q⟩:=qc m;refine wpAny_getItem_heap (tupleKind_room_in1 w) (mK I.hok C) i B ?_;rw[q];exact h f _ (I.tok _) c
def BC(n:A.units+1<cLine)(I:Inv X pins σ H s)(g:DGet H a y o)(m:RelV y u)(h:∀s',Inv X pins σ H s'->Q (.bool o.isSome) s'):
 wpAny (mZ X.prog X.w) A (compareOp .In u (.ref a)) Q E s:=by
 rcases g with⟨i,k,e,j,l⟩|⟨i,k,b,e,j,p,l⟩
 .subst j
  obtain⟨z,d,t,c,f⟩:=jz I.hok e;refine wpAny_in_of (jy m) d f.mapOf ?_;rw[<-(c.val k).isSome_eq,<-l];exact h _ (I.tok _)
 .subst j
  cases (m);obtain⟨z,d,r,c,f⟩:=kA I.hok e;refine wpAny_in_heap (tupleKind_room_in1 n) (mK I.hok p) d f ?_;have q:=(c.val k).isSome_eq;rw[Option.isSome_map]at q;rw[<-q,<-l];exact h _ (I.tok _)
def BD(n:A.units+1<cLine)(I:Inv X pins σ H s)(g:DGet H a y o)(m:RelV y u)(h:∀s',Inv X pins σ H s'->Q (.bool (!o.isSome)) s'):
 wpAny (mZ X.prog X.w) A (compareOp .NotIn u (.ref a)) Q E s:=by
 rcases g with⟨d,k,e,j,l⟩|⟨d,k,b,e,j,p,l⟩
 .subst j
  obtain⟨z,i,r,c,f⟩:=jz I.hok e;refine wpAny_notIn_of (jy m) i f.mapOf ?_;rw[<-(c.val k).isSome_eq,<-l];exact h _ (I.tok _)
 .subst j
  cases (m);obtain⟨z,i,t,c,f⟩:=kA I.hok e;refine wpAny_notIn_heap (tupleKind_room_in1 n) (mK I.hok p) i f ?_;have q:=(c.val k).isSome_eq;rw[Option.isSome_map]at q;rw[<-q,<-l];exact h _ (I.tok _)
def mL(I:Inv X pins σ H s)(e:oh (H a))(hs:Heap.SameBut a s.heap h')(g:∃q,h'.get? a=some q)(c:ObjOk X.prog X.w (upd H a d) h' a d):
 Inv X pins σ (upd H a d) {s with heap:=h',toks:=t' }:=
 I.write e (.inl rfl) (λb q f z=>(hs.2 b f).trans z) g c
def vK(z:b.length<=sizeLine)(d:(a==sysModules)=false)(c:KV b vs)(e:f.DictOf (cH P w) a vs):
 ObjOk P w H' f a (.dK b):=⟨z,d,vs,c,e⟩
theorem Tj(M:A.units+1<cLine)(I:Inv X pins σ H s)(g:DPut H a y v H')(x:RelV y u)(B:RelV v r)(h:∀s',Inv X pins σ H' s'->Q () s'):
 wpAny (mZ X.prog X.w) A (setItem (.ref a) u r) Q E s:=by
 rcases g with⟨d,k,e,p,l,n⟩|⟨d,k,b,e,p,D,l,n⟩
 .subst p n
  obtain⟨z,t,F,f,w⟩:=ix I.hok e
  have T:F.length<=sizeLine:=by rw[<-f.length];exact z
  have m:(bM d k v).length<=sizeLine:=by have:=vJ d k v;lia
  refine wpAny_setItem_pairs (jy x) w λO i o=>h _ ?_;have L:∃q,_:=let ⟨q,_,_,j,_⟩:=i;⟨q,j⟩;exact mL I (by rw[e];exact .intro) o L (vK m t (f.put k B) i)
 .subst p n
  cases (x);obtain⟨z,t,N,f,w⟩:=BB I.hok e
  have T:N.length<=sizeLine:=by rw[<-Paired.length f];exact z
  have m:(bM d k v).length<=sizeLine:=by have:=vJ d k v;lia
  refine wpAny_setItem_heap (tupleKind_room_in1 M) (mK I.hok D) w λO i o=>h _ ?_;obtain⟨q,R,J,j,S,G,K,_,U⟩:=i;refine mL I (by rw[e];exact .intro) o ⟨q,j⟩ ⟨m,t,_,(f.put k D B).keeps λc V C=>?_,q,R,J,j,S,G,K,U⟩;rw[Ym (zM C e (λz=>nomatch z))];exact C
end
def iy(i:Expr):Prop:=∀a b,subscripted i false a b=operate [a,b] (getItem a b)
def Nv{T id:String}(m:typeLookup (.type T) "__getitem__"=pure (some (.builtin id)))(hs:iy a)(h:wpAny (mZ prog w) A (eval c env) (λo e=>wpAny (mZ prog w) A (eval a env) (λi b=>b.TypeIs o T/\wpAny (mZ prog w) A (getItem o i) Q E b) E e) E s):
 wpAny (mZ prog w) A (eval (.Subscript c a l) env) Q E s:=by
 refine Subscript_ (wz h (λo e k=>wz k (λi b d=>?_) λ_ _ x=>x) λ_ _ x=>x);obtain⟨n,d⟩:=d;refine wa (wa (wpAny_specialOf n m ?_))
 have g:wpAny (mZ prog w) A (subscripted a false o i) (λr f=>wpAny (mZ prog w) A (letTemporaryGo c o r>>=λ_=>pure r) Q E f) E b:=by
  rw[hs o i];exact wpAny_operating (wz d (λr f j=>wa (wpAny_letTemporaryGo (wb j))) λ_ _ x=>x)
 first
  | exact wb (wa g)
  | exact wa _
  | exact wa g
def Nw{σ:St}(I:Inv X pins σ H s)(g:DGet H a y o):s.TypeIs (.ref a) "dict":=by
 rcases g with⟨c,k,e,_,_⟩|⟨c,k,b,e,_,_,_⟩
 .obtain⟨_,_,f,_,d⟩:=jz I.hok e
  exact d.typeIs
 .obtain⟨_,_,h,_,d⟩:=kA I.hok e
  exact d.typeIs
def BE(f e:TE):TE:=λb H Q=>f b H λx d=>e b d λy c=>∃a v,x=.ref a/\DGet c a y (some v)/\Q v c
section
variable {o i e value:Expr}{pos' tpos:Pos}{td ty tv:TE}
def BF(m:X.A.units+1<cLine)(q:PE X o td)(n:PE X i ty)(hs:iy i):PE X (.Subscript o i pos) (BE td ty):=by
 intro j s e H Q I h;refine Nv PySem.F.slot_dict_getitem.lookup hs (aL (q _ s e H _ I h) λu p b=>?_);obtain⟨x,r,l,A,t⟩:=b;refine aL (n _ p e r _ l t) λE G b=>?_;obtain⟨y,w,f,k,a,v,z,g,B⟩:=b;subst z;obtain rfl:=A;exact⟨Nw f g,Nu m f g k λD F C c=>⟨v,w,C,c,B⟩⟩
end
def Nx(h:Heap)(a:sysModules<h.objs.size):ObjOk P w H (h.push {cls:=.type "dict",data:=.dict #[]}) h.objs.size (.dK []):=
 ⟨Qh _,beq_eq_false_iff_ne.mpr (.symm (qm a)),[],.nil,.new h⟩
def BG:TE:=λ_ H Q=>∀p,H p=none->Q (.ref p) (upd H p (.dK []))
def BH:PE X (.Dict [] [] pos) BG:=λa s b H Q I h=>
 wpAny_Dict_empty ⟨.ref _,_,I.laid (λ_ _ q=>qe _ q) (qv _) (Nx _ I.big),rfl,h _ (I.hok.fresh (qv _))⟩
def oH:List (TE×TE)->St->Hp->(List (V×V)->Hp->Prop)->Prop
 | [],_,H,Q=>Q [] H
 | (tk,a)::r,σ,H,Q=>tk σ H λx c=>a σ c λy b=>oH r σ b λps d=>Q ((x,y)::ps) d
abbrev VV:List (V×V)->List (Value×Value)->Prop:=Paired λp q=>RelV p.1 q.1/\RelV p.2 q.2
def mM(X:Cx)(c:Pos)(b:List (Option Expr))(a:AK)(d:List (TE×TE)):Prop:=
 ∀(e:List _) (s:Shared) (f:St) (H:Hp) (Q:List _->Hp->Prop),Inv X e f H s->oH d f H Q->
  aah X (evalPairs (pairTrees b a X.env c)) (λi j=>∃h g,Inv X e f g j/\VV h i/\Q h g) X.xe s
def Ny:mM X pos [] [] []:=λa s b H Q I h=>pairTrees_nil_walk ⟨[],H,I,.nil,h⟩
def Nz(j:PE X k tk)(B:PE X v i)(p:mM X pos ks vs c):
 mM X pos (some k::ks) (v::vs) ((tk,i)::c):=λd s a H Q I h=>
 pairTrees_cons_walk (aL (j _ s a H _ I h) λu m ⟨x,n,g,A,q⟩=>aL (B _ m a n _ g q) λE l ⟨y,C,w,e,z⟩=>
  aL (p _ l a C _ w z) λD F ⟨o,r,f,b,t⟩=>⟨(x,y)::o,r,f,.cons ⟨A,e⟩ b,t⟩)
def iA(c a:List (bp×V)):List (bp×V):=a.foldl (λb d=>bM b d.1 d.2) c
theorem KV.merge:∀{b:List (bp×V)}{c:List (bp×Value)}{a:List (bp×V)}{vs:List (bp×Value)},KV b c->KV a vs->KV (iA a b) (merged vs c):=by
 intro b c a vs r
 induction r generalizing a vs with
 | nil=>exact λq=>q
 | @cons p q g i h t d=>
   intro f
   have e:KV (bM a p.1 p.2) (stored vs q.1 q.2):=by
    have:=f.put p.1 h.2
    rwa [<-h.1]
   exact d e
theorem NA:∀(b a:List (bp×V)),(iA a b).length<=a.length+b.length
 | [],a=>by show a.length<=_;ac_nf
 | p::r,a=>by
   have d:=NA r (bM a p.1 p.2);have c:=vJ a p.1 p.2;show(iA _ r).length<=_;rw[qt];ac_nf
theorem NB{P:P7}{w:World}:∀{d:List (bp×V)}{g:List (Value×Value)},VV (d.map λf=>(kV f.1,f.2)) g->∃e,Carries (cH P w) g e/\KV d e
 | [],_,r=>by cases r;exact⟨[],.intro,.nil⟩
 | p::d,_,r=>by
   cases r with
   | @cons a b j l h t=>
     obtain⟨e,c,q⟩:=NB t;obtain⟨k,i⟩:=b;exact⟨(p.1,i)::e,⟨jy h.1,rfl,c⟩,.cons ⟨rfl,h.2⟩ q⟩
def BI(b:List (TE×TE)):TE:=λe H Q=>∀p,H p=none->oH b e (upd H p (.dK [])) λf c=>c p=some (.dK [])/\∃a:List _,f=a.map (λd=>(kV d.1,d.2))/\a.length<=15/\Q (.ref p) (upd c p (.dK (iA [] a)))
theorem BJ{X:Cx}{pos:Pos}{a:List (Option Expr)}{b:AK}{i:List (TE×TE)}(h:mM X pos a b i)(f:a.all (·.isSome)=true)(t:a.length=b.length)(h0:a≠[])(l:a.length<=15):PE X (.Dict a b pos) (BI i):=by
 intro m s x H Q I q;refine wpAny_Dict_walk (knd:=cH _ X.w) f t h0 l (aL (h _ _ x _ _ (I.laid (t':=s.toks) (λ_ _ q=>qe _ q) (qv _) (Nx _ I.big)) (q _ (I.hok.fresh (qv _)))) λK J k=>?_);obtain⟨L,G,n,j,e,g,u,F,D⟩:=k;subst u;obtain⟨w,c,E⟩:=NB j;obtain⟨z,A,B,o,r⟩:=ix n.hok e;cases o;refine⟨w,c,r,λM d y=>⟨.ref _,_,?_,rfl,D⟩⟩
 have p:(iA [] g).length<=sizeLine:=by
  have C:=NA g [];rw[List.length_nil]at C;rw[jg];lia
 exact mL n (by rw[e];exact .intro) y (let ⟨q,_,_,v,_⟩:=d;⟨q,v⟩) (vK p A (E.merge .nil) d)
structure M1(X:Cx)(o:Expr)(m:Str)(apos:Pos)(e:Expr)(cpos:Pos):Prop where
 base:attributeBase o m X.env (eval o X.env)=eval o X.env
 few:((backTo cpos (starEach [e] X.env)).all (λx=>!x.1)&&(backToKw cpos (keywordEach [] X.env)).all (λx=>x.1.isSome)
  &&decide (([e]:AK).length+([]:List Keyword).length+(if ([]:List Keyword).isEmpty then 0 else 1)<30))=true
 line:(apos.endLine==cpos.line)=true
 trees:backTo cpos (starEach [e] X.env)=[(false,eval e X.env)]
structure M2(X:Cx)(o:Expr)(m:Str)(apos:Pos)(e f:Expr)(cpos:Pos):Prop where
 base:attributeBase o m X.env (eval o X.env)=eval o X.env
 few:((backTo cpos (starEach [e,f] X.env)).all (λx=>!x.1)&&(backToKw cpos (keywordEach [] X.env)).all (λx=>x.1.isSome)
  &&decide (([e,f]:AK).length+([]:List Keyword).length+(if ([]:List Keyword).isEmpty then 0 else 1)<30))=true
 line:(apos.endLine==cpos.line)=true
 trees:backTo cpos (starEach [e,f] X.env)=[(false,eval e X.env),(false,eval f X.env)]
def NC(H:Hp)(a:Addr):Prop:=(∃b,Rd H a (.dK b))\/∃b,Rd H a (.dT b)
def BK{σ:St}(I:Inv X pins σ H s)(d:NC H a):
 s.TypeIs (.ref a) "dict"/\(∀b,Value.ref a=.ref b->∃c,s.heap.get? b=some c/\c.dict=none)/\(a==sysModules)=false:=by
 rcases d with⟨i,e⟩|⟨i,e⟩
 .obtain⟨_,g,k,_,f⟩:=jz I.hok e
  refine⟨f.typeIs,λb q=>?_,g⟩;cases q;obtain⟨c,_,_,h,j,_⟩:=f;exact⟨c,h,j.2.1⟩
 .obtain⟨_,g,l,_,f⟩:=kA I.hok e
  refine⟨f.typeIs,λb q=>?_,g⟩;cases q;obtain⟨c,_,_,h,j,_⟩:=f;exact⟨c,h,j.2.1⟩
section
variable {σ:St}{H:Hp}{s:Shared}{a:Addr}{y d:V}{u r:Value}{o:Option V}{A:Around}{E:AA}
def BM(w:A.units+1<cLine)(I:Inv X pins σ H s)(g:DGet H a y o)(q:RelV y u)(p:RelV d r)(h:∀t s',Inv X pins σ H s'->RelV (o.getD d) t->Q t s'):
 wpAny (mZ X.prog X.w) A (call (.builtin "dict.get") [.ref a,u,r]) Q E s:=by
 rcases g with⟨n,k,e,m,l⟩|⟨n,k,b,e,m,v,l⟩
 .subst m
  obtain⟨z,j,B,f,i⟩:=jz I.hok e;refine call_meetsIn PySem.F.slot_dict_get i.typeIs PySem.F.entry_dict_get (PySem.F.args_dict_get_3 _ _ _) (meets_dict_get_default _ a (jy q) j r) ⟨_,i.mapOf,h _ _ (I.tok _) ?_⟩;rw[l];exact(f.val k).getD p
 .subst m
  cases (q);obtain⟨z,j,x,f,i⟩:=kA I.hok e;refine call_meetsIn PySem.F.slot_dict_get i.typeIs PySem.F.entry_dict_get (PySem.F.args_dict_get_3 _ _ _) (meetsH_dict_get_default _ a b j r) ⟨tupleKind_room_in1 w,k,x,mK I.hok v,i,h _ _ (I.tok _) ?_⟩;rw[l];exact(f.val k).getD p
end
def BN(f e d:TE):TE:=λh H Q=>f h H λx c=>∃a,x=.ref a/\NC c a/\e h c λy g=>d h g λz b=>∃o,DGet b a y o/\Q (o.getD z) b
section
variable {o e f:Expr}{td ty tx:TE}
def BO(w:X.A.units+1<cLine)(A:PE X o td)(r:PE X e ty)(G:PE X f tx)(m:M2 X o "get" apos e f cpos):PE X (.Call (.Attribute o "get" apos) [e,f] [] cpos) (BN td ty tx):=by
 intro Z s Y H Q I h;refine wpAny_Call_method m.base m.few m.line PySem.F.plainAttrs_dict PySem.F.slot_dict_get PySem.F.type_dict_get (aL (A _ s Y H _ I h) λu v c=>?_);obtain⟨x,B,k,L,a,q,d,C⟩:=c;subst q;obtain rfl:=L;obtain⟨K,D,_⟩:=BK k d;refine⟨K,D,?_⟩;rw[m.trees];refine Calls.callWith_builtin rfl (Calls.evalArgs_plain (Calls.spliced_cons (aL (r _ v Y B _ k C) λP t c=>?_)));obtain⟨y,J,n,l,N⟩:=c;refine Calls.spliced_cons (aL (G _ t Y J _ n N) λV S c=>?_);obtain⟨z,E,p,O,U,g,F⟩:=c;exact Calls.spliced_nil (BM w p g l O λR T M j=>⟨_,E,M,j,F⟩)
end
end L2
namespace HT
open PySem PyProof.Rows
section
variable {prog:P7}{w:World}{A:Around}{E:AA}{s:Shared}
theorem cat_tup(r:IsTup s.heap t vs.toArray)(u:IsTup s.heap b d.toArray)(y:vs≠[])(v:d=[]->Q (.ref t) s)(x:d≠[]->Q (.ref (~~~s)) {s with heap:=s.heap.push {cls:=.type "tuple",data:=.seq (vs++d).toArray} })(hsz:vs.length+d.length<=sizeLine):wpAny (mZ prog w) A (binaryOp .Add (.ref t) (.ref b)) Q E s:=by
 obtain⟨⟨cls,m,data,l⟩,i,o,n,k⟩:=id r;obtain⟨⟨p,g,data2,h⟩,c,f,q,e⟩:=id u;simp at o k f e;subst o k f e;by_cases j:d=[]
 .exact concat_meets ⟨_,i,rfl⟩ ⟨_,c,rfl⟩ noFill_tuple_add seq_tuple_add PySem.F.slot_tuple_add PySem.F.entry_tuple_add (PySem.F.args_tuple_add_2 _ _)
   (tuple_addW1 t b _ _ n q m g l h (by grind) (by simp[j])) ⟨i,c,v j⟩
 .refine concat_meets ⟨_,i,rfl⟩ ⟨_,c,rfl⟩ noFill_tuple_add seq_tuple_add PySem.F.slot_tuple_add PySem.F.entry_tuple_add (PySem.F.args_tuple_add_2 _ _)
   (tuple_addW2 t b _ _ n q m g l h (by grind) (by grind) (by omega)) ⟨i,c,?_⟩
  ext
noncomputable def sIx(n d:Nat):Option Int->Nat
 | none=>d
 | some v=>if v<0 then (v+n).toNat else min v.toNat n
def sIx_none(n d:Nat):sIx n d none=d:=rfl
theorem sIx_nat(n d k:Nat):sIx n d (some (k:Int))=min k n:=by
 show(if k<0 then (k+(n:Int)).toNat else _)=_;constructor<;>ac_nf
theorem BP(n d:Nat)(hd:d<=n)(o:Option Int):sIx n d o<=n:=by
 cases o with
 | none=>exact hd
 | some v=>
   show(if v<0 then (v+(n:Int)).toNat else min v.toNat n)<=n;by_cases hv:v<0
   .rw[if_pos hv];ac_nf
   .rw[if_neg hv];exact Nat.min_le_right _ _
theorem ND(v:Int)(n d:Nat):(if v<0 then max (v+(n:Int)) 0 else min v (n:Int))=((sIx n d (some v):Nat):Int):=by
 show(if v<0 then _ else min v _)=(((if v<0 then (v+n).toNat else min v.toNat n)));grind
def Tn(lo a:Option Int)(n:Nat):Builtin.Slice.sliceAdjust lo a 1 (n:Int)=(((sIx n 0 lo:Nat):Int),((sIx n n a:Nat):Int)):=by
 refine Prod.ext ?_ ?_
 .cases lo with
  | none=>rfl
  | some v=>exact ND v n 0
 .cases a with
  | none=>rfl
  | some v=>exact ND v n n
theorem To(i j:Nat):Builtin.Slice.slicePlaces (i:Int) (j:Int) 1=j-i:=by
 unfold Builtin.Slice.slicePlaces
 ext<;>lia
def NF(p:IsPart v o)(h:Q o s):wpAny (mZ prog w) A (Builtin.Slice.slicePartIndex v) Q E s:=by
 cases p with
 | none=>exact slicePart_none h
 | int i t=>exact slicePart_int h
def sliceApplied_gen{lo c:Option Int}{Q:Int×Int×Nat->Shared->Prop}(hs:s.heap.IsSliceOf g e d .none)(f:IsPart e lo)(j:IsPart d c)(h:Q (((sIx n 0 lo:Nat):Int),1,sIx n n c-sIx n 0 lo) s):wpAny (mZ prog w) A (Builtin.Slice.sliceApplied (.ref g) (pure (n:Int))) Q E s:=by
 obtain⟨os,a,i,b⟩:=id hs;refine wa (wa (wpAny_field a b (x:=e) rfl (wa (wpAny_field a b (x:=d) rfl (wa (wpAny_field a b (x:=.none) rfl (wb (wa (slicePart_none (wa (NF f (wa (NF j (wa (wb ?_)))))))))))))));show wpAny _ _ (match Builtin.Slice.sliceAdjust lo c 1 _ with|(lo,c)=>pure (lo,_,Builtin.Slice.slicePlaces lo c 1)) _ _ s;rw[Tn lo c n];show wpAny _ _ (pure _) _ _ s;rw[To];exact wb h
theorem BQ(xs:Array Value)(i k:Nat):((List.range k).filterMap fun(m:Nat)=>xs[((i:Int)+(m:Int)*1).toNat]?).toArray=((xs.toList.drop i).take k).toArray:=by
 have e:(fun(m:Nat)=>xs[((i:Int)+(m:Int)*1).toNat]?)=λm=>xs[i+m]?:=by
  funext m
  have:((i:Int)+(m:Int)*1).toNat=i+m:=by lia
  rw[this]
 rw[e];have:=pick_run xs i k;rw[List.filterMap_map]at this;have e2:((λx=>xs[x]?) ∘ λx=>i+x)=λm=>xs[i+m]?:=rfl;rw[e2]at this;rw[this]
theorem getItem_tuple_cut{lo d:Option Int}(e:IsTup s.heap t a)(hs:s.heap.IsSliceOf k o n .none)(m:IsPart o lo)(l:IsPart n d)(q:¬(sIx a.size 0 lo=0/\sIx a.size a.size d=a.size))(h:Q (.ref (~~~s)) {s with heap:=s.heap.push {cls:=.type "tuple",data:=.seq ((a.toList.drop (sIx a.size 0 lo)).take (sIx a.size a.size d-sIx a.size 0 lo)).toArray} })(hsz:a.size<=sizeLine):wpAny (mZ prog w) A (getItem (.ref t) (.ref k)) Q E s:=by
 have c:=by
  show((a.toList.drop (sIx a.size 0 lo)).take (sIx a.size a.size d-sIx a.size 0 lo)).toArray.size<=sizeLine
  (simp at*;lia)
 obtain⟨os,f,i,p⟩:=id hs
 have g:s.TypeIs (.ref k) _:=⟨os,f,i⟩
 unfold getItem
 try with_reducible refine wc ?_
 refine wa (wpAny_sequenceKey e.typeIs (by decide) ?_)
 refine wa (wpAny_callSpecial?_slot e.typeIs PyProof.Rows.slot_tuple_getitem
  (we PyProof.Rows.slot_tuple_getitem e.typeIs entry_tuple_getitem ?_ (args_tuple_getitem _ _)))
 show wpAny _ _ (Builtin.Tuple.tupleItemsOf _>>=_) _ _ s;refine wa (tupleItemsOf_ e ?_);refine wa (wpAny_typeOf g ?_);refine wa (sliceApplied_gen hs m l ?_)
 have j:¬((((sIx a.size 0 lo):Int)==0&&(1:Int)==1&&(sIx a.size a.size d-sIx a.size 0 lo)==a.size)=true):=by
  ext
 show wpAny _ _ (if _ then _ else _) _ _ s;rw[if_neg j,BQ]
 first
  | exact wa (wg (wb ⟨_,rfl,wb h⟩) c)
  | exact wa _
  | exact wa _
  | exact wa _
end
end HT
namespace L2
variable {X:Cx}{pins:AB}{pos apos cpos:Pos}{ys:AM}{es:AK}
open PySem PySem.Spec PyProof.Rows
abbrev TO:=St->Hp->(Option Int->Hp->Prop)->Prop
def PO(X:Cx)(e:Option Expr)(t:TO):Prop:=
 ∀(a:List _) (s:Shared) (b:St) (H:Hp) (Q:Option Int->Hp->Prop),Inv X a b H s->t b H Q->
  aah X (evalPart e X.env) (λu d=>∃o c,Inv X a b c d/\IsPart u o/\Q o c) X.xe s
def NG:TO:=λ_ H Q=>Q none H
def oI(t:TE):TO:=λb H Q=>t b H λx a=>∃i,x=.int i/\Q (some i) a
theorem vL:∀{us:AC},Vals (ns.map V.int) us->IntsAre us ns:=by
 induction ns with
 | nil=>intro us r;cases r;exact .nil
 | cons n ns b=>
   intro us r
   cases r with
   | cons a c=>
     obtain⟨t,e⟩:=a;subst e;exact .cons n t (b c)
section
variable {e:Expr}{te:TE}{lo hi:Option Expr}{tl th:TO}{p2:Pos}
def BR:PO X none NG:=by
 intro a s b H Q I h;exact wb ⟨none,H,I,.none,h⟩
def BS(h:PE X e te):PO X (some e) (oI te):=by
 intro k s l H Q I f;refine aL (h _ s l H _ I f) λu j a=>?_;obtain⟨x,g,c,b,d⟩:=a;obtain⟨i,rfl,q⟩:=d;obtain⟨t,rfl⟩:=b;exact⟨some i,g,c,.int i t,q⟩
def SlR(X:Cx)(r:V->Option Int->Option Int->Hp->VK->Prop):Prop:=
 ∀(d:List _) (s:Shared) (f:St) (H:Hp) (x:V) (v b a:Value) (lo e:Option Int) (c:Addr) (Q:VK),Inv X d f H s->RelV x v->s.heap.IsSliceOf c b a .none->IsPart b lo->IsPart a e->r x lo e H Q->
  ∃T id,typeLookup (.type T) "__getitem__"=pure (some (.builtin id))/\s.TypeIs v T/\aah X (getItem v (.ref c)) (EP X d f Q) X.xe s
def SlR.or(h:SlR X r)(h':SlR X k):SlR X (λx lo hi H Q=>r x lo hi H Q\/k x lo hi H Q):=by
 intro f s g H x v d b lo hi c Q I i e j a q;rcases q with q|q
 .exact h _ s g H x v d b lo hi c Q I i e j a q
 .exact h' _ s g H x v d b lo hi c Q I i e j a q
def Tp(r:V->Option Int->Option Int->Hp->VK->Prop)(te:TE)(tl th:TO):TE:=λd H Q=>te d H λx c=>tl d c λl b=>th d b λu a=>r x l u a Q
def NH(z:SlR X r)(E:PE X e te)(p:PO X lo tl)(F:PO X hi th):PE X (.Subscript e (.Slice lo hi none p2) pos) (Tp r te tl th):=by
 intro g s c H Q I h;refine Subscript_ (aL (E _ s c H _ I h) λv D a=>?_);obtain⟨x,y,m,K,A⟩:=a;refine wpAny_Slice (aL (p _ D c y _ m A) λf o a=>?_);obtain⟨l,M,B,n,L⟩:=a;refine aL (F _ o c M _ B L) λi d a=>?_;obtain⟨u,j,N,k,C⟩:=a;refine wb ?_;have t:Inv X _ c j {d with heap:=d.heap.push {cls:=.type "slice",data:=.fields #[f,i,.none]} }:=N.kept λb O q=>qe _ q;obtain⟨T,id,w,G,J⟩:=z _ _ c j x v f i l u d.heap.objs.size Q t K (.new ..) n k C;exact tail_any G w J (by with_unfolding_all rfl)
def eL(xs:AM)(lo hi:Option Int):AM:=(xs.drop (HT.sIx xs.length 0 lo)).take (HT.sIx xs.length xs.length hi-HT.sIx xs.length 0 lo)
theorem NI(xs:AM)(lo hi:Option Int):(eL xs lo hi).length<=xs.length:=by
 unfold eL
 ext<;>ac_nf
def BU(K:W7):V->Option Int->Option Int->Hp->VK->Prop:=λx lo d H Q=>∃a b,x=.ref a/\SqT K H a b/\
 ¬(HT.sIx b.length 0 lo=0/\HT.sIx b.length b.length d=b.length)/\∀p,H p=none->Q (.ref p) (upd H p (.tup (eL b lo d)))
def BV:SlR X (BU X.K):=by
 intro g s w H x v y A lo n z Q I m j k i h;obtain⟨a,l,rfl,p,t,q⟩:=h;cases m;obtain⟨e,r,f,o⟩:=I.tuple p;have c:e.toArray.size=_:=r.length.symm;refine⟨"tuple",_,PyProof.Rows.slot_tuple_getitem.lookup,f.typeIs,HT.getItem_tuple_cut f j k i (by rwa [c]) ?_ (by rwa [c])⟩;rw[c];refine⟨.ref _,_,I.laid (λb u q=>qe _ q) (qv _) ?_,rfl,q _ (I.hok.fresh (qv _))⟩;exact⟨Qg (NI l lo n) o,_,(r.drop _).take _,.new _ _⟩
def BW(K:W7):R2:=λx y H Q=>∃a b d c,x=.ref a/\y=.ref b/\SqT K H a d/\SqT K H b c/\d≠[]/\d.length+c.length<=sizeLine/\
 (c=[]->Q (.ref a) H)/\(c≠[]->∀p,H p=none->Q (.ref p) (upd H p (.tup (d++c))))
def Vals.nil_iff(r:Vals xs us):us=[]↔xs=[]:=by
 cases r with
 | nil=>simp
 | cons _ _=>simp
def BX:bX X (binaryOp .Add) (BW X.K):=by
 intro f s A H x y v u Q I n l h;obtain⟨a,b,C,B,rfl,rfl,m,o,i,t,j,p⟩:=h;cases n;cases l;obtain⟨g,d,r,_⟩:=I.tuple m;obtain⟨e,c,k,_⟩:=I.tuple o;refine HT.cat_tup r k (λz=>i (d.nil_iff.mp z)) (λz=>⟨.ref a,H,I,rfl,j (c.nil_iff.mp z)⟩) (λz=>⟨.ref _,_,I.laid (λb E q=>qe _ q) (qv _) ?_,rfl,p (λw=>z (c.nil_iff.mpr w)) _ (I.hok.fresh (qv _))⟩) (by rwa [<-d.length,<-c.length]);exact⟨by rwa [qz],_,d.append c,.new _ _⟩
end
noncomputable def fB(n:Nat)(i:Int):AL:=if 0<=i then (if i<n then some i.toNat else none)else if -n<=i then some (i+n).toNat else none
def aX{a:Type}(xs:List a)(i:Int):Option a:=(fB xs.length i).bind λj=>xs[j]?
theorem BY(h:fB n i=some j):seqIndex? i n=some j/\j<n/\-(n:Int)<=i/\i<n:=by
 unfold fB at h;by_cases b:0<=i
 .rw[if_pos b]at h
  by_cases a:i<n
  .rw[if_pos a]at h
   have e:=w4 h;exact⟨by rw[seqIndex_of b a,e],by lia,by lia,a⟩
  ext
 .rw[if_neg b]at h
  by_cases a:-n<=i
  .rw[if_pos a]at h
   have e:=w4 h;exact⟨by rw[seqIndex_neg (by lia) a,e],by lia,a,by lia⟩
  ext
theorem BZ(h:aX xs i=some v):∃j,seqIndex? i xs.length=some j/\xs[j]?=some v/\j<xs.length/\-(xs.length:Int)<=i/\i<xs.length:=by
 unfold aX at h
 cases e:fB xs.length i with
 | none=>ext
 | some j=>
   obtain⟨a,d,c,b⟩:=BY e
   ext
theorem mN{j:Nat}(h:xs[j]?=some v):aX xs (j:Int)=some v:=by
 have a:=(qo h).1
 have e:fB xs.length j=some j:=by
  unfold fB;rw[if_pos (by lia),if_pos (by ext)];simp
 unfold aX;rwa [e]
def kB(b:Expr):Prop:=∀o i,subscripted b false o i=operate [o,i] (getItem o i)
def IxR(X:Cx)(r:R2):Prop:=
 ∀(b a:Expr) (c:List _) (s:Shared) (d:St) (H:Hp) (x y:V) (v u:Value) (Q:VK),Inv X c d H s->RelV x v->RelV y u->r x y H Q->
  subscripted a false v u=operate [v,u] (getItem v u)->aah X (subscriptTail b a v u) (EP X c d Q) X.xe s
def Tq(X:Cx)(id:String)(r:V->AM->Hp->VK->Prop):Prop:=
 ∀(a:List _) (s:Shared) (b:St) (H:Hp) (x:V) (c:AM) (v:Value) (d:List _) (Q:VK),Inv X a b H s->RelV x v->Vals c d->r x c H Q->
  aah X (call (.builtin id) (v::d)) (EP X a b Q) X.xe s
section
variable {a b:Expr}{ta tb:TE}
def IxR.or(h:IxR X r)(j:IxR X g):IxR X (λx y H Q=>r x y H Q\/g x y H Q):=by
 intro c d i s a H x y v u Q I f e q b;rcases q with q|q
 .exact h c d _ s a H x y v u Q I f e q b
 .exact j c d _ s a H x y v u Q I f e q b
def B0(f:IxR X r)(c:PE X a ta)(l:PE X b tb)(hs:kB b):PE X (.Subscript a b pos) (kl r ta tb):=by
 intro k s m H Q I h;exact Subscript_ (km c l I h λv u g x y e i d j q=>f a b _ g m e x y v u Q i d j q (hs _ _))
def oJ(K:W7):R2:=λx y H Q=>∃p b i v,x=.ref p/\y=.int i/\SqL K H p b/\aX b i=some v/\Q v H
def oK(K:W7):R2:=λx y H Q=>∃p b i v,x=.ref p/\y=.int i/\SqT K H p b/\aX b i=some v/\Q v H
def oM:R2:=λx y H Q=>∃z i c,x=.str z/\y=.int i/\z.length<=sizeLine/\aX z.cps.toList i=some c/\Q (.str ⟨#[c]⟩) H
theorem ix_list:IxR X (oJ X.K):=by
 intro f c o s E H x y v u Q I D A h n;obtain⟨p,M,i,z,rfl,rfl,G,F,q⟩:=h;cases D;obtain⟨t,rfl⟩:=A;obtain⟨k,r,g,L⟩:=I.list G;obtain⟨j,b,J,N,C,K⟩:=BZ F;obtain⟨w,l,d⟩:=r.get J;have B:=r.length;have O:=oB
 have a:EP X _ E Q w s:=⟨z,H,I,d,q⟩
 by_cases m:0<=i
 .have e:=by
   rw[seqIndex_of m K]at b;exact w4 b
  exact item_listR g.isList m (by lia) (by rw[e];simpa using l) a n
 .have e:(i+k.toArray.size).toNat=j:=by
   rw[seqIndex_neg (by lia) C]at b;rw[qk,<-B];exact w4 b
  exact subscriptTail_builtinR g.isList.typeIs slot_list_getitem.lookup
   (wpAny_getItem_list_neg g.isList (by lia) (by rw[qk]<;>lia) (by lia) (by rw[e];simpa using l) ⟨rfl,a⟩) n
theorem ix_tup:IxR X (oK X.K):=by
 intro d c a s L H x y v u Q I k f h J;obtain⟨p,K,i,z,rfl,rfl,l,g,q⟩:=h;cases k;obtain⟨t,rfl⟩:=f;obtain⟨G,r,b,C⟩:=I.tuple l;obtain⟨j,D,m,n,B,F⟩:=BZ g;obtain⟨w,A,e⟩:=r.get m;have E:=r.length;have o:=oB
 exact subscriptTail_builtinR b.typeIs slot_tuple_getitem.lookup
  (getItem_tuple (j:=j) b ∅ ∅ ⋯ ⋯ ⟨rfl,⟨z,H,I,e,q⟩⟩) J
theorem B4:IxR X oM:=by
 intro e d a s C H x y v u Q I g f h b;obtain⟨z,i,c,rfl,rfl,n,k,q⟩:=h;obtain⟨t,rfl⟩:=g;obtain⟨B,rfl⟩:=f;obtain⟨j,r,p,l,o,A⟩:=BZ k
 have w:z.cps.toList.length=z.length:=by simp[Str.length]
 have m:=oB
 exact tail_any (typeIs_str s z t) slot_str_getitem.lookup (getItem_str (by
  ext<;>lia) (by grind) ⟨.str _,H,I.tok _,⟨_,rfl⟩,q⟩) b
def NJ(K:W7):R2:=λx y H Q=>oJ K x y H Q\/oK K x y H Q\/oM x y H Q
def B5:IxR X (NJ X.K):=ix_list.or (ix_tup.or B4)
theorem Ts(lo d:Option Int)(n:Nat):(sliceBounds lo d none n).1=((HT.sIx n 0 lo:Nat):Int)/\(sliceBounds lo d none n).2.1=((HT.sIx n n d:Nat):Int)/\(sliceBounds lo d none n).2.2=1:=by
 refine⟨?_,?_,rfl⟩
 .cases lo with
  | none=>constructor<;>ac_nf
  | some i=>
    simp only[sliceBounds,HT.sIx];symm
 .cases d with
  | none=>constructor<;>ac_nf
  | some i=>
    simp only[sliceBounds,HT.sIx];symm
def Tt(its:AC)(lo c:Option Int):slicePick its.toArray lo c none=((its.drop (HT.sIx its.length 0 lo)).take (HT.sIx its.length its.length c-HT.sIx its.length 0 lo)).toArray:=by
 obtain⟨f,g,e⟩:=Ts lo c _;unfold slicePick;rw[f,g,e];simp only[sliceRange_one,pick_run]<;>rfl
def B6(K:W7):V->Option Int->Option Int->Hp->VK->Prop:=λx lo d H Q=>∃a c,x=.ref a/\SqL K H a c/\∀p,H p=none->Q (.ref p) (upd H p (.lst (eL c lo d)))
theorem NK:SlR X (B6 X.K):=by
 intro f s y H x v n o lo e m Q I i w t g h;obtain⟨a,p,rfl,j,q⟩:=h;cases i;obtain⟨u,r,d,k⟩:=I.list j;have c:=r.length;refine⟨"list",_,slot_list_getitem.lookup,d.isList.typeIs,wpAny_getItem_list_slice d.isList w t g .none nofun ?_ (by ext)⟩;rw[Tt,<-c];refine⟨.ref _,_,I.laid (λb l q=>qe _ q) (qv _) ?_,rfl,q _ (I.hok.fresh (qv _))⟩;exact⟨Qg (NI p lo e) k,_,0,(r.drop _).take _,qp _ rfl⟩
theorem B7:dD X (.builtin "len") (λxs H Q=>∃p ys,xs=[.ref p]/\(SqL X.K H p ys\/SqT X.K H p ys)/\Q (.int ys.length) H):=by
 intro k s m H xs l Q I r h;obtain⟨p,ys,rfl,c,q⟩:=h;obtain⟨u,rfl,g⟩:=d6 r;cases g;have j:=oB;rcases c with c|c
 .obtain⟨f,e,b,i⟩:=I.list c
  have d:=e.length;exact Calls.call_len_list b.isList (by ext<;>lia) ⟨.int _,H,I.tok _,⟨s.toks+1,by grind⟩,q⟩
 .obtain⟨f,e,b,i⟩:=I.tuple c
  have d:=e.length;exact len_tuple b (by ext<;>lia) ⟨.int _,H,I.tok _,⟨s.toks+1,by grind⟩,q⟩
theorem Tu:dD X (.type "list") (λxs H Q=>∃p ys,xs=[.ref p]/\(SqL X.K H p ys\/SqT X.K H p ys)/\∀l,H l=none->Q (.ref l) (upd H l (.lst ys))):=by
 intro y s z H xs A Q I r h;obtain⟨p,ys,rfl,f,q⟩:=h;obtain⟨u,rfl,x⟩:=d6 r;cases x
 have j:∀_,_->_->∀(b:Heap) _,_->
  _->EP X _ z Q _ {s with heap:=b}:=λa c g b d i e=>
  ⟨.ref _,_,I.laid i (qv _) (show ObjOk _ X.w _ b _ (.lst ys) from⟨g,a,d,c,e⟩),rfl,q _ (I.hok.fresh (qv _))⟩
 rcases f with f|f
 .obtain⟨a,c,w,g⟩:=I.list f
  have k:=c.length;obtain⟨o,m,v,n,t⟩:=w.isList;exact call_list_seq p (.inl rfl) m v t (λb d i e=>j a c g b d i e) (by grind)
 .obtain⟨a,c,w,g⟩:=I.tuple f
  have k:=c.length;obtain⟨o,m,v,n,t⟩:=w;exact call_list_seq p (.inr rfl) m v t (λb d i e=>j a c g b d i e) (by grind)
theorem jA:dD X (.type "tuple") (λxs H Q=>∃p ys,xs=[.ref p]/\((SqL X.K H p ys/\∀l,H l=none->Q (.ref l) (upd H l (.tup ys)))\/(SqT X.K H p ys/\Q (.ref p) H))):=by
 intro n s w H xs v Q I r h;obtain⟨p,ys,rfl,h⟩:=h;obtain⟨u,rfl,j⟩:=d6 r;cases j;rcases h with⟨c,q⟩|⟨c,q⟩
 .obtain⟨a,d,m,f⟩:=I.list c
  have g:=d.length;refine call_tuple_list m.isList (λt k=>?_) ⋯;have i:=I.kept (t':=s.toks) k;exact⟨.ref _,_,i.laid (λb o e=>qe _ e) (qv _) (show ObjOk _ X.w _ _ _ (.tup ys) from⟨f,a,d,.new _ _⟩),rfl,q _ (i.hok.fresh (qv _))⟩
 .obtain⟨a,d,m,f⟩:=I.tuple c
  exact call_tuple_same m ⟨.ref p,H,I,rfl,q⟩
def NL(K:W7)(T:String)(x:V)(H:Hp):Prop:=match x with
 | .str _=>T="str"
 | .int _=>T="int"
 | .ref p=>(T="list"/\∃b,SqL K H p b)\/(T="tuple"/\∃o,K.lookup p=some o/\o.cls=.type "tuple"/\o.dict=none)\/
  (T="dict"/\((∃c,H p=some (.dK c))\/∃c,H p=some (.dT c)))\/(T="set"/\∃S n,H p=some (.set S n))
 | _=>False
theorem B8{σ:St}(I:Inv X pins σ H s)(r:RelV x v)(g:NL X.K T x H):
 s.TypeIs v T/\∀a,v=.ref a->∃k,s.heap.get? a=some k/\k.dict=none:=by
 cases x with
 | str z=>
   obtain⟨t,rfl⟩:=r;cases (g);exact⟨typeIs_str s z t,λ_ e=>nomatch e⟩
 | int i=>
   obtain⟨t,rfl⟩:=r;cases (g);exact⟨typeIs_int s i t,λ_ e=>nomatch e⟩
 | ref p=>
   cases r;rcases g with⟨rfl,w,l⟩|⟨rfl,o,d,m,j⟩|⟨rfl,d⟩|⟨rfl,S,n,d⟩
   .obtain⟨u,_,q,_⟩:=I.list l
    refine⟨q.isList.typeIs,λa e=>?_⟩;obtain⟨o,n,e,c,j,_⟩:=q
    ext
   .refine⟨⟨o,I.kIn p o d,m⟩,λa e=>?_⟩
    cases e;exact⟨o,I.kIn _ o d,j⟩
   .have z:∃o,s.heap.get? p=some o/\o.ExactDict:=by
     rcases d with⟨h,d⟩|⟨h,d⟩
     .obtain⟨_,_,_,_,o,_,_,e,f,_⟩:=I.hok p _ d
      grind
     .obtain⟨_,_,_,_,o,_,_,e,f,_⟩:=I.hok p _ d
      grind
    obtain⟨o,e,f⟩:=z;refine⟨⟨o,e,f.1⟩,λa b=>?_⟩;cases b;exact⟨o,e,f.2.1⟩
   .obtain⟨o,_,_,_,e,f,_⟩:=I.hok p _ d
    refine⟨⟨o,e,f.1⟩,λa b=>?_⟩;cases b;exact⟨o,e,f.2.1⟩
 | _=>exact False.elim g
def Tv(K:W7)(T:String)(r:V->AM->Hp->VK->Prop)(e:TE)(t:TA):TE:=λb H Q=>e b H λx d=>NL K T x d/\t b d λc f=>r x c f Q
variable {o e:Expr}{to:TE}{t:TA}{name:Str}{T id:String}{r:V->AM->Hp->VK->Prop}
theorem iB(K:PlainAttrs T)(g:Slot T name id)(j:typeOf (.builtin id)=pure (.type "method_descriptor"))(w:Tq X id r)(y:PE X o to)(G:PA X (e::es) t)(d:attributeBase o name X.env (eval o X.env)=eval o X.env:=by rfl)(i:((backTo cpos (starEach (e::es) X.env)).all (λx=>!x.1)&&(backToKw cpos (keywordEach [] X.env)).all (λx=>x.1.isSome)
  &&decide ((e::es).length+([]:List Keyword).length+(if ([]:List Keyword).isEmpty then 0 else 1)<30))=true:=by rfl)(b:(apos.endLine==cpos.line)=true:=by rfl)(hs:starEach (e::es) X.env=(false,eval e X.env)::starEach es X.env:=by rfl)(a:(backTo cpos (starEach es X.env)).any (·.1)=false:=by rfl):
 PE X (.Call (.Attribute o name apos) (e::es) [] cpos) (Tv X.K T r to t):=by
 intro p s k H Q I h;refine wpAny_Call_method_late d i b rfl (aL (y _ s k H _ I h) λv E c=>?_);obtain⟨x,C,m,l,q,D⟩:=c;obtain⟨A,M⟩:=B8 m l q;refine⟨T,id,K,g,j,A,M,?_⟩;have n:=G cpos _ E k C _ m D;rw[hs]at n ⊢;refine Calls.callWith_builtin (by show(false||(backTo _ _).any _)=_;rw[a]<;>rfl) (Calls.evalArgs_plain (aL n λF u c=>?_));obtain⟨B,L,z,J,N⟩:=c;exact w _ u k L x B v F Q z l J N
end
def vM(X:Cx)(id:String)(r:V->AM->Hp->VK->Prop):Prop:=
 ∀(a:List _) (s:Shared) (b:St) (H:Hp) (x:V) (c:AM) (v:Value) (d:List _) (Q:VK),Inv X a b H s->RelV x v->Vals c d->r x c H Q->
  aah X (call (.builtin id) (v::d)) (EP X a b Q) X.xe s
theorem Vals.one:∀{x:V}{us:AC},Vals [x] us->∃u,us=[u]/\RelV x u
 :=by
  intro x us h
  cases h with
  | cons r t=>
    cases t;symm
section
variable {σ:St}{H:Hp}{s:Shared}{l b:Addr}{xs zs:AM}
def Inv.lset{its its':AC}(I:Inv X pins σ H s)(i:H l=some (.lst xs))(e:s.heap.get? l=some {cls:=.type "list",data:=.seq its.toArray n})(g:f its.toArray=its'.toArray)(c:Vals ys its')(d:ys.length<=sizeLine):
 Inv X pins σ (upd H l (.lst ys)) {s with heap:=s.heap.update l (Obj.mapSeq f),toks:=t' }:=by
 have q:=PySem.IsL.update e f;rw[g]at q;exact I.write (by rw[i];exact trivial) (.inl rfl) (λj u hb h=>(Heap.get?_update_other s.heap (Obj.mapSeq f) (Ne.symm hb)).trans h) ⟨_,q⟩ (⟨d,its',_,c,q⟩)
def Inv.lnew(I:Inv X pins σ H s)(a:Vals ys its)(c:ys.length<=sizeLine):
 Inv X pins σ (upd H (~~~s) (.lst ys)) {s with heap:=s.heap.push {cls:=.type "list",data:=.seq its.toArray},toks:=t' }:=
 I.laid (λ_ _ q=>qe _ q) (qv _) ⟨c,its,0,a,qp _ rfl⟩
def Inv.fresh(I:Inv X pins σ H s):H (~~~s)=none:=I.hok.fresh (qv _)
def Inv.lstM(I:Inv X pins σ H s)(a:H l=some (.lst xs)):xs.length<=sizeLine/\∃(its:AC) (n:Nat),Vals xs its/\xs.length=its.length/\s.heap.get? l=some {cls:=.type "list",data:=.seq its.toArray n}:=by
 obtain⟨z,its,n,r,e⟩:=I.hok l _ a;exact⟨z,its,n,r,r.length,e⟩
theorem B9(h:n<=sizeLine):Builtin.List.listTooLong n=false:=by
 unfold Builtin.List.listTooLong
 ext
def B_:V->AM->Hp->VK->Prop:=λx b H Q=>∃l a y,x=.ref l/\b=[y]/\H l=some (.lst a)/\a.length<sizeLine/\Q .non (upd H l (.lst (a++[y])))
theorem NM:vM X "list.append" B_:=by
 intro b s p H x t v o Q I g f h;obtain⟨l,m,y,rfl,rfl,c,i,q⟩:=h;cases g;obtain⟨u,rfl,d⟩:=f.one;obtain⟨z,k,n,r,j,e⟩:=I.lstM c;refine call_meets F.slot_list_append ⟨_,e,rfl⟩ F.entry_list_append (F.args_list_append_2 _ _) (PySem.list_append l _ n u (by ext)) ⟨e,⟨.non,_,I.lset c e nofun (r.append (.cons d .nil)) ?_,rfl,q⟩⟩
 (simp;lia)
end
end L2
namespace Att
open PySem PySem.W PySem.Calls PyProof.Rows
theorem Tw:∀(ns:AF) (vs:AC),WellAll P h vs (ns.map WData.int)->IntsAre vs ns:=by
 intro ns
 induction ns with
 | nil=>
   intro vs w;cases w;exact .nil
 | cons n ns c=>
   intro vs w
   cases w with
   | cons a b=>
     cases a;exact .cons _ _ (c _ b)
theorem Tx{l:OpenLaw}(t:l.most=some n)(b:l.row.toRowW.claim.pre args=true)(g:WellAll P h e args):
 ∃a vs ns,e=[Value.ref a]/\args=[WData.list (ns.map WData.int)]/\h.get? a=some {cls:=.type "list",data:=.seq vs.toArray}/\IntsAre vs ns/\ns.length<=n:=by
 have s:l.pre.holds [] _=true:=(pre_splitW b).2;obtain⟨d,r,rfl,p,o⟩:=hasAllW_cons ((pre_splitW b).1);obtain rfl:=hasAllW_nil o;obtain⟨v,rfl,m⟩:=hasW_list p;obtain⟨ns,rfl⟩:=items_int m
 have f:ns.length<=n:=by
  have i:(WTm.not (.lt (.lit (.int n)) (.len (.arg 0)))).holds [] {args:=[.list (ns.map .int)]}=true:=by
   have i:=(holds_andW s).1
   ext
  have u:=condW_of i (w_not (w_lt w_lit (w_len_list (w_arg rfl))))
  ext
 cases g with
 | cons q k=>
   cases k
   cases q with
   | list j c=>exact⟨_,_,ns,rfl,rfl,j,Tw ns _ c,f⟩
def Tz(l:OpenLaw)(a:List WData):l.row.toRowW.claim.post a (.bool true) a=true:=
 postW_of
  (by first|rfl|decide|simp[.arms])
  (w_eq_bool (w_res rfl) w_lit) rfl
def attach_call{l:OpenLaw}(M:l.most=some n)(v:d.params.defaults=[])(call:∀(w:World) (c b:Shared) (p S:AD) (h:Addr) (o:Obj) (y m e:Value) (a:Addr) (vs:AC) (ns:AF),
  Ground q loose [] XP w c p S b.heap->YP w b.heap->
  b.heap.get? h=some o->o.data=.func (docDef d.name d.params d.body d.scope y m e)->b.heap.CodeRec m d.name->p d.name=some (.ref h)->
  b.heap.get? a=some {cls:=.type "list",data:=.seq vs.toArray}->IntsAre vs ns->ns.length<=n->b.gens=#[]->
  codeAny (mZ l.prog w) callerA (.call (.ref h) ⟨[.ref a],[]⟩) (λr s'=>r=.ok (.ret (.bool true))/\OldK b.heap s'.heap/\s'.os=b.os/\AllBare s'.gens) b):
 WalkO q loose XP YP l.row.toRowW d [] (λf vs=>PySem.call f vs):=by
 intro w c b p S G Y h o y m e R Q E N u B t L C A P k z F s J;obtain rfl:=Dflts.none B v;obtain rfl:=Dflts.noKw B;obtain⟨a,vs,ns,rfl,rfl,j,g,i⟩:=Tx M k s;refine enter_call (codeAny_mono (call w c b p S h o y m e a vs ns G Y E (fd_plain N) u t j g i L) λr s' K=>?_);obtain⟨rfl,H,I,D⟩:=K;exact⟨.inl ⟨.bool _,.bool _,[],rfl,λ_=>rfl,.bool _,Tz l _,λ_=>⟨.nil,λ_ O=>nomatch O⟩⟩,H,I,D⟩
end Att
namespace L2
variable {X:Cx}{pins:AB}{pos apos cpos:Pos}{ys:AM}{es:AK}
open PySem PySem.Spec PyProof.Rows
theorem oN:∀{vs:AC}{ns:AF},IntsAre vs ns->Vals (ns.map V.int) vs
 | _,_,.nil=>.nil
 | _,_,.cons n t h=>.cons ⟨t,rfl⟩ (oN h)
def kC(H:Hp):Prop:=∀b,H b=none\/∃o a,H b=some (.frz o (.lst a))
theorem Ca{K:W7}(T:K.In c.heap)(t:c.heap.Ns mainGlobals G)(hb:c.heap.Ns builtinsNs mb)(O:∀x:Str,x≠"__name__"->mb x=bootBuiltins x)(p:c.heap.NoLimit)(hg:c.gens=#[])(M:c.heap.get? a=some {cls:=.type "list",data:=.seq vs.toArray})(ua:IntsAre vs ns)(hl:ns.length<=sizeLine)(hr:Room k callerA)(F:∀g:Heap,K.In g->g.Ns mainGlobals G->cA P w K G g CX k U fd [x] sp)(l:∀(s:Shared) (u:Value),BindsTo s fd ⟨[u],[]⟩ [(x,u)])(I:∀H:Hp,kC H->SqL K H a (ns.map V.int)->sp [.ref a] H (λv _=>v=.bl true) λ_ _ _=>False)(L:∀H e s',CX [] H c (λ_ _ _=>False) e s'->False):
 codeAny (mZ P w) callerA (.call (.ref U) ⟨[.ref a],[]⟩) (λr s'=>r=.ok (.ret (.bool true))/\OldK c.heap s'.heap/\s'.os=c.os/\AllBare s'.gens) c:=by
 have rv:=oN ua;have R:=ua.length
 have j:∀H,kC H->SqL K H a (ns.map V.int)->HOk P w H c.heap->(∀b,H b≠none->b=a)->(H a≠none->K.lookup a=none)->
  codeAny (mZ P w) callerA (.call (.ref U) ⟨[.ref a],[]⟩) (λr s'=>r=.ok (.ret (.bool true))/\OldK c.heap s'.heap/\s'.os=c.os/\AllBare s'.gens) c:=by
  intro H S Y C hA hK;have f:∀{b:Addr}{o:Obj},c.heap.get? b=some o->H b=none->_:=λe n=>zN e n
  have N:∀{b:Addr}{o:Obj}{E:Array DictEntry}{D:Nat},c.heap.get? b=some o->o.data=.dict E D->H b=none:=λ{b o E D} e d=>by
   grind
  have i:∀{b:Addr}{m:AD},c.heap.Ns b m->(eK c.heap H).Ns b m:=λ{b m} ⟨o,E,D,e,d,r⟩=>⟨o,E,D,f e (N e d),d,r⟩
  have B:=λb o e=>f (T b o e) (by
   grind)
  have hM:Mod K G (eK c.heap H):=⟨B,i t,⟨mb,i hb,O⟩,let ⟨mc,h1,h2⟩:=p;⟨mc,i h1,h2⟩⟩
  have Z:iu P w K G (eK c.heap H) callerA [] c H:=⟨rfl,hM,λb o e=>zO e,Nat.le_of_eq (S0 _ _),trivial,λb hb=>absurd (show b∈([]) from hb) nofun,C,.of_eq hg⟩
  refine codeAny_mono ((F _ B (i t)).run callerA [] c H ⟨[.ref a],[]⟩ [.ref a] [.ref a] _ _ hr Z (l c (.ref a)) (.cons rfl .nil) (I H S Y)) λr s' h=>?_
  cases r with
  | error e=>exact(L H e s' h).elim
  | ok fl=>
    cases fl with
    | next=>exact False.elim h
    | brk=>exact False.elim h
    | cont=>exact False.elim h
    | ret u=>
      obtain⟨v,H',os,A,Q,y,r',q⟩:=h;have q':=q;subst q';obtain rfl:=r';refine⟨rfl,OldK.of_keep λb o e=>?_,os,A⟩
      cases q:H b with
      | none=>exact Q.keep b o e q (by intro z;exact absurd (show b∈([]) from z) nofun) nofun
      | some u=>
        rcases S b with z|⟨ob,xs,z⟩
        .grind
        .have z2:=Q.frzs b ob _ z
         obtain⟨e1,_⟩:=C b _ z;obtain⟨e2,_⟩:=y b _ z2;grind
 cases J:K.lookup a with
 | some o=>
   have e:=T a o J;rw[M]at e;cases e;refine j (λ_=>none) (λ_=>.inl rfl) (.inr ⟨_,vs.toArray,_,J,rfl,rfl,rfl,by ext,by grind⟩) (λb u z=>by grind) (λb z=>absurd rfl z) λz=>absurd rfl z
 | none=>
   refine j (λb=>if b=a then some _ else none) (λb=>?_) (.inl (.inr ⟨{cls:=.type "list",data:=.seq vs.toArray},if_pos rfl⟩)) (λb u z=>?_) (λb z=>?_) λ_=>J
   .grind
   .by_cases hb:b=a
    .have z':=(if_pos hb).symm.trans z
     cases z';subst hb;exact⟨M,by ext,vs,_,rv,M⟩
    ext
   ext
def walk_of{l:W.OpenLaw}{K:Params->W7}{CX:World->jw}{sp:World->Sp}(S:l.most=some n)(A:n<=sizeLine)(t:d.params.defaults=[])(P:Room k callerA)(O:∀(w:World) (h:Heap),YP w h->(K w.params).In h)(F:∀(w:World) (j:AD) (r:Addr) (h:Heap),(K w.params).In h->h.Ns mainGlobals j->j d.name=some (.ref r)->
  ∃z:FuncData,(∀(s:Shared) (u:Value),BindsTo s z ⟨[u],[]⟩ [(x,u)])/\
   ∀c:Heap,(K w.params).In c->c.Ns mainGlobals j->cA l.prog w (K w.params) j c (CX w) k r z [x] (sp w))(C:∀(w:World) (H:Hp) (a:Addr) (ns:AF),ns.length<=n->kC H->SqL (K w.params) H a (ns.map V.int)->sp w [.ref a] H (λv _=>v=.bl true) λ_ _ _=>False)(B:∀(w:World) (H:Hp) (s:Shared) (e:Value) (s':Shared),CX w [] H s (λ_ _ _=>False) e s'->False):
 W.WalkO q loose XP YP l.row.toRowW d [] (λf vs=>PySem.call f vs):=by
 refine Att.attach_call S t λw D m j mb r o U T J a vs ns G Y X L R y p i g I=>?_;have E:=O w _ Y;obtain⟨z,Z,M⟩:=F w j r _ E G.T.g y;exact Ca E G.T.g G.T.b G.T.builtins G.T.nolimit I p i (Qg g A) P M Z (λH Q N=>C w H a ns g Q N) λH e s'=>B w H m e s'
noncomputable def aIa(s:Stmt):Arguments:=match s with
 | .FunctionDef _ a _ _ _ _ _ _ _ _=>a
 | _=>{posonlyargs:=[],args:=[],vararg:=none,kwonlyargs:=[],kw_defaults:=[],kwarg:=none,defaults:=[]}
noncomputable def aHa(s:Stmt):List Stmt:=match s with
 | .FunctionDef _ _ b _ _ _ _ _ _ _=>b
 | _=>[]
noncomputable def aFa(s:Stmt):Scope:=match s with
 | .FunctionDef _ _ _ _ _ _ a _ _ _=>a
 | _=>{kind:=.function,names:=[],isGenerator:=false,isCoroutine:=false}
abbrev dS:jw:=λ_ _ _ _ _ _=>False
abbrev E0:XK:=λ_ _ _=>False
def oO:Bw dS X E0:=λ_ _ _ _ _ _ _ h=>h.elim
structure Fun(K:W7)(x qual:Str)(st:Stmt)(f:Addr)(fd:FuncData):Prop where
 ex:∃(oc:Value) (od:Option Addr) (kV doc pm:Value) (an:Option Addr) (cdv ct:Value) (osl:Array (Option Value)),
  fd=W.fnOf x qual (aIa st) (aHa st) (aFa st) .none kV doc pm an cdv ct/\K.lookup f=some ⟨oc,od,.func fd,osl⟩/\W.codeIn K cdv qual=true
 kp:W.keepIn K (.ref f)=true
section
variable {P:P7}{w:World}{K:W7}{mg:AD}{base:Heap}
def Fun.ok{st:Stmt}(F:Fun K x c st f n)(S:fV N z (aFa st))(g:∀vs H Q E,sp vs H Q E->vs.length=z.length)(d:∀(b:Value) (A:Around) (a:List Env) (s:Shared) (H:Hp) (vs:AM) (Q:VK) (E:XK),Room k (A.deeper (envOfC c (aFa st) (~~~s) f b))->sp vs H Q E->
  ∃t,PSs (cW dS P w K mg base N c (aFa st) f b A a s H E).nox (aHa st) t/\t {nx:=λ_ H'=>Q .non H',rt:=Q} (start N vs) H):cA P w K mg base dS (k+1) f n z sp:=by
 obtain⟨p,u,kV,j,v,r,b,y,m,rfl,l,i⟩:=F.ex;refine kz l i S g λA a s H vs Q E o e=>?_;obtain⟨t,h,q⟩:=d b A a s H vs Q E o e;exact⟨t,h.nox,q⟩
def Fun.binds{st:Stmt}(F:Fun K x c st f i)(h:∀(kV a e:Value) (g:Option Addr) (b d:Value) (us:AC),us.length=o.length->bindArgs (W.fnOf x c (aIa st) (aHa st) (aFa st) .none kV a e g b d) ⟨us,[]⟩=pure (o.zip us)):Binds K i o []:=by
 obtain⟨n,m,kV,a,e,g,b,d,k,rfl,l,j⟩:=F.ex;exact .all (h kV a e g b d)
def oP{st:Stmt}{kV d h b g:Value}(l:K.lookup f=some ⟨j,m,.func (W.fnOf x a (aIa st) (aHa st) (aFa st) .none kV d h i b g),e⟩)(c:W.codeIn K b a=true)(k:W.keepIn K (.ref f)=true):Fun K x a st f (W.fnOf x a (aIa st) (aHa st) (aFa st) .none kV d h i b g):=⟨⟨j,m,kV,d,h,i,b,g,e,rfl,l,c⟩,k⟩
end
def Same(H H':Hp):Prop:=∀b o,H b=some o->H' b=some o
def Same.refl(H:Hp):Same H H:=λ_ _ h=>h
def Same.trans(a:Same H e)(b:Same e d):Same H d:=λc o h=>b c o (a c o h)
def Same.free(e:Same H H')(h:H' l=Option.none):H l=Option.none:=by
 cases q:H l with
 | none=>rfl
 | some o=>
   rw[e l o q]at h;cases h
def Same.seq{K:W7}(e:Same H H')(h:SqL K H a xs):SqL K H' a xs:=by
 rcases h with(h|⟨o,h⟩)|h
 .exact .inl (.inl (e _ _ h))
 .exact .inl (.inr ⟨o,e _ _ h⟩)
 .exact .inr h
noncomputable def bu(env:Env):List (Str×NameKind)->List (Str×Addr)->List (Str×Addr)
 | [],cs=>cs
 | (n,k)::r,cs=>if (k==NameKind.free)=true then (match env.cells.lookup n with|some c=>bu env r ((n,c)::cs)|none=>bu env r cs)else bu env r cs
theorem NO(h:∀x∈a.names,x.2=NameKind.free->∃c,env.cells.lookup x.1=some c):closureFor a env=pure (bu env a.names []):=by
 have f:∀(l:_) (d:_),(∀x∈l,x.2=.free->∃c,env.cells.lookup x.1=some c)->
  (forIn l d fun(x:Str×_) r=>if (x.2==.free)=true then (do let c <-cellOf env x.1;pure (.yield ((x.1,c)::r)))else pure (.yield r))=(pure (bu env l d)):=by
  intro l
  induction l with
  | nil=>intro d _;rfl
  | cons x l j=>
    intro d g;obtain⟨n,k⟩:=x;have m:=λy s=>g y (qg _ s);rw[List.forIn_cons];by_cases o:k=.free
    .subst o
     obtain⟨c,q⟩:=g _ qh rfl;have b:=q
     have p:cellOf env n=pure c:=by unfold cellOf;rw[b]
     have e:(.free==NameKind.free)=true:=rfl;rw[if_pos e,p,pure_bind,pure_bind];show forIn l _ _=_;rw[j _ m];show _=pure (if _ then _ else _);rw[if_pos e,b]
    .have i:(k==.free)=false:=by simpa using o
     rw[if_neg (by rw[i];exact qi),pure_bind];show forIn l d _=_;rw[j _ m];show _=pure (if _ then _ else _);rw[if_neg (by rw[i];exact qi)]
 have:=f _ [] h;unfold closureFor;simpa using this
theorem vN:∀(l:List (Str×NameKind)) (d:List (Str×Addr)),(∀x c,(x,c)∈d->env.cells.lookup x=some c)->∀x c,(x,c)∈bu env l d->env.cells.lookup x=some c
 | [],d,h,x,c,e=>h x c e
 | (n,k)::r,d,h,x,c,e=>by
   unfold bu at e
   split at e
   .split at e
    .refine vN r _ (λy b a=>?_) x c e
     grind
    .exact vN r d h x c e
   .exact vN r d h x c e
theorem vO:∀(l:List (Str×NameKind)) (a:List (Str×Addr)) (p:Str×Addr),p∈a->p∈bu env l a
 | [],_,_,h=>h
 | (n,k)::r,a,p,h=>by
   unfold bu
   split
   .split
    .exact vO r _ p (qg _ h)
    .exact vO r _ p h
   .exact vO r _ p h
theorem oQ:∀(l:List (Str×NameKind)) (b:List (Str×Addr)) (x:Str) (c:Addr),(x,NameKind.free)∈l->env.cells.lookup x=some c->(x,c)∈bu env l b
 | (n,k)::r,b,x,c,h,a=>by
   rcases qu h with q|q
   .cases q
    unfold bu;rw[a];exact vO r _ _ qh
   .unfold bu
    split
    .split
     .exact oQ r _ x c q a
     .exact oQ r _ x c q a
    .exact oQ r _ x c q a
theorem NP{a:List (Str×Addr)}(h:(x,c)∈a):∃d,a.lookup x=some d:=by
 induction a with
 | nil=>cases h
 | cons p r f=>
   obtain⟨n,b⟩:=p;rw[List.lookup_cons]
   cases e:(x==n)with
   | true=>grind
   | false=>
     ext
structure fW(XN:AJ)(xsc:Scope)(N:AJ)(src:List AL)(sc:Scope):Prop where
 kind:sc.kind=.function
 xkind:xsc.kind=.function
 cellU:∀y∈sc.names,y.2=NameKind.cell->sc.names.lookup y.1=some NameKind.cell
 names:∀y∈sc.names,y.2=NameKind.local->sc.names.lookup y.1=some NameKind.local
 len:src.length=N.length
 nd:N.Nodup
 cap:∀(i j:Nat) (x:Str),N[i]?=some x->src[i]?=some (some j)->XN[j]?=some x/\sc.names.lookup x=some NameKind.free
 fr:∀y∈sc.names,y.2=NameKind.free->xsc.names.lookup y.1=some NameKind.cell\/xsc.names.lookup y.1=some NameKind.free
noncomputable def gm(b:AJ)(a:Scope):AJ->List AL->Bool
 | [],[]=>true
 | x::N,none::src=>gm b a N src
 | x::N,some j::src=>decide (b[j]?=some x)&&decide (a.names.lookup x=some NameKind.free)&&gm b a N src
 | _,_=>false
theorem Cb:∀{N:AJ}{c:List AL},gm b a N c=true->c.length=N.length
 | [],[],_=>rfl
 | _::N,none::c,h=>by
   have:=Cb (N:=N) h;simp[this]
 | _::N,some j::c,h=>by
   replace h:(_&&_)=true:=h;simp [Qe]at h;have:=Cb h.2;simp[this]
 | [],_::_,h=>Bool.noConfusion h
 | _::_,[],h=>Bool.noConfusion h
theorem Cc:∀{N:AJ}{e:List AL},gm b a N e=true->∀(i j:Nat) (x:Str),N[i]?=some x->e[i]?=some (some j)->b[j]?=some x/\a.names.lookup x=some NameKind.free
 | [],[],_,i,j,x,h,_=>by simp at h
 | _::N,none::e,h,i,j,x,d,c=>by
   cases i with
   | zero=>simp at c
   | succ i=>exact Cc (N:=N) h i j x (by ext) (by ext)
 | y::N,some k::e,h,i,j,x,d,c=>by
   replace h:(_&&_)=true:=h;simp [Qe]at h
   cases i with
   | zero=>
     ext
   | succ i=>exact Cc h.2 i j x (by ext) (by ext)
 | [],_::_,h,_,_,_,_,_=>Bool.noConfusion h
 | _::_,[],h,_,_,_,_,_=>Bool.noConfusion h
def kE(c:AJ)(a:Scope)(N:AJ)(d:List AL)(b:Scope):Bool:=
 decide (b.kind=.function)&&decide (a.kind=.function)&&b.names.all (λy=>decide (y.2=.cell->b.names.lookup y.1=some .cell))&&b.names.all (λy=>decide (y.2=.local->b.names.lookup y.1=some .local))&&
  decide N.Nodup&&gm c b N d&&b.names.all (λy=>decide (y.2=.free->a.names.lookup y.1=some .cell\/a.names.lookup y.1=some .free))
def Cd(h:kE e a N l g=true):fW e a N l g:=by
 unfold kE at h;simp only[Qe,wm,List.all_eq_true]at h;obtain⟨⟨⟨⟨⟨⟨i,d⟩,k⟩,c⟩,j⟩,b⟩,f⟩:=h;exact⟨i,d,k,c,Cb b,j,Cc b,f⟩
noncomputable abbrev cN(X:Cx)(a:Scope)(N:AJ)(b:List (Str×Addr))(C:Addr)(c:List Addr)(s:Shared)(H:Hp):Cx where
 prog:=X.prog
 w:=X.w
 K:=X.K
 mg:=X.mg
 base:=X.base
 A:=X.A
 N:=N
 s₀:=s
 H₀:=H
 env:=compEnvC a b C X.env
 outer:=X.stack
 stack:=X.stack
 ex:=c
 fn:=λx=>a.names.lookup x==some .cell
 calm:=X.calm
 pn:=[]
 xe:=λ_ _=>False
noncomputable def dE(a:List AL)(σ:St):St:=a.map λo=>o.bind λj=>σ[j]?.join
def ef(X:Cx)(a:AK)(t:TT):Prop:=
 ∀(d:List _) (s:Shared) (e:St) (H:Hp) (Q:Bool->Hp->Prop),Inv X d e H s->t e H Q->
  aah X (forIn a true λc r=>if r=true then do let b <-isTrue c X.env (eval c X.env);pure (.yield b)else pure (.yield r)) (TP X d e Q) X.xe s
def oR:TT:=λ_ H Q=>Q true H
def Ce:ef X [] oR:=λ_ _ _ H _ I h=>wpAny_tests_nil ⟨H,I,h⟩
def Cf(n:TI)(r:List AL)(g:TG)(q:TT)(l:TE):TE:=λt H Q=>n t H λJ f=>∀p,f p=none->
 ∃W:Nat->Nat->St->Hp->Prop,(∃m,W 0 m (dE r t) (upd f p (.lst [])))/\∀i m c e,W i m c e->
  (J.stop i e/\Q (.ref p) e)\/
  (J.go i e/\∀x h,J.yld i e x h->g x c h λa o=>q a o λb j=>if b=true then l a j λv k=>∃s,k p=some (.lst s)/\s.length<sizeLine/\∃d,d<m/\W (i+1) d a (upd k p (.lst (s++[v])))else ∃d,d<m/\W (i+1) d a j)
section
variable {prog:P7}{w:World}{A:Around}{R:Result->Shared->Prop}{s:Shared}{elt tg iter:Expr}{ifs:AK}{scope:Scope}{wi:TI}{g:TG}{ti:TT}{te:TE}{N:AJ}{src:List AL}
theorem TC(I:Nat->Shared->Prop)(u:∀n s,I n s->wpAny (mZ prog w) A (pyNext y) (λr a=>match r with
  | none=>R (.ok .next) a
  | some v=>wpAny (mZ prog w) A (letOwnedTupleGo b y v) (λ_ a=>wpAny (mZ prog w) A (assign b env v) (λ_ l=>
   wpAny (mZ prog w) A (forIn ifs true λc r=>if r=true then do let ok <-isTrue c env (eval c env);pure (ForInStep.yield ok)else pure (ForInStep.yield r)) (λok f=>
    if ok=true then wpAny (mZ prog w) A (eval elt env) (λx j=>
     wpAny (mZ prog w) A (call (.builtin "list.append") [t,x]) (λ_ k=>∃m,m<n/\I m k) (notedBy (mZ prog w) A env λe s'=>R (.error e) s') j) (notedBy (mZ prog w) A env λe s'=>R (.error e) s') f
    else ∃m,m<n/\I m f) (notedBy (mZ prog w) A env λe s'=>R (.error e) s') l) (notedBy (mZ prog w) A env λe s'=>R (.error e) s') a) (notedBy (mZ prog w) A env λe s'=>R (.error e) s') a) (notedBy (mZ prog w) A env λe s'=>R (.error e) s') s)(n:Nat)(h:I n s):
 codeAny (mZ prog w) A (.compLoop (.ListComp elt [⟨b,iter,ifs,0⟩] scope pos) 0 y t env) R s:=by
 refine codeAny_loop rfl I (λn s z=>?_) n h;show wpAny _ A _ _ _ s;refine wpAny_noted ?_;rw[compTurn_list];refine wa (wpAny_standAt (wa (wz (u n s z) (λr a d=>?_) λ_ _ g=>g)))
 cases r with
 | none=>exact wb d
 | some v=>
   refine wa (wz d (λ_ a d=>wa (wz d (λ_ l o=>wa (wz o (λok f i=>?_) λ_ _ g=>g)) λ_ _ g=>g)) λ_ _ g=>g)
   cases ok with
   | false=>exact wb ⟨rfl,i⟩
   | true=>
     exact wa (wa (wz i (λx j q=>wa (wz q (λ_ k p=>wb (wb ⟨rfl,p⟩)) λ_ _ g=>g)) λ_ _ g=>g))
theorem TF(h:scope.names.lookup x=some NameKind.free)(a:env.kindOf x=some NameKind.cell\/env.kindOf x=some NameKind.free):
 (relabel scope env).names.lookup x=some NameKind.cell\/(relabel scope env).names.lookup x=some NameKind.free:=by
 unfold relabel;generalize scope.names=l at h
 induction l with
 | nil=>cases h
 | cons p r b=>
   symm
theorem TH(h:(relabel scope env).names.lookup x=some NameKind.cell\/(relabel scope env).names.lookup x=some NameKind.free):
 (x,NameKind.free)∈scope.names\/(x,NameKind.cell)∈scope.names:=by
 unfold relabel at h
 revert h
 generalize scope.names=l
 induction l with
 | nil=>simp
 | cons p r a=>
   symm
theorem oS:∀(b:List (Str×NameKind)) (n:Nat) (a:List (Str×Addr)),cellsFrom n b a=cellsFrom n b []++a
 | [],_,_=>rfl
 | (x,k)::r,n,a=>by
   unfold cellsFrom
   split
   .rw[oS r _ _,oS r _ [(x,n)],w9];rfl
   .exact oS r n a
theorem Cg:∀(a:List (Str×NameKind)) (n:Nat) (x:Str) (c:Addr),(x,c)∈cellsFrom n a []->(x,NameKind.cell)∈a
 | [],_,_,_,h=>nomatch h
 | (y,k)::r,n,x,c,h=>by
   unfold cellsFrom at h
   split at h
   .rw[oS]at h
    rcases qw h with h|h
    .exact qg _ (Cg r _ x c h)
    ext
   .exact qg _ (Cg r n x c h)
theorem NQ{a b:List (Str×Addr)}:(a++b).lookup x=(a.lookup x).or (b.lookup x):=by grind
theorem kF{a b:List (Str×Addr)}(h:(a++b).lookup x=some c):a.lookup x=some c\/(a.lookup x=none/\b.lookup x=some c):=by
 rw[NQ]at h
 ext
def TJ(h:Q (newEnv scope (~~~s) a (cellsFrom (~~~s+1) scope.names []++i) c none .none (some b) f) {s with heap:=pushCells (s.heap.push {cls:=.type "dict",data:=.dict #[]}) scope.names}):
 wpAny M A (newFunctionEnv scope a i [] c none .none (some b) f) Q E s:=by
 refine wa (wpAny_alloc (wa (wpAny_layCells _ (λg e d=>by simp) _ _ _ _ ?_)));rw[ww ..,oS];exact wa (wb (wb h))
theorem TK{σ:St}(S:fW X.N X.env.scope N src scope)(I:Inv X pins σ H s)(M:∀b∈fp,cV X pins H b)(ho:∀b∈fp,∃o,s.heap.get? b=some o)(hn:n.Ns (~~~s) λ_=>none)(O:∀b o,s.heap.get? b=some o->n.get? b=some o)(t:CellsOk n (~~~s+1) f)(R:∀x c,(x,c)∈f->(x,NameKind.cell)∈scope.names)(E:∀x,scope.names.lookup x=some NameKind.cell->∃c,f.lookup x=some c):
 Inv (cN X scope N (f++bu X.env scope.names []) (~~~s) fp s H) [] (dE src σ) H {s with heap:=n,toks:=tk}:=by
 have h:∀x c,(bu X.env scope.names []).lookup x=some c->X.env.cells.lookup x=some c:=λx c e=>vN scope.names [] (λ_ _ z=>nomatch z) x c (PySem.mem_of_lookup e)
 have clt:∀x c,(bu X.env scope.names []).lookup x=some c->c< ~~~s:=λx c e=>by
  obtain⟨v,q⟩:=I.cell x c (h x c e);exact q.lt
 have V:∀x c,f.lookup x=some c->(~~~s)<c:=λx c e=>(t.empty x c (PySem.mem_of_lookup e)).2
 have L:∀x,scope.names.lookup x=some NameKind.free->f.lookup x=none:=λx J=>by
  cases e:f.lookup x with
  | none=>rfl
  | some c=>
    have:=S.cellU _ (R x c (PySem.mem_of_lookup e)) rfl;grind
 have T:∀b∈fp,b< ~~~s:=λb g=>by
  obtain⟨o,e⟩:=ho b g;exact ql e
 have U:∀b∈fp,b∉fT X.stack:=λb g z=>by
  rcases qu (I.stkSub b z)with e|e
  .exact(M b g).2.1 e
  .exact(M b g).2.2.1 e
 refine⟨⟨I.ok.mod,S.kind,I.ok.glob,I.ok.blt,qv _,λx y c C k=>?_,λx J=>?_,λx c z e=>?_,I.ok.hd,I.ok.frames,.inl rfl,λb g=>⟨qm (T b g),λx c e=>?_⟩,
  I.bs,Qg I.ok.bsz I.sz,λb o e g=>?_,U,I.stack,I.stkFree⟩,rfl,I.bare,Un.kept O,⟨_,hn,λi x v C k h3=>?_⟩,λx c e=>?_,I.fresh,λx c e=>?_,λp hp=>(nomatch hp),I.hok.kept O,?_⟩
 .rcases kF C with C|⟨_,C⟩
  .rcases kF k with k|⟨_,k⟩
   .exact name_of_addr t.apart (PySem.mem_of_lookup C) (PySem.mem_of_lookup k)
   grind
  .rcases kF k with k|⟨_,k⟩
   .grind
   .exact I.ok.inj x y c (h x c C) (h y c k)
 .show ∃c,(f++bu X.env scope.names []).lookup x=some c
  rw[NQ]
  cases e:f.lookup x with
  | some c=>grind
  | none=>
    rcases TH J with P|P
    .obtain⟨c,t⟩:=I.ok.has x (S.fr _ P rfl)
     exact NP (oQ scope.names [] x c P t)
    .obtain⟨c,t⟩:=E x (S.cellU _ P rfl)
     grind
 .have z':scope.names.lookup x=some NameKind.cell:=by simpa using z
  obtain⟨d,Y⟩:=E x z';rcases kF e with e|⟨e,_⟩
  .grind
  ext
 .rcases kF e with e|⟨_,e⟩
  .grind
  .exact(M b g).2.2.2.2.1 x c (h x c e)
 .rcases(M b g).2.2.2.1 with z|z
  .exact I.ok.noex b o e z
  .exact absurd (Qi (ql e) (Qg I.ok.bsz z)) (Nat.lt_irrefl _)
 .have hi:i<src.length:=by
   have:=(qo k).1;unfold dE at this
   ext
  have A:src[i]?=some src[i]:=qr hi;unfold dE at k;rw[Qm,A]at k;have F:(src[i].bind λj=>(σ[j]?).join)=some v:=w4 k;cases q:src[i]with
  | none=>ext
  | some j=>
    rw[q]at F A;have W:(σ[j]?).join=some v:=F;obtain⟨J,D⟩:=S.cap i j x C A;obtain⟨m,_,Z⟩:=I.loc;have G:X.env.kindOf x=some NameKind.cell\/X.env.kindOf x=some NameKind.free:=S.fr (x,NameKind.free) (PySem.mem_of_lookup D) rfl
    have Q:σ[j]?=some (some v):=by
     grind
    obtain⟨u,r,l⟩:=Z j x v J Q (.inr G);refine⟨u,r,.inr ⟨TF D G,?_⟩⟩;rcases l with⟨z,_⟩|⟨_,c,t,B⟩
    .simp_all
    .obtain⟨d,Y⟩:=NP (oQ (env:=X.env) scope.names [] x c (PySem.mem_of_lookup D) t)
     have K:=h x d Y;rw[t]at K;cases K;refine⟨c,?_,B.keeps O⟩;show(f++bu X.env scope.names []).lookup x=some c;grind
 .rcases kF e with e|⟨_,e⟩
  .exact⟨_,(t.empty x c (PySem.mem_of_lookup e)).1⟩
  .obtain⟨v,q⟩:=I.cell x c (h x c e)
   exact⟨v,q.keeps O⟩
 .rcases kF e with e|⟨_,e⟩
  .exact I.hok.fresh (Nat.le_of_lt (V x c e))
  .exact I.freeC x c (h x c e)
 .unfold dE
  rw[qf];exact S.len
def Ci{σ c:St}(I:Inv X pins σ H s)(a:∀b∈d,cV X pins H b)(J:Inv (cN X scope N f C d s H) e c H' s'):Inv X pins σ H' s':=
 I.call' J.os J.base J.hok J.bare λb g=>⟨(a b g).2.2.2.1,(a b g).2.1,(a b g).2.2.2.2.1,(a b g).2.2.2.2.2⟩
theorem NR{σ:St}{Q:VK}{R:Value->Addr->Result->Shared->Prop}(S:fW X.N X.env.scope N src scope)(hc:X.calm=true)(hg:∀cl C k s H,PG (cN X scope N cl C k s H) tg g)(hi:∀cl C k s H,ef (cN X scope N cl C k s H) ifs ti)(he:∀cl C k s H,PE (cN X scope N cl C k s H) elt te)(I:Inv X pins σ H s)(T:ee X.prog X.w X.K tg J k it tn)(st:tn 0 s.heap)(hf:∀b∈k,cV X pins H b)(h:∀p,H p=none->∃W:Nat->Nat->St->Hp->Prop,(∃m,W 0 m (dE src σ) (upd H p (.lst [])))/\∀i m σ1 H2,W i m σ1 H2->
  (J.stop i H2/\Q (.ref p) H2)\/
  (J.go i H2/\∀x G,J.yld i H2 x G->g x σ1 G λO H4=>ti O H4 λb H5=>if b=true then te O H5 λv H6=>∃xs,H6 p=some (.lst xs)/\xs.length<sizeLine/\∃A,A<m/\W (i+1) A O (upd H6 p (.lst (xs++[v])))else ∃A,A<m/\W (i+1) A O H5))(hR:∀(D C:Addr) (s':Shared) (H':Hp) (m:AD),Inv X pins σ H' s'->s'.heap.Ns C m->H' C=none->C≠X.env.locals->X.s₀.heap.objs.size<=C->(∀x c,X.env.cells.lookup x=some c->c≠C)->(∀p∈X.pn++pins,p.1≠C)->Q (.ref D) H'->R (.ref D) C (.ok .next) s'):
 aah X (newList []) (λacc s₃=>aah X (newFunctionEnv scope X.env.globals (bu X.env scope.names []) [] X.env.qual none .none (some X.env)) (λZ s₄=>
  codeAny (mZ X.prog X.w) X.A (.compStart (.ListComp elt [⟨tg,iter,ifs,0⟩] scope pos) 0 (.ref it) acc {Z with scope:=relabel scope X.env}) (R acc Z.locals) s₄) E s₃) E s:=by
 refine wg (TJ ?_);have hfree:H (~~~s)=none:=I.fresh;obtain⟨W,⟨m0,w0⟩,turn⟩:=h (~~~s) hfree;have I3:Inv X pins σ (upd H (~~~s) (.lst [])) {s with heap:=s.heap.push {cls:=.type "list",dict:=none,data:=.seq ([]:AC).toArray},toks:=s.toks}:=I.lnew (ys:=[]) (its:=[]) .nil (Qh _);generalize hD:(~~~s)=L at *;generalize hH3:upd H L (.lst [])=G at *;have kp0:∀b o,s.heap.get? b=some o->(s.heap.push {cls:=.type "list",dict:=none,data:=.seq ([]:AC).toArray}).get? b=some o:=λb o e=>qe _ e
 have lt0:∀b o,s.heap.get? b=some o->b≠L:=λb o e=>by rw[<-hD];exact qm (ql e)
 generalize hs3:s.heap.push {cls:=.type "list",dict:=none,data:=.seq ([]:AC).toArray}=a at *
 have f3:∀b∈k,cV X pins G b:=λb l=>by
  obtain⟨o,e,_⟩:=T.obj _ _ st b l;refine⟨?_,(hf b l).2⟩;rw[<-hH3,Ym (lt0 b o e)];exact(hf b l).1
 have ob3:∀b∈k,∃o,a.get? b=some o:=λb l=>by
  obtain⟨o,e,_⟩:=T.obj _ _ st b l;exact⟨o,kp0 b o e⟩
 dsimp only;have M:(pushCells (a.push {cls:=.type "dict",data:=.dict #[]}) scope.names).Ns a.objs.size (λ_=>none):=(Heap.Ns.new a (.type "dict")).keeps (pushCells_keeps _ _);have old:∀b o,a.get? b=some o->(pushCells (a.push {cls:=.type "dict",data:=.dict #[]}) scope.names).get? b=some o:=λb o e=>pushCells_keeps _ _ b o (qe _ e);have cok:=cellsFrom_ok scope.names (a.push {cls:=.type "dict",data:=.dict #[]}) (a.objs.size+1) [] ⟨λ_ _ V=>(nomatch V),List.Pairwise.nil⟩ (by rw[ww];exact qv _);rw[ww]at cok;have chas:∀x,scope.names.lookup x=some NameKind.cell->∃c,(cellsFrom (a.objs.size+1) scope.names []).lookup x=some c:=λx hx=>Option.isSome_iff_exists.mp (PySem.W.cellsFrom_some _ _ _ (.inl hx));have cmem:∀x c,(x,c)∈cellsFrom (a.objs.size+1) scope.names []->(x,NameKind.cell)∈scope.names:=λx c h=>Cg _ _ x c h;generalize cellsFrom (a.objs.size+1) scope.names []=z,pushCells (a.push {cls:=.type "dict",data:=.dict #[]}) scope.names=F at *
 have I4:Inv (cN X scope N (z++bu X.env scope.names []) a.objs.size k {s with heap:=a,toks:=s.toks} G) [] (dE src σ) G {s with heap:=F,toks:=s.toks}:=
  TK (s:={s with heap:=a,toks:=s.toks}) (tk:=s.toks) S I3 f3 ob3 M old cok cmem chas
 have st4:tn 0 F:=T.keep _ _ _ st λb _ o e=>old b o (kp0 b o e);have hCl:a.objs.size≠X.env.locals:=Nat.ne_of_gt I3.lt
 have hCc:∀x c,X.env.cells.lookup x=some c->c≠a.objs.size:=λx c e=>by
  obtain⟨v,q⟩:=I3.cell x c e;exact qm q.lt
 have hCp:∀p∈X.pn++pins,p.1≠a.objs.size:=λp hp=>qm (ql (I3.pin p hp).1)
 have K:∀{H':Hp},(∀b∈k,H' b=none)->∀b∈k,cV _ [] H' b:=λ{H'} hn b l=>by
  obtain⟨e1,e2⟩:=I4.ok.exf b l;exact⟨hn b l,e1,I4.ok.exfs b l,.inl l,e2,λp hp=>nomatch hp⟩
 have loop:codeAny (mZ X.prog X.w) X.A (.compLoop (.ListComp elt [⟨tg,iter,ifs,0⟩] scope pos) 0 (.ref it) (.ref L) (compEnvC scope (z++bu X.env scope.names []) a.objs.size X.env)) (R (.ref L) a.objs.size) {s with heap:=F,toks:=s.toks}:=by
  refine TC (λn s'=>∃i B H',Inv (cN X scope N (z++bu X.env scope.names []) a.objs.size k {s with heap:=a,toks:=s.toks} G) [] B H' s'/\tn i s'.heap/\(∀b∈k,H' b=none)/\W i n B H') ?_ m0 ⟨0,_,G,I4,st4,λb l=>(f3 b l).1,w0⟩;rintro n s3 ⟨i,Y,U,I3',st3,fr3,w3⟩;rcases turn i n Y U w3 with⟨stop,qn⟩|⟨go,step⟩
  .refine aL (T.done (cN X scope N (z++bu X.env scope.names []) a.objs.size k {s with heap:=a,toks:=s.toks} G) rfl rfl rfl hc i [] s3 Y U _ I3' (K fr3) st3 stop) λr s4 j=>?_
   obtain⟨hr,I5⟩:=j;subst hr;obtain⟨m,V,_⟩:=I5.loc;exact hR L a.objs.size s4 U m (Ci I3 f3 I5) V I5.free hCl (Qg I3.sz (qv _)) hCc hCp qn
  .refine aL (T.item (cN X scope N (z++bu X.env scope.names []) a.objs.size k {s with heap:=a,toks:=s.toks} G) rfl rfl rfl hc i [] s3 Y U _ I3' (K fr3) st3 go) λr s4 j=>?_
   obtain⟨u,hr,h4⟩:=j;subst hr;refine aL h4 λ_ s5 j=>?_;obtain⟨x,H5,I5,r5,y5,st5,fr5⟩:=j;have I5':=I5.pinned (K fr5) (T.obj _ _ st5);have un:∀{α:Type}{t:Sem α}{Q':α->Shared->Prop}{E':AA}{s':Shared},aah X t Q' (λ_ _=>False) s'->aah X t Q' E' s':=λh=>wz h (λ_ _ q=>q) λ_ _ f=>f.elim;refine un (aL (hg _ _ _ _ _ _ s5 Y H5 x u _ I5' r5 (step x H5 y5)) λ_ s6 j=>?_);obtain⟨w,H6,I6,q6⟩:=j;refine un (aL (hi _ _ _ _ _ _ s6 w H6 _ I6 q6) λok s7 j=>?_);obtain⟨H7,I7,q7⟩:=j
   have again:∀{H8:Hp}{s8:Shared}{A:Nat},A<n->Inv (cN X scope N (z++bu X.env scope.names []) a.objs.size k {s with heap:=a,toks:=s.toks} G) ([]++vF k s5.heap) w H8 s8->W (i+1) A w H8->
    ∃m,m<n/\∃i B H',Inv _ [] B H' s8/\tn i s8.heap/\(∀b∈k,H' b=none)/\W i m B H':=λ{H8 s8 A} V I8 w8=>by
    refine⟨A,V,i+1,w,H8,I8.unpinned,T.keep _ _ _ st5 λb l o e=>(I8.pin (b,o) (Qr _ (Qr _ (vG l e)))).1,λb l=>?_,w8⟩;obtain⟨o,e,d⟩:=T.obj _ _ st5 b l;exact(I8.pin (b,o) (Qr _ (Qr _ (vG l e)))).2.1
   cases ok with
   | false=>
     rw[if_neg qi]at q7 ⊢;obtain⟨A,V,w7⟩:=q7;exact again V I7 w7
   | true=>
     rw[if_pos rfl]at q7 ⊢;refine un (aL (he _ _ _ _ _ _ s7 w H7 _ I7 q7) λy s8 j=>?_);obtain⟨v,H8,I8,r8,q8⟩:=j;obtain⟨xs,e8,z8,A,V,w8⟩:=q8;refine un (aL (NM _ s8 w H8 (.ref L) [v] (.ref L) [y] (λ_ H9=>H9=upd H8 L (.lst (xs++[v]))) I8 rfl (.cons r8 .nil) ⟨L,xs,v,rfl,rfl,e8,z8,rfl⟩) λ_ s9 j=>?_);obtain⟨_,H9,I9,_,q9⟩:=j;subst q9;exact again V I9 w8
 exact codeAny_compStart_list loop (T.self _ _ _ _ _ st4 loop)
def Cj(S:fW X.N X.env.scope N src scope)(M:X.calm=true)(l:PI X tg iter wi)(P:∀c C a s H,PG (cN X scope N c C a s H) tg g)(t:∀c C a s H,ef (cN X scope N c C a s H) ifs ti)(O:∀c C a s H,PE (cN X scope N c C a s H) elt te)(hs:∀x,foldedSetIterable iter X.env x=pure x:=by intro _;rfl):PE X (.ListComp elt [⟨tg,iter,ifs,0⟩] scope pos) (Cf wi src g ti te):=by
 intro w s σ H Q I h;refine wpAny_comprehension_free rfl hs (NO λy K F=>I.ok.has y.1 (S.fr y K F)) S.kind S.names (aL (l _ s σ H _ I h) λv Y r=>aL r λU W j=>?_);obtain⟨V,a,Z,J,H2,e,u,T,i,G,q⟩:=j;subst e
 exact NR S M P t O u T i G q λD C s' R m B p E k d n f z=>⟨m,p,λh' L=>⟨.ref D,R,B.turned (λb o A e=>(L.2 b A).trans e) E k (.inr d) n f,rfl,z⟩⟩
theorem Ck{M c:Pos}(S:fW X.N X.env.scope N src scope)(hc:X.calm=true)(u:PI X tg iter wi)(Z:∀f C d s H,PG (cN X scope N f C d s H) tg g)(hi:∀f C d s H,ef (cN X scope N f C d s H) ifs ti)(Q:∀f C d s H,PE (cN X scope N f C d s H) elt te)(O:X.N.Nodup)(F:X.N[i]?=some y)(V:c8 X.env.scope y)(p:swapsWith (.ListComp elt [⟨tg,iter,ifs,0⟩] scope pos) (some (.Name y M)) c.line X.env=pure true)(G:X.fn y=true\/X.env.scope.names.lookup y=some .local:=by trivial)(hs:∀x,foldedSetIterable iter X.env x=pure x:=by intro _;rfl):PS X (.Assign [.Name y M] (.ListComp elt [⟨tg,iter,ifs,0⟩] scope pos) c) (gk (Cf wi src g ti te) (mH i)):=by
 intro w s A H D I h;rw[exec_Assign_Name_used _ _ _ _ p];refine wa (wpAny_standAt (wa (wa (wz (wpAny_comprehension_free rfl hs (NO λy F G=>I.ok.has y.1 (S.fr y F G)) S.kind S.names (aL (u _ s A H _ I h) λv s1 h1=>aL h1 λitv s2 B=>?_)) (λ_ s' n=>wb (wb n)) λ_ _ e=>e))));obtain⟨it,d,tn,J,H2,e,I2,T,r,U,q⟩:=B;subst e;refine NR (Q:=λx H1=>mH i x A H1 _) S hc Z hi Q I2 T r U q λDd C s' H' m Y hm P z j k E n=>wpAny_assign_Name (M8 Y O F V (v:=.ref Dd) rfl (λs'' t K=>?_) G);obtain⟨a,W,ha⟩:=K
 have L:C≠a:=by
  grind
 exact⟨m,hm.sameBut W L,λh' l=>⟨_,H',t.turned (λb o R e=>(l.2 b R).trans e) P z (.inr j) k E,n⟩⟩
end
end L2
namespace M
variable {prog:P7}{fp wr:List Addr}{K:W7}{X:Cx}{es rest ifs elts:AK}{fa fk fz f2:AU}{ga gl:AV}{pos pos' pt p2 pos2 px dpos p3 pos3 pos4:Pos}{pins:AB}{st:Stmt}{sts:List Stmt}{fs gs:AR}{tg elt iter ie ke f':Expr}{scope:Scope}{mg:AD}{base:Heap}{ta:TA}
open PySem PySem.Spec PyProof.Rows L2
def cI(xs:Array Nat):Prop:=xs.toList.Pairwise (·<·)
theorem Cm(f:cI xs)(j:Nat):∀(a lo b:Nat),lo<=b->b<=xs.size->b-lo<=a->
 (∀(i:Nat) (h:i<xs.size),i<lo->xs[i]<j)->(∀(i:Nat) (h:i<xs.size),b<=i->j<=xs[i])->
 SetTable.below.go xs j a lo b<=xs.size/\(∀(i:Nat) (h:i<xs.size),i<SetTable.below.go xs j a lo b->xs[i]<j)/\(∀(i:Nat) (h:i<xs.size),SetTable.below.go xs j a lo b<=i->j<=xs[i])
 | 0,lo,b,p,l,t,g,n=>by
   rw[SetTable.below.go];grind
 | a+1,lo,b,p,l,t,g,n=>by
   have m:∀(i k:Nat) (b:i<xs.size) (s:k<xs.size),i<k->xs[i]<xs[k]:=λi k b s h=>by
    have:=List.pairwise_iff_getElem.mp f i k (by ext) (by ext) h
    ext
   rw[SetTable.below.go];by_cases r:lo<b
   .rw[if_pos r]
    have u:(lo+b)/2<xs.size:=by lia
    have q:xs.getD ((lo+b)/2) j=xs[(lo+b)/2]:=by ext
    dsimp only;rw[q];by_cases c:xs[(lo+b)/2]<j
    .rw[if_pos c]
     refine Cm f j a _ _ (by lia) l (by ext<;>lia) (λi d o=>?_) n;by_cases e:i=(lo+b)/2
     .simp_all
     grind
    .rw[if_neg c]
     refine Cm f j a _ _ (by lia) (by lia) (by ext<;>lia) g (λi d o=>?_);by_cases e:i=(lo+b)/2
     .subst e;ext
     grind
   grind
theorem NS(l:cI xs)(j:Nat):SetTable.below xs j<=xs.size/\(∀a∈xs.toList.take (SetTable.below xs j),a<j)/\(∀a∈xs.toList.drop (SetTable.below xs j),j<=a):=by
 obtain⟨k,f,g⟩:=Cm l j xs.size 0 _ (Qh _) (qv _) ∅ (λi _ h=>absurd h (Nat.not_lt_zero _)) (λi h n=>absurd h ∅);have e:SetTable.below xs j=SetTable.below.go xs j _ 0 _:=rfl;refine⟨k,λa b=>?_,λa b=>?_⟩
 .obtain⟨i,d,rfl⟩:=List.mem_iff_getElem.mp b
  rw[List.length_take]at d
  have c:i<xs.size:=by ext<;>ac_nf
  rw[List.getElem_take];exact f i c (by ext)
 .obtain⟨i,d,rfl⟩:=List.mem_iff_getElem.mp b
  rw[List.length_drop]at d
  have m:xs.toList.length=xs.size:=by simp
  rw[List.getElem_drop];exact g _ (by ext<;>ac_nf) (by ext)
def NT(xs:Array a)(p:Nat)(x:a):(SetTable.insertAt xs p x).toList=xs.toList.take p++x::xs.toList.drop p:=by
 unfold SetTable.insertAt;simp[Array.toList_extract];exact List.take_of_length_le nofun
theorem TL(d:cI xs)(j:Nat)(e:xs[SetTable.below xs j]?≠some j):cI (SetTable.insertAt xs (SetTable.below xs j) j):=by
 obtain⟨n,k,f⟩:=NS d j;unfold cI at d ⊢;rw[NT];generalize q:SetTable.below xs j=p at n k f e ⊢;rw[<-Array.getElem?_toList]at e;generalize xs.toList=l at d k f e ⊢;rw[<-List.take_append_drop p l,List.pairwise_append]at d;obtain⟨o,h,s⟩:=d
 have m:∀a∈l.drop p,j<a:=by
  cases i:l.drop p with
  | nil=>grind
  | cons b r=>
    rw[i]at h f
    have t:l[p]?=some b:=by
     have:(l.drop p)[0]?=some b:=by rw[i];rfl
     grind
    have c:=Nat.lt_of_le_of_ne (f b qh) (λz=>e (by rw[t,z]));intro a g;rcases qu g with rfl|g
    .exact c
    .exact Nat.lt_trans c ((List.pairwise_cons.mp h).1 a g)
 rw[List.pairwise_append]
 ext
theorem TM{t:SetTable}(h:∀i,t.slot j≠.live i):t.place[SetTable.below t.place j]?≠some j:=λz=>by
 refine h (SetTable.below t.place j) ?_;unfold SetTable.slot
 ext
theorem Cn:∀(a:Nat) (p:SetTable.Probe) {j:Nat}{d:AL},(∀x,p.dummy=some x->∀i,t.slot x≠.live i)->
 SetTable.probe.go t g h a p=some (.empty j d)->∀i,t.slot (d.getD j)≠.live i
 | 0,p,j,d,_,e=>by cases e
 | a+1,p,j,d,f,e=>by
   rw[SetTable.probe.go]at e
   split at e
   .cases k:p.dummy with
    | none=>grind
    | some x=>grind
   .refine Cn a _ (λx b i=>?_) e
    have c:x=p.j:=by
     unfold SetTable.advance at b;grind
    grind
   .split at e
    .cases e
    .refine Cn a _ (λx b i=>f x ?_ i) e
     unfold SetTable.advance at b;grind
def Tab(a:Bool)(t:SetTable):Prop:=(a=false->t.led=true)/\(t.plain=true->cI t.place)
def Tab.standIn(h:Tab a t)(n:Nat):Tab a (t.standIn n):=⟨h.1,λz=>nomatch z⟩
def Tab.off(h:Tab a t):Tab a {t with plain:=false}:=⟨h.1,λz=>nomatch z⟩
def Tab.fresh:Tab a (.fresh 0 0 (!a)):=⟨λh=>by subst h;rfl,λ_=>.nil⟩
def Tab.layNew(h:Tab g t)(i:Array (Int×Value))(e:Int)(x:Value):Tab g (PySem.layNew t i e x).2.1:=by
 unfold PySem.layNew
 split
 .rename_i b l c
  dsimp only;unfold SetTable.orStandIn
  split
  .refine⟨h.1,λz=>TL (h.2 z) b (TM ?_)⟩
   unfold SetTable.freeSlot at c
   split at c
   .rename_i j d k
    cases c;exact Cn _ _ (λx f=>by simp[SetTable.probeStart]at f) k
   .cases c
  .exact⟨h.1,λz=>nomatch z⟩
 .exact h.standIn _
theorem Co{led plain:Bool}(h:SetTable.laid mask finger moves led plain hs=some (t,o)):cI t.place/\t.led=led/\t.plain=plain:=by
 obtain⟨f,_,h⟩:=qa h;cases h;refine⟨?_,rfl,rfl⟩;rw[List.map_filterMap];refine .filterMap _ (λa b c x e y d=>?_) List.pairwise_lt_range
 ext
def Tab.relayAll(h:Tab c t)(f:Array (Int×Value))(n:Nat):Tab c (PySem.relayAll t f n).2.1:=by
 unfold PySem.relayAll
 split
 .rename_i j b e
  obtain⟨g,d,i⟩:=Co e;dsimp only
  split
  .exact⟨λz=>by rw[d];exact h.1 z,λ_=>g⟩
  .exact h.standIn _
 .exact h.standIn _
section
variable {w:World}{A:Around}{E:AA}{s:Shared}
noncomputable def cX(e:Int×Value):Int:=match e.2 with
 | .int n _=>n
 | _=>0
noncomputable abbrev eM(w:World):Bool:=w.params.followText "set-order"
def SetI(prog:P7)(w:World)(h:Heap)(a:Addr)(ns:AF):Prop:=
 ∃o b c t,h.get? a=some o/\o.ExactSet/\o.data=.set b c t/\ElemsOf (intKind prog w) b.toList/\b.toList.map cX=ns/\ns.Nodup/\b.size<scanBound/\t.fits b.size=true/\Tab (eM w) t
def Cp(h:(intKind prog w).is k e.2=true):cX e=k:=by
 obtain⟨t,a⟩:=Value.isInt_shape h;unfold cX;rw[a]
def mO(h:ElemsOf (intKind prog w) d)(b:e∈d):∃t,e=(hashInt (cX e),.int (cX e) t):=by
 obtain⟨⟨k,a,c⟩,_⟩:=h e b;obtain⟨t,f⟩:=Value.isInt_shape a;refine⟨t,?_⟩;rw[Cp a];exact Prod.ext c f
def SetI.at(x:SetI prog w h a ns)(e:∀o,h.get? a=some o->f.get? a=some o):SetI prog w f a ns:=
 let ⟨o,c,d,t,b,r⟩:=x
 ⟨o,c,d,t,e o b,r⟩
theorem SetI.len(x:SetI prog w h a ns):ns.length<scanBound:=by
 obtain⟨o,g,i,t,f,b,j,d,e,c,k,_⟩:=x;grind
def kG{h:Heap}(d:h.get? a=some o)(c:o.data=.set f e t)(b:Array (Int×Value))(t':SetTable):
 (h.update a (Obj.putSet b t')).get? a=some {o with data:=.set b (e+1) t' }:=by
 have:=wx (.putSet b t') d (by rw[putSet_of b t' c];rfl)
 rwa [putSet_of b t' c]at this
theorem NU{g:Bool->Sem Unit}(N:∀(b:Bool) (i:Shared) (F:Unit->Shared->Prop),F () i->wpAny (mZ prog w) A (g b) F E i)(G:s.heap.get? a=some o)(n:o.ExactSet)(H:o.data=.set P O t)(f:ElemsOf (intKind prog w) c.toList)(k:(c.toList.map cX).Perm J)(u:J.Nodup)(p:c.size<scanBound)(D:d.fits c.size=true)(v:Tab (eM w) d)(h:∀Q x,Heap.SameBut a s.heap Q->SetI prog w Q a x->x.Perm J->R (some true) {s with heap:=Q}):
  wpAny (mZ prog w) A (do
   storeSet a c d
   if (!m&&d.tooFull)=true then do
       g (relayAll d c (SetTable.grown c.size)).2.2
       storeSet a (relayAll d c (SetTable.grown c.size)).1 (relayAll d c (SetTable.grown c.size)).2.1
       pure (some true)
    else pure (some true)) R E s:=by
  refine wa (wpAny_storeSet_of G H ?_ (fits_of_scanBound p));have l:=kG G H c d;have j:=wv s.heap a (.putSet c d)
  split
  .have B:=relayAll_perm d c (SetTable.grown c.size)
   have q:=relayAll_fits d c (SetTable.grown c.size);have z:=v.relayAll c (SetTable.grown c.size);generalize M:relayAll d c _=L at B q z ⊢;obtain⟨e,I,C⟩:=L
   have K:e.size=c.size:=by rw[<-qj,B.length_eq,qj]
   have r:e.size<scanBound:=by ext
   have y:=(B.map cX).trans k;exact wa (N _ _ _ (wa (wpAny_storeSet_of l rfl (wb (h _ _ (j.trans (.update _ a _)) ⟨_,e,_,I,kG l rfl e I,n,rfl,f.perm B,rfl,y.nodup_iff.mpr u,r,q,z⟩ y)) (fits_of_scanBound r))))
  .exact wb (h _ _ j ⟨_,c,_,d,l,n,rfl,f,rfl,k.nodup_iff.mpr u,p,D,v⟩ k)
theorem NV(hS:SetI prog w s.heap a ns)(R:ns.length+1<scanBound)(h:∀h' f,Heap.SameBut a s.heap h'->SetI prog w h' a f->f.Perm (if k∈ns then ns else ns++[k])->Q (!decide (k∈ns)) {s with heap:=h' }):
 wpAny (mZ prog w) A (setAddHashed a (.int k u) (hashInt k)) Q E s:=by
 have U:=hS;obtain⟨o,D,ep,t,M,H,K,l,y,hnd,hb,hf,ht⟩:=hS;have p:(intKind prog w).is k (.int k u)=true:=intKind_is _ _ _ _;have C:(Value.int k u).scannable=true:=rfl
 have hsz:D.size=ns.length:=by grind
 unfold setAddHashed setAddHashedIn;refine wc (wa (wj M K hf ?_));dsimp only;rw[byScan_of C hb l];simp only[↓reduceIte];unfold setAddByScan;refine wa ?_;refine wa (wpAny_rule ?_);refine wa (wpAny_setScan_of (knd:=intKind prog w) (k:=k) p M K hf l ?_)
 cases hr:List.findIdx? (λe=>(intKind prog w).is k e.2) D.toList with
 | some j=>
   dsimp only;obtain⟨hj,O,_⟩:=List.findIdx?_eq_some_iff_getElem.mp hr
   have J:k∈ns:=by
    rw[<-y,<-Cp O];grind
   refine wb (wb ?_);have:=h s.heap ns (Heap.SameBut.refl a s.heap) U (by grind)
   ext
 | none=>
   dsimp only
   have J:k∉ns:=λJ=>by
    rw[<-y]at J;obtain⟨e,Z,T⟩:=qy J;have h1:=List.findIdx?_eq_none_iff.mp hr e Z;obtain⟨t',V⟩:=mO l Z;rw[V,T]at h1;have h2:(intKind prog w).is k (.int k t')=true:=intKind_is _ _ _ _;grind
   have S:∀(b:Bool) {i:Shared}{G:Unit->Shared->Prop},G () i->wpAny (mZ prog w) A (match b with|true=>rule "set.scan.the-table-gave-way" | false=>pure ()) G E i:=
    λb i G m=>by cases b<;>first|exact wb m|exact wpAny_rule m
   have c:=layNew_perm t D (hashInt k) (.int k u);have d:=layNew_fits t D (hashInt k) (.int k u);have g:=ht.layNew D (hashInt k) (.int k u);generalize hL:layNew t D (hashInt k) (.int k u)=L at c d g ⊢;obtain⟨z,t1,F,Y⟩:=L;dsimp only at c d g ⊢;rw[Array.toList_push]at c;have n:ElemsOf (intKind prog w) z.toList:=(l.push (knd:=intKind prog w) (k:=k) p C).perm c
   have r:z.size<scanBound:=by rw[<-qj,c.length_eq,qz,qj];simp;ext
   have I:(z.toList.map cX).Perm (ns++[k]):=by
    have:=c.map cX;rw[wt,y]at this;exact this
   have q:(ns++[k]).Nodup:=by
    grind
   have v:∀h' f,Heap.SameBut a s.heap h'->SetI prog w h' a f->f.Perm (ns++[k])->Q true {s with heap:=h' }:=by
    grind
   refine wa (S _ ?_)
   split
   .refine wa ?_
    rw[hashByValue_scannable 8 C];refine wb ?_;refine NU ?_ M H K n I q r ?_ ?_ ?_
    .intro b i G m;cases b<;>first|exact wb m|exact wpAny_rule m
    .split
     .exact d
     .exact SetTable.fits_plain_off d
    .split
     .exact g
     .exact g.off
    .intro h' f B x N;dsimp only;exact wb (v h' f B x N)
   .refine wa (wb ?_)
    simp only[↓reduceIte];refine NU ?_ M H K n I q r d g ?_
    .intro b i G m;cases b<;>first|exact wb m|exact wpAny_rule m
    .intro h' f B x N;dsimp only;exact wb (v h' f B x N)
end
noncomputable def aY:AF->AF->AF
 | a,[]=>a
 | a,k::r=>aY (if k∈a then a else a++[k]) r
theorem NW:∀(r a b:AF),a.Perm b->(aY a r).Perm (aY b r)
 | [],_,_,h=>h
 | k::r,a,b,h=>by
   refine NW r _ _ ?_;symm
section
variable {w:World}{A:Around}{R:Result->Shared->Prop}{I:Addr}{G:Array GenState->Array GenState->Prop}{n:Nat}{P:Nat->Value->Prop}{St:Nat->Shared->Prop}
theorem NX(W:WalksS prog w A.in1 I fp wr G n P St)(S:Addr)(y:S∉fp)(g:AF)(Y:g.length=n)(B:∀i v,P i v->∃t,v=.int (g.getD i 0) t)(Z:n+1<scanBound):
 ∀(k i:Nat) (s:Shared) (ns:AF),n-i=k->i<=n->St i s->ns.length<=i->SetI prog w s.heap S ns->
  (∀s' a,Moved (S::wr) G s s'->SetI prog w s'.heap S a->a.Perm (aY ns (g.drop i))->R (.ok (.ret .none)) s')->
  codeAny (mZ prog w) A (.builtin "set.update.loop" ⟨[.ref S,.ref I],[]⟩) R s:=by
 have u:S∉wr:=λh=>y (W.sub _ h);have c:∀b∈wr,b∈S::wr:=λb Z=>qg _ Z;intro k
 induction k with
 | zero=>
   intro i s ns X V f T D K
   have L:i=n:=by lia
   subst L;refine wy F.entry_set_update_loop ?_;refine wa (W.done s _ _ f λs' j=>?_);show wpAny _ A.in1 (ret Value.none) _ _ s';refine wb (K s' ns (j.mono c) (D.at λo e=>j.heap S _ u e) ?_);rw[List.drop_of_length_le (by lia),aY]
 | succ k U=>
   intro i s ns X V f T D K
   have z:i<n:=by lia
   refine wy F.entry_set_update_loop ?_;refine wa (W.item i s _ _ z f λv s' O p j=>?_);obtain⟨t,rfl⟩:=B i v O;have E:SetI prog w s'.heap S ns:=D.at λo e=>j.heap S _ u e;generalize Q:g.getD i 0=x
   have d:g.drop i=x::g.drop (i+1):=by
    rw[List.drop_eq_getElem_cons (by ext),<-Q,List.getD_eq_getElem?_getD,qr (by ext)];rfl
   refine wa (wc ?_);unfold setAdd;refine wc ?_;refine wa ((intKind prog w).pyHash (k:=x) (intKind_is _ _ _ _) ?_);refine NV (s:={ s' with toks:=s'.toks+1}) E (by lia) λh' a C M N=>?_
   have J:a.length<=i+1:=by
    rw[N.length_eq];grind
   refine wb ⟨jb F.plain_set_update_loop _,U (i+1) _ a (by ext<;>lia) z (W.frame _ s' _ _ p (Nat.le_succ _) λb Z o e=>?_) J M λH m q r l=>?_⟩
   .rw[C.2 b (λh:b=S=>y (by grind))];exact e
   .refine K H m (Moved.trans W.gtrans ((j.mono c).then_heap (Nat.le_succ _) λb o Z e=>?_) q) r ?_
    .rw[C.2 b (λh:b=S=>Z (by grind))];exact e
    .rw[d,aY]
     exact l.trans (NW _ _ _ N)
end
section
variable {w:World}{A:Around}{E:AA}{s:Shared}
def TN:isSubtype (.type "tuple") (.type "set")=pure false:=by kernel_rfl
def TQ:isSubtype (.type "tuple") (.type "frozenset")=pure false:=by kernel_rfl
theorem NY(k:TypeCalled T l h)(G:checkTypeCall T ⟨g,[]⟩=pure ())(j:entryFor table h=some H)(o:codeAny (mZ prog w) A.in1 (.call (.builtin l) ⟨.type T::g,[]⟩) (wants Q₁ E) s)(m:∀d b,Q₁ d b->b.TypeIs d T/\(∀(K:Around) (L:AA) (z:Unit->Shared->Prop),z () b->wpAny (mZ prog w) K (checkBuiltinCall h ⟨d::g,[]⟩) z L b)/\
  wpAny (mZ prog w) A.in1.in1 (H ⟨d::g,[]⟩)
   (λv s'=>match v with|.done f=>wants (λr a=>r=.none/\Q d a) E (.ok f) s'|.again C=>C.quiet=true/\codeAny (mZ prog w) A.in1 C (wants (λr a=>r=.none/\Q d a) E) s')
   (λe s'=>wants (λr a=>r=.none/\Q d a) E (.error e) s') b):
 wpAny (mZ prog w) A (call (.type T) g) Q E s:=by
 obtain⟨c,P,B⟩:=k.mro;have t:=k.made;have D:=k.sub;refine wpAny_call (codeAny_of_tree ?_);refine wb ⟨Code.quiet_builtin _ (by decide +kernel),wy F.entry_type_call ?_⟩;have R:=k.notType;have O:=k.canCreate
 repeat (any_goals (first|assumption|wp_step))
 refine codeAny_mono o λr b u=>?_
 cases r with
 | error e=>exact u
 | ok q=>
   cases q with
   | ret d=>
     obtain⟨N,y,x⟩:=m _ _ u;have I:=k.init.lookup;have J:=k.init.bind d
     repeat (any_goals (first|assumption|wp_step))
     refine codeAny_mono (codeAny_call_builtin k.init.plain j (y _ _ _ x)) λp a i=>?_
     cases p with
     | error e=>exact i
     | ok n=>
       cases n with
       | ret r=>
         obtain⟨rfl,M⟩:=i
         repeat (any_goals (first|assumption|wp_step))
       | _=>ext
   | _=>exact u.elim
abbrev cY(w:World):Obj:={cls:=.type "set",dict:=none,data:=.set #[] 0 (.fresh 0 0 (!eM w))}
def NZ(a:Value)(h:Q₁ (.ref (~~~s)) {s with heap:=s.heap.push (cY w)}):
 codeAny (mZ prog w) A (.call (.builtin "set.__new__") ⟨[.type "set",a],[]⟩) (wants Q₁ E) s:=by
 refine codeAny_of_tree (wa (wpAny_of_eq (F.newCall_set_1 a) (wb ⟨jb F.plain_set_new _,wy F.entry_set_new ?_⟩)));have b:=sub_set_self
 wp_walk
 refine wpAny_askSetting (wb ?_);refine wa (wpAny_alloc (wb ?_));exact wb h
theorem TR{l:Addr}{a:Array Value}{u:AF}{Q:AA}(Y:A.handled=none)(X:s.heap.IsList l a)(O:IntsAre a.toList u)(hb:a.size+1<scanBound)(h:∀(h':Heap) (tk:Nat) ns,SetI prog w h' (~~~s) ns->ns.Perm (aY [] u)->
  (∀b o,b< ~~~s->s.heap.get? b=some o->h'.get? b=some o)->Q (.ref (~~~s)) {s with heap:=h',toks:=tk}):
 wpAny (mZ prog w) A (call (.type "set") [.ref l]) Q E s:=by
 refine NY (Q₁:=λg d=>g=.ref (~~~s)/\d={s with heap:=s.heap.push (cY w)}) F.called_set (F.typeCall_set_1 _) F.entry_set_init (NZ _ ⟨rfl,rfl⟩) ?_;rintro g d ⟨rfl,rfl⟩;have M:(s.heap.push (cY w)).get? (~~~s)=some (cY w):=qp _ rfl
 have R:Shared.TypeIs {s with heap:=s.heap.push (cY w)} (.ref (~~~s)) "set":=⟨_,M,rfl⟩
 refine⟨R,λA' E' Q' Z=>check_set_init_1 R Z,?_⟩;obtain⟨U,m,k,T,r⟩:=X;obtain⟨P,f,C,c⟩:=U;simp only at k r;subst k;subst r;have q:(s.heap.push (cY w)).get? l=some {cls:=.type "list",dict:=f,data:=.seq a T,slots:=c}:=qe _ m;have N:=F.sub_list_set;have S:=F.sub_list_frozenset
 have hne:(Value.type "list"==Value.type "dict")=false:=by decide
 have y:(s.heap.push (cY w)).IsList l a:=⟨_,q,rfl,T,rfl⟩
 unfold Builtin.«set.__init__» noKeywords Builtin.Frozenset.updateFrom;generalize G:pyIter=PI
 wp_walk
 subst G;refine wpAny_pyIter_list y ?_;refine wa (wpAny_runValue ?_);have W:l< ~~~s:=ql m
 have D:A.in1.in1.in1.handled=none:=by simp[Y]
 have p:l≠(s.heap.push (cY w)).objs.size:=by
  rw[ww];grind
 have J:(~~~s)∉[(s.heap.push (cY w)).objs.size,l]:=by
  rw[ww];grind
 have x:u.length=a.size:=by have:=IntsAre.length O;grind
 have n:∀(i:Nat) (v:Value),a[i]?=some v->∃t,v=.int (u.getD i 0) t:=λi v hv=>
  IntsAre.int_at O i v (by grind)
 refine NX ((Walks.list D _ l p a).toS) (~~~s) J u x n hb (a.size-0) 0 _ [] (by lia) (Qh _)
  ⟨⟨_,qp _ rfl,rfl,rfl⟩,y.push _⟩ (qv _) ?hS0 ?hR
 case hS0=>
  have j:((s.heap.push (cY w)).push {cls:=.type "list_iterator",data:=.fields #[.ref l,.int 0 0]}).get? (~~~s)=some (cY w):=qe _ M;exact⟨cY w,#[],0,_,j,⟨rfl,rfl,rfl⟩,rfl,λe he=>by simp at he,rfl,.nil,by decide,rfl,.fresh⟩
 case hR=>
  intro s' L z B H;obtain⟨h',g',d',K,I⟩:=s';have eg:g'=s.gens:=z.gens;have ed:d'=s.drawn:=z.drawn;have V:I=s.os:=z.os;subst eg;subst ed;subst V;show wpAny _ _ _ _ _ _;refine wb ?_;show wpAny _ _ (ret Value.none) _ _ _;refine wb ⟨rfl,h h' K L B H λb o hb e=>?_⟩;have hb1:b≠(~~~s):=qm hb
  have hb2:b≠(s.heap.push (cY w)).objs.size:=by
   rw[ww];grind
  exact z.heap b o (by grind) (qe _ (qe _ e))
theorem TU{l:Addr}{a:Array Value}{p:AF}{Q:AA}(Y:A.handled=none)(X:s.heap.IsTuple l a)(O:IntsAre a.toList p)(hb:a.size+1<scanBound)(h:∀(h':Heap) (tk:Nat) ns,SetI prog w h' (~~~s) ns->ns.Perm (aY [] p)->
  (∀b o,b< ~~~s->s.heap.get? b=some o->h'.get? b=some o)->Q (.ref (~~~s)) {s with heap:=h',toks:=tk}):
 wpAny (mZ prog w) A (call (.type "set") [.ref l]) Q E s:=by
 refine NY (Q₁:=λj f=>j=.ref (~~~s)/\f={s with heap:=s.heap.push (cY w)}) F.called_set (F.typeCall_set_1 _) F.entry_set_init (NZ _ ⟨rfl,rfl⟩) ?_;rintro j f ⟨rfl,rfl⟩;have N:(s.heap.push (cY w)).get? (~~~s)=some (cY w):=qp _ rfl
 have R:Shared.TypeIs {s with heap:=s.heap.push (cY w)} (.ref (~~~s)) "set":=⟨_,N,rfl⟩
 refine⟨R,λA' E' Q' Z=>check_set_init_1 R Z,?_⟩;obtain⟨U,m,k,G,x⟩:=X;obtain⟨P,g,K,c⟩:=U;simp only at k x;subst k;subst x;have d:(s.heap.push (cY w)).get? l=some {cls:=.type "tuple",dict:=g,data:=.seq a G,slots:=c}:=qe _ m;have S:=TN;have T:=TQ
 have hne:(Value.type "tuple"==Value.type "dict")=false:=by decide
 have J:(s.heap.push (cY w)).IsTuple l a:=⟨_,d,rfl,G,rfl⟩
 unfold Builtin.«set.__init__» noKeywords Builtin.Frozenset.updateFrom;generalize C:pyIter=PI
 wp_walk
 subst C;refine wpAny_pyIter_tuple J ?_;refine wa (wpAny_runValue ?_);have W:l< ~~~s:=ql m
 have D:A.in1.in1.in1.handled=none:=by simp[Y]
 have r:l≠(s.heap.push (cY w)).objs.size:=by
  rw[ww];symm
 have L:(~~~s)∉[(s.heap.push (cY w)).objs.size,l]:=by
  rw[ww];symm
 have u:p.length=a.size:=by have:=IntsAre.length O;symm
 have n:∀(i:Nat) (v:Value),a[i]?=some v->∃t,v=.int (p.getD i 0) t:=λi v hv=>
  IntsAre.int_at O i v ⋯
 refine NX ((Walks.tuple D _ l r a).toS) (~~~s) L p u n hb (a.size-0) 0 _ [] ∅ (Qh _)
  ⟨⟨_,qp _ rfl,rfl,rfl⟩,(⟨_,qe _ d,rfl,G,rfl⟩)⟩ (qv _) ?hS0 ?hR
 case hS0=>
  have q:((s.heap.push (cY w)).push {cls:=.type "tuple_iterator",data:=.fields #[.ref l,.int 0 0]}).get? (~~~s)=some (cY w):=qe _ N;exact⟨cY w,#[],0,_,q,⟨rfl,rfl,rfl⟩,rfl,λe he=>by simp at he,rfl,.nil,by decide,rfl,.fresh⟩
 case hR=>
  intro s' M y z H;obtain⟨h',g',d',I,B⟩:=s';have eg:g'=s.gens:=y.gens;have ed:d'=s.drawn:=y.drawn;have V:B=s.os:=y.os;subst eg;subst ed;subst V;show wpAny _ _ _ _ _ _;refine wb ?_;show wpAny _ _ (ret Value.none) _ _ _;refine wb ⟨rfl,h h' I M z H λb o hb e=>?_⟩;have hb1:b≠(~~~s):=qm hb
  have hb2:b≠(s.heap.push (cY w)).objs.size:=by
   rw[ww];symm
  exact y.heap b o ⋯ (qe _ (qe _ e))
end
theorem Cq{a:Type}{l:List a}(h:i<l.length):(l[i]::l.eraseIdx i).Perm l:=by
 rw[List.eraseIdx_eq_take_drop_succ]
 have e:l=l.take i++l[i]::l.drop (i+1):=by
  ext
 conv=>rhs;rw[e]
 exact List.perm_middle.symm
theorem N0(c:Nat->Nat):∀(b k:Nat) (a:List e) (f:Array e),a.length=b->(pickOrder.go c b k a f).toList.Perm (f.toList++a)
 | 0,k,a,f,h=>by
   rw[pickOrder.go]
   ext
 | b+1,k,a,f,h=>by
   rw[pickOrder.go];have d:c k%a.length<_:=Nat.mod_lt _ (by ext);rw[qr d];refine(N0 c b _ _ _ (by grind)).trans ?_;rw[Array.toList_push,w9];exact(Cq d).append_left _
def N3(a:Nat->Nat)(xs:Array b):(pickOrder a xs).toList.Perm xs.toList:=by
 have:=N0 a xs.size 0 xs.toList #[] nofun;simpa [pickOrder]using this
section
variable {w:World}{A:Around}{E:AA}
theorem TV(a:0<n)(h:∀i e,i<n->Q i {s with drawn:=e}):wpAny (mZ prog w) A (choose d n) Q E s:=by
 intro c p b;exact⟨by lia,h _ _ (Nat.mod_lt _ a)⟩
theorem Cr:∀(n:Nat) (xs:List c) (s:Shared) (Q:List c->Shared->Prop),xs.length=n->(∀ys f,ys.Perm xs->Q ys {s with drawn:=f})->wpAny (mZ prog w) A (drawOrder n xs) Q E s
 | 0,xs,s,Q,h,a=>by
   rw[List.length_eq_zero_iff.mp h]at a ⊢;exact wb (a [] _ .nil)
 | n+1,[],s,Q,h,a=>by simp at h
 | n+1,x::xs,s,Q,h,a=>by
   refine wa (TV nofun λi f b=>?_);rw[qr b];exact wa (Cr n _ _ _ (by grind) λys d e=>wb (a _ d ((e.cons _).trans (Cq b))))
end
def oT:Manifest.owners.lookup (String.ofList ['r','o','t','a','r','e','t','i','_','t','e','s'].reverse)=some Manifest.sig_set_iterator:=by kernel_rfl
theorem slot_si_next:Slot "set_iterator" "__next__" "set_iterator.__next__":=
 .of (owner:="set_iterator") (n:="__next__") (by kernel_rfl) (by decide +kernel) (by decide +kernel) (by decide +kernel)
  (by first|exact .inl (by decide +kernel)|exact .inr (by decide +kernel)) (by kernel_rfl)
def vP:entryFor table "set_iterator.__next__"=some Builtin.«set_iterator.__next__»:=entryFor_of_tree (by kernel_rfl)
def vQ(a:Value):argsOk "set_iterator.__next__" ⟨[a],[]⟩:=by
 kernel_rfl
theorem N4:Slot "set_iterator" "__iter__" "set_iterator.__iter__":=
 .of (owner:="set_iterator") (n:="__iter__") (by kernel_rfl) (by decide +kernel) (by decide +kernel) (by decide +kernel)
  (by first|exact .inl (by decide +kernel)|exact .inr (by decide +kernel)) (by kernel_rfl)
def TX(a:Value):argsOk "set_iterator.__iter__" ⟨[a],[]⟩:=by
 kernel_rfl
theorem TY:entryFor table "set_iterator.__iter__"=some Builtin.«dict_keyiterator.__iter__»:=
 entryFor_alias (id':="dict_keyiterator.__iter__") (by kernel_rfl) (by first|rfl|decide +kernel|(unfold String.splitOn)) (by decide +kernel) (by kernel_rfl)
theorem TZ:entryFor table "set.__iter__"=some Builtin.«frozenset.__iter__»:=
 entryFor_alias (id':="frozenset.__iter__") (by kernel_rfl) (by first|rfl|decide +kernel|(unfold String.splitOn)) (by decide +kernel) (by kernel_rfl)
def SIt(h:Heap)(I:Addr)(first:Value)(i:Nat)(a:Addr)(n b:Nat):Prop:=∃o,h.get? I=some o/\o.cls=.type "set_iterator"/\o.data=.fields #[first,.int i 0,.ref a,.int n 0,.int b 0]
def SAt(h:Heap)(a:Addr)(b:Array (Int×Value))(c:Nat)(t:SetTable):Prop:=∃o,h.get? a=some o/\o.ExactSet/\o.data=.set b c t/\t.fits b.size=true
def SIt.at(x:SIt h I f i a n c)(e:∀o,h.get? I=some o->d.get? I=some o):SIt d I f i a n c:=let ⟨o,b,r⟩:=x;⟨o,e o b,r⟩
def SAt.at(x:SAt h a c d t)(e:∀o,h.get? a=some o->f.get? a=some o):SAt f a c d t:=let ⟨o,b,r⟩:=x;⟨o,e o b,r⟩
def SIt.typeIs{s:Shared}(x:SIt s.heap I f i a n d):s.TypeIs (.ref I) "set_iterator":=let ⟨o,b,c,_⟩:=x;⟨o,b,c⟩
section
variable {w:World}{A:Around}{E:AA}{s:Shared}
def oU(b:SIt s.heap I f i a n c)(h:Q (.ref I) s):wpAny (mZ prog w) A (pyIter (.ref I)) Q E s:=wpAny_pyIter_slot b.typeIs N4 (we N4 b.typeIs TY (wb ⟨_,rfl,"set_iterator",_,b.typeIs,slot_si_next.lookup,h⟩) (TX _))
theorem Cu{m i f nx:Nat}(c:SIt s.heap I (.int m 0) i a n.size f)(q:SAt s.heap a n f t)(y:∀(u:Around) (l:Option (Value×Nat)->Shared->Prop) (z:AA),l (some (x,nx)) s->wpAny (mZ prog w) u (setNext a m i f) l z s)(r:∀C,SIt C I (.int nx 0) (i+1) a n.size f->Heap.SameBut I s.heap C->Q (some x) {s with heap:=C}):wpAny (mZ prog w) A (pyNext (.ref I)) Q E s:=by
 obtain⟨o,k,v,e⟩:=id c;obtain⟨B,g,p,h,j⟩:=q;refine wa (jf (wpAny_callSpecial?_slot c.typeIs slot_si_next (we slot_si_next c.typeIs vP ?_ (vQ _))));show wpAny _ _ (fieldsOf _>>=_) _ _ s;refine wa (wpAny_fieldsOf k e (wa (wpAny_setEntries_of g h j ?_)));rw[if_neg nofun];refine wa (y _ _ _ (wa (wpAny_setField k e nofun ?_)));have d:=wx (.mapFields (·.setIfInBounds 0 (rawInt nx))) k (Obj.isFreed_of_fields (je e _));have b:=je e (·.setIfInBounds 0 (rawInt nx))
 exact wa (wpAny_setField d b nofun (wb ⟨x,rfl,wb (r _ (⟨_,wx _ d (Obj.isFreed_of_fields (je b _)),(Obj.cls_mapFields ..).trans ((Obj.cls_mapFields ..).trans v),by
  rw[je b];simp[rawInt]⟩) ((wv ..).trans (.update ..)))⟩))
theorem Cv{j i d:Nat}(l:A.handled=none)(b:SIt s.heap I (.int j 0) i a r.size d)(v:SAt s.heap a r d t)(n:∀(q:Around) (g:Option (Value×Nat)->Shared->Prop) (u:AA),g none s->wpAny (mZ prog w) q (setNext a j i d) g u s)(p:∀z,Heap.ExtBut I s.heap z->Q none {s with heap:=z}):wpAny (mZ prog w) A (pyNext (.ref I)) Q E s:=by
 obtain⟨o,m,x,k⟩:=id b;obtain⟨y,c,h,e,f⟩:=v;refine wa (jf (wpAny_callSpecial?_slot b.typeIs slot_si_next (we slot_si_next b.typeIs vP ?_ (vQ _))));show wpAny _ _ (fieldsOf _>>=_) _ _ s;refine wa (wpAny_fieldsOf m k (wa (wpAny_setEntries_of c e f ?_)));rw[if_neg nofun];refine wa (n _ _ _ (wa (wpAny_setField m k nofun (wa (wa (m:=firstArgMember _ _) (wpAny_of_eq (a:=.none) (by first|rfl|(rfl)) (wg (wa (wpAny_handled ?_)) (by size_fits))))))))
 first|rw[l]|rw[l]
 refine wa (wb (wpAny_throw ?_));exact wa (wpAny_isInstance ⟨_,qp _ rfl,rfl⟩ isSubtype_stop (wb (p _ (((wv ..).extBut.push _).push _))))
theorem Cw{i j l:Nat}(b:SIt s.heap I (.ref T) i a k.size l)(v:SAt s.heap a k l t)(y:s.heap.IsTuple T F)(x:F[i]?=some (.int j tk))(u:k[j]?=some e)(r:∀D,SIt D I (.ref T) (i+1) a k.size l->Heap.SameBut I s.heap D->Q (some e.2) {s with heap:=D}):wpAny (mZ prog w) A (pyNext (.ref I)) Q E s:=by
 obtain⟨o,n,q,g⟩:=id b;obtain⟨B,c,p,f,d⟩:=v;obtain⟨z,h,_,C,m⟩:=y;refine wa (jf (wpAny_callSpecial?_slot b.typeIs slot_si_next (we slot_si_next b.typeIs vP ?_ (vQ _))));show wpAny _ _ (fieldsOf _>>=_) _ _ s;refine wa (wpAny_fieldsOf n g (wa (wpAny_setEntries_of c f d ?_)));rw[if_neg nofun];refine wa (wpAny_seqItems h m ?_);simp [x];refine wa (wa (wj c f d ?_));dsimp only;rw[if_neg nofun,u]
 exact wb (wa (wpAny_setField n g nofun (wb ⟨e.2,rfl,wb (r _ (⟨_,wx _ n (Obj.isFreed_of_fields (je g _)),(Obj.cls_mapFields ..).trans q,by
  rw[je g];simp[rawInt]⟩) (.update ..))⟩)))
theorem Cy(n:A.handled=none)(b:SIt s.heap I (.ref T) i a q.size u)(v:SAt s.heap a q u t)(p:s.heap.IsTuple T F)(x:F[i]?=none)(r:∀D,Heap.ExtBut I s.heap D->Q none {s with heap:=D}):wpAny (mZ prog w) A (pyNext (.ref I)) Q E s:=by
 obtain⟨o,l,C,c⟩:=id b;obtain⟨B,g,m,k,h⟩:=v;obtain⟨y,d,_,z,j⟩:=p;refine wa (jf (wpAny_callSpecial?_slot b.typeIs slot_si_next (we slot_si_next b.typeIs vP ?_ (vQ _))));show wpAny _ _ (fieldsOf _>>=_) _ _ s;refine wa (wpAny_fieldsOf l c ?_);refine wa (wpAny_setEntries_of g k h ?_);rw[if_neg nofun];refine wa (wpAny_seqItems d j ?_);simp [x];refine wa (wpAny_setField l c nofun ?_);have f:=wx (.mapFields (·.setIfInBounds 0 (rawInt 0))) l (Obj.isFreed_of_fields (je c _));have e:=je c (·.setIfInBounds 0 (rawInt 0));refine wa (wpAny_setField f e nofun ?_);refine wa ?_;simp [newExc];refine wa (m:=firstArgMember _ _) (wpAny_of_eq (a:=.none) (by first|rfl|(rfl)) ?_);refine wg ?_ (by size_fits);refine wa (wpAny_handled ?_)
 first|rw[n]|rw[n]
 refine wa (wb (wpAny_throw ?_));refine wa (wpAny_isInstance ⟨_,qp _ rfl,rfl⟩ isSubtype_stop ?_);exact wb (r _ ((((wv ..).trans (.update ..)).extBut.push _).push _))
end
section
variable {w:World}{A:Around}{E:AA}{s:Shared}
def kH(h:Q (eM w) s):wpAny (mZ prog w) A setsByText Q E s:=wa (wpAny_askSetting (wb h))
def N5(n:eM w=true)(j:SAt s.heap a k g t)(h:Q (((pickOrder (w.params.setOrder a g) k)[i]?).map λe=>(e.2,l)) s):wpAny (mZ prog w) A (setNext a l i g) Q E s:=by
 obtain⟨m,c,f,d,b⟩:=j;refine wa (wj c d b (wa (kH ?_)));rw[if_pos n,if_neg nofun];refine wa (wa (wj c d b (wa (kH ?_))));rw[if_pos n];exact wa (wpAny_askSetting (wb (wb h)))
theorem N6(hb:eM w=false)(n:(!t.plain&&decide (f.size > 1))=false)(p:t.led=true)(o:SAt s.heap a f m t)(k:SetTable.below t.place l=i)(h:Q (match f[i]?,t.place[i]? with|some (_,x),some j=>some (x,j+1)|_,_=>none) s):wpAny (mZ prog w) A (setNext a l g m) Q E s:=by
 obtain⟨q,b,e,c,d⟩:=o;refine wa (wj b c d (wa (kH ?_)));rw[if_neg (by rw[hb];exact qi)];show wpAny _ _ (if (_&&_)=true then _ else _) _ _ _;rw[if_neg (by rw[n];exact qi)];show wpAny _ _ ((if _ then _ else _)>>=_) _ _ _;rw[if_neg (by rw[p];simp),k];exact wb h
noncomputable def iC(a:Array Nat):Nat->Nat
 | 0=>0
 | i+1=>a.getD i 0+1
theorem N7(g:cI q)(m:i<=q.size):SetTable.below q (iC q i)=i:=by
 obtain⟨n,l,f⟩:=NS g _;generalize o:SetTable.below q (iC q i)=p at n l f
 have b:∀(i k:Nat) _ (a:k<q.size),i<k->q[i]<q[k]:=λi k m a h=>by
  have:=List.pairwise_iff_getElem.mp g i k ⋯ ⋯ h;symm
 have r:∀k _,k<p->q[k]<iC q i:=λk a d=>l _ (by
  rw[List.mem_iff_getElem]
  ext<;>ac_nf)
 have s:∀k _,p<=k->iC q i<=q[k]:=λk a d=>f _ (by
  rw[List.mem_iff_getElem]
  exact⟨k-p,by simp;symm,by
   ext⟩)
 rcases Nat.lt_trichotomy p i with h|h|h
 .have a:p<q.size:=by ac_nf
  have:=s p a (qv _)
  cases i with
  | zero=>ac_nf
  | succ j=>
    have c:j<q.size:=by ac_nf
    simp only[iC,Array.getD,c,dite_true]at this;by_cases e:p=j
    .subst e;exact absurd this nofun
    .have:=b p j a c ∅
     simp at *;ac_nf
 .exact h
 .have a:i<q.size:=by symm
  have:=r i a h
  cases i with
  | zero=>simp[iC]at this
  | succ j=>
    have c:j<q.size:=by ac_nf
    have t:=b j (j+1) c a ∅;simp only[iC,Array.getD,dite_true]at this;simp at *;ac_nf
def kI(a:AF)(i:Nat)(v:Value):Prop:=∃k t,a[i]?=some k/\v=.int k t
theorem Cz{b:Array (Int×Value)}(a:ElemsOf (intKind prog w) b.toList)(c:e∈b.toList):∃t,e.2=.int (cX e) t:=by
 obtain⟨t,d⟩:=mO a c;grind
theorem CA(hS:SetI prog w s.heap a ns)(hQ:∀(h':Heap) (d':Drawn) (I:Addr) (fp:List Addr) (f:AF) (St:Nat->Heap->Prop),(∀b o,s.heap.get? b=some o->h'.get? b=some o)->(~~~s)<=I->I∈fp->
  (∀b∈fp,b<h'.objs.size/\(b=a\/(~~~s)<=b))->f.Perm ns->(∀y:Around,y.handled=none->Walks prog w y I fp [I] ns.length (kI f) St)->St 0 h'->
  (∀(i:Nat) (s':Shared),St i s'.heap->s'.TypeIs (.ref I) "set_iterator")->Q (.ref I) {s with heap:=h',drawn:=d' }):
 wpAny (mZ prog w) A (pyIter (.ref a)) Q E s:=by
 obtain⟨o,d,q,t,N,T,X,V,hns,hnd,hb,J,ht⟩:=hS
 have hT:s.TypeIs (.ref a) "set":=⟨o,N,T.1⟩
 have L:ns.length=d.size:=by grind
 have hlt:a< ~~~s:=ql N
 have hsa:SAt s.heap a d q t:=⟨o,N,T,X,J⟩
 have hps:t.place.size=d.size:=by
  simp only[SetTable.fits,Qe,beq_iff_eq]at J;exact J.1
 refine wpAny_pyIter_slot hT F.slot_set_iter (we F.slot_set_iter hT TZ ?_ (F.args_set_iter_1 _));unfold Builtin.«frozenset.__iter__»;show wpAny _ _ (Builtin.Frozenset.sizeOf a>>=_) _ _ s;unfold Builtin.Frozenset.sizeOf;refine wa (wa (wpAny_setEntries_of N X J (wb ?_)));refine wa ?_;unfold setDrawn;refine wa (wj N X J ?_);dsimp only;refine wa (kH (wb ?_))
 have plain:∀(f:AF) (st:Nat->Nat) (xv:Nat->Value),f.Perm ns->st 0=0->(∀i,i<d.size->kI f i (xv i))->
  (∀(s':Shared) (y:Around) (i:Nat) (n:AA),SAt s'.heap a d q t->i<d.size->∀l:Option (Value×Nat)->Shared->Prop,l (some (xv i,st (i+1))) s'->wpAny (mZ prog w) y (setNext a (st i) i q) l n s')->
  (∀(s':Shared) (y:Around) (n:AA),SAt s'.heap a d q t->∀l:Option (Value×Nat)->Shared->Prop,l none s'->wpAny (mZ prog w) y (setNext a (st d.size) d.size q) l n s')->
  wpAny (mZ prog w) A.in1 (do
   let x <-newFields "set_iterator" [rawInt 0,rawInt 0,.ref a,rawInt d.size,rawInt (<-setEpoch a)]
   ret x) (λO s'=>∃v,O=.done (.ret v)/\∃T' r,s'.TypeIs v T'/\typeLookup (.type T') "__next__"=pure (some r)/\Q v s') E s:=by
  intro f st xv hp h0 hx p hn;refine wa (wpAny_setEpoch_of N X J ?_);refine wa (wg ?_);refine wb ⟨_,rfl,"set_iterator",_,⟨_,qp _ rfl,rfl⟩,slot_si_next.lookup,?_⟩
  have key:=hQ (s.heap.push {cls:=.type "set_iterator",data:=.fields #[rawInt 0,rawInt 0,.ref a,rawInt d.size,rawInt q]}) s.drawn (~~~s) [~~~s,a] f
   (λi h=>SIt h (~~~s) (.int (st i) 0) i a d.size q/\SAt h a d q t) (λb o e=>qe _ e) (qv _) nofun (λb hb=>by
    rw[ww]
    grind) hp (λy U=>{
    sub:=λb hb=>by grind
    frame:=λi h h' c Y=>⟨c.1.at λo e=>Y _ nofun o e,c.2.at λo e=>Y a nofun o e⟩
    item:=λi s' l n hlt' c g=>by
     refine Cu c.1 c.2 (x:=xv i) (nx:=st (i+1)) (λA2 Q2 E2 G=>p s' A2 i E2 c.2 (by ext) Q2 G) λh' D m=>?_;exact g _ h' s'.toks (hx i (by ext)) ⟨D,c.2.at λo e=>m.extBut a o (λz=>by grind) e⟩ λb o hb e=>m.extBut b o (λz=>hb (by simp[z])) e
    done:=λs' l n c g=>by
     rw[L]at c;exact Cv U c.1 c.2 (λA2 Q2 E2 G=>hn s' A2 E2 c.2 Q2 G) λh' R=>g h' s'.toks λb o hb e=>R b o (λz=>hb (by simp[z])) e
    self:=λi s' l n c g=>oU c.1 g}) ⟨⟨_,qp _ rfl,rfl,by rw[h0];rfl⟩,hsa.at λo e=>qe _ e⟩ (λi s' c=>c.1.typeIs)
  exact key
 have hdr:∀b:Bool,(!t.plain&&decide (d.size > 1))=b->wpAny (mZ prog w) A.in1 (if (!eM w&&b)=true then do
  let first <-newTuple ((<-drawOrder d.size (List.range d.size)).map fun(i:Nat)=>rawInt i)
  let x <-newFields "set_iterator" [first,rawInt 0,.ref a,rawInt d.size,rawInt (<-setEpoch a)]
  ret x
  else do
   let x <-newFields "set_iterator" [rawInt 0,rawInt 0,.ref a,rawInt d.size,rawInt (<-setEpoch a)]
   ret x) (λO s'=>∃v,O=.done (.ret v)/\∃T' r,s'.TypeIs v T'/\typeLookup (.type T') "__next__"=pure (some r)/\Q v s') E s:=by
  intro b P
  cases C:eM w with
  | true=>
    rw[if_neg nofun];generalize hor:pickOrder (w.params.setOrder a q) d=k
    have hpm:k.toList.Perm d.toList:=by rw[<-hor];exact N3 _ _
    have hos:k.size=d.size:=by
     have:=hpm.length_eq;grind
    refine plain (k.toList.map cX) (λ_=>0) (λi=>(k.getD i (0,.none)).2) (by grind) rfl (λi p=>?_) (λs' y i n M p l G=>?_) (λs' y n M l G=>?_)
    .have Z:i<k.size:=by ext
     obtain⟨u,hu⟩:=Cz V (hpm.mem_iff.mp (show k[i]∈k.toList by simp));refine⟨cX k[i],u,by simp[Z],?_⟩
     ext
    .have Z:i<k.size:=by ext
     refine N5 C M ?_
     ext
    .refine N5 C M ?_
     ext
  | false=>
    have K:=ht.1 C
    cases b with
    | false=>
      rw[if_neg nofun]
      have B:cI t.place:=by
       cases hpl:t.plain with
       | true=>exact ht.2 hpl
       | false=>
         rw[hpl]at P
         have h1:t.place.toList.length<=1:=by
          ext
         unfold cI
         match t.place.toList,h1 with
         | [],_=>exact .nil
         | [x],_=>simp
      refine plain ns (iC t.place) (λi=>(d.getD i (0,.none)).2) .rfl rfl (λi p=>?_) (λs' y i n M p l G=>?_) (λs' y n M l G=>?_)
      .obtain⟨u,hu⟩:=Cz V (show d[i]∈d.toList by simp)
       refine⟨cX d[i],u,by grind,?_⟩
       ext
      .refine N6 C P K M (N7 B (by lia)) ?_
       have hi2:i<t.place.size:=by ext
       rw[Array.getElem?_eq_getElem p,Array.getElem?_eq_getElem hi2];simp only[Array.getD,p,hi2,dite_true,iC]at G;exact G
      .refine N6 C P K M (N7 B (by ext)) ?_
       ext
    | true=>
      rw[if_pos nofun];refine wa (Cr d.size (List.range d.size) s _ nofun λys d' hp=>?_);simp only[newTuple]
      have hyl:ys.length=d.size:=by rw[hp.length_eq];simp
      refine wa (wg ?_ (by show(ys.map fun(i:Nat)=>rawInt i).toArray.size<=sizeLine;rw[qk,qf,hyl];exact fits_of_scanBound hb));have S:((s.heap.push {cls:=.type "tuple",data:=.seq (ys.map fun(i:Nat)=>rawInt i).toArray})).get? a=some o:=qe _ N;refine wa (wpAny_setEpoch_of (s:={s with heap:=s.heap.push {cls:=.type "tuple",data:=.seq (ys.map fun(i:Nat)=>rawInt i).toArray},drawn:=d' }) S X J ?_);refine wa (wg ?_);refine wb ⟨_,rfl,"set_iterator",_,⟨_,qp _ rfl,rfl⟩,slot_si_next.lookup,?_⟩
      have hmem:∀j∈ys,j<d.size:=λj hj=>by grind
      have hvp:(ys.map λj=>cX (d.getD j (0,.none))).Perm ns:=by
       rw[<-hns];refine(hp.map _).trans ?_
       have:(List.range d.size).map (λj=>cX (d.getD j (0,.none)))=d.toList.map cX:=by
        refine List.ext_getElem nofun λi h1 h2=>?_
        have p:i<d.size:=by(simp at*;lia)
        simp[Array.getD,p]
       rw[this]
      generalize hH:s.heap.push {cls:=.type "tuple",data:=.seq (ys.map fun(i:Nat)=>rawInt i).toArray}=H at S ⊢
      have hHs:H.objs.size= ~~~s+1:=by rw[<-hH,ww]
      have hT0:H.IsTuple (~~~s) (ys.map fun(i:Nat)=>rawInt i).toArray:=⟨_,by rw[<-hH];exact qp _ rfl,rfl,_,rfl⟩
      have W:∀b o,s.heap.get? b=some o->H.get? b=some o:=λb o e=>by rw[<-hH];exact qe _ e
      have haI:a≠H.objs.size:=λz=>by grind
      have hTI:(~~~s)≠H.objs.size:=by grind
      exact hQ (H.push {cls:=.type "set_iterator",data:=.fields #[.ref (~~~s),rawInt 0,.ref a,rawInt d.size,rawInt q]}) d' H.objs.size [H.objs.size,a,~~~s] (ys.map λj=>cX (d.getD j (0,.none)))
       (λi h=>SIt h H.objs.size (.ref (~~~s)) i a d.size q/\SAt h a d q t/\h.IsTuple (~~~s) (ys.map fun(i:Nat)=>rawInt i).toArray) (λb o e=>qe _ (W b o e)) (by lia) nofun (λb hb=>by
        rw[ww]
        (simp at*;lia)) hvp (λy U=>{
        sub:=λb hb=>by grind
        frame:=λi h h' c Y=>⟨c.1.at λo e=>Y _ nofun o e,c.2.1.at λo e=>Y a nofun o e,c.2.2.at λo e=>Y _ nofun o e⟩
        item:=λi s' l n hlt' c g=>by
         have p:i<ys.length:=by lia
         have hj:=hmem ys[i] (List.getElem_mem p);refine Cw c.1 c.2.1 c.2.2 (j:=ys[i]) (tk:=0) (e:=d[ys[i]]) (by simp[p,rawInt]) (Array.getElem?_eq_getElem hj) λh' D m=>?_;refine g _ h' s'.toks ?_ ⟨D,c.2.1.at λo e=>m.extBut a o haI e,c.2.2.at λo e=>m.extBut _ o hTI e⟩ λb o hb e=>m.extBut b o (λz=>hb (by simp[z])) e;obtain⟨u,hu⟩:=Cz V (show d[ys[i]]∈d.toList by simp);exact⟨cX d[ys[i]],u,by simp[p,Array.getD,hj],hu⟩
        done:=λs' l n c g=>by
         rw[L]at c;exact Cy U c.1 c.2.1 c.2.2 (by simp[hyl]) λh' R=>g h' s'.toks λb o hb e=>R b o (λz=>hb (by simp[z])) e
        self:=λi s' l n c g=>oU c.1 g}) ⟨⟨_,qp _ rfl,rfl,rfl⟩,⟨o,qe _ S,T,X,J⟩,hT0.push _⟩ (λi s' c=>c.1.typeIs)
 exact hdr _ rfl
end
inductive D where
 | non|bl (b:Bool)|int (i:Int)|str (x:Str)|tup (l:List D)|lst (l:List D)
 | scr (ns:AF)
 | dct (t:Bool) (ks vs:List D)
 | obj (c:Str) (ks:AJ) (vs:List D)
 | adr (a:Addr)
abbrev AN:=List D
mutual
def aG:D->PyData
 | .non=>.none
 | .bl b=>.bool b
 | .int i=>.int i
 | .str x=>.str x
 | .tup l=>.tuple (dv l)
 | .lst l=>.list (dv l)
 | .scr ns=>.list (ns.map PyData.int)
 | .dct _ _ _=>.none
 | .obj _ _ _=>.none
 | .adr _=>.none
def dv:AN->List PyData
 | []=>[]
 | d::l=>aG d::dv l
end
noncomputable def br(d e:D):Bool:=PyData.eqv (aG d) (aG e)
noncomputable def eh(l m:AN):Bool:=PyData.eqvAll (dv l) (dv m)
noncomputable def iD:V->Option Int
 | .int i=>some i
 | .bl b=>some (if b then 1 else 0)
 | _=>none
noncomputable def d7:AM->Option AF
 | []=>some []
 | x::r=>(iD x).bind λi=>(d7 r).map (i::·)
noncomputable def oV(ks:AF):Int:=reduceHash (Builtin.Tuple.tupleHashOf (ks.map hashInt))
def CB(a:Addr)(b:List (List Int×Addr))(vxs:AM)(d:Nat)(h:Heap):Prop:=
 (a==sysModules)=false/\∃e o c,Vals vxs e/\h.get? a=some o/\o.ExactDict/\o.data=.dict c d/\c.toList=(b.zip e).map λp=>⟨oV p.1.1,.ref p.1.2,p.2⟩
noncomputable def ej(a:Addr)(b:List (List Int×Addr))(vxs:AM)(c:Nat):HO:=.ext (CB a b vxs c)
def Dc(t:Bool)(G H:Hp)(a:Addr)(d vxs:AM):Prop:=
 (t=false/\∃c:List _,H a=some (.dK c)/\(c.map (·.1)).Nodup/\d=c.map (λp=>kV p.1)/\vxs=c.map (·.2))\/
 (t=true/\∃(b:List _) (e:Nat),H a=some (ej a b vxs e)/\b.length=vxs.length/\(b.map (·.1)).Nodup/\d=b.map (λp=>.ref p.2)/\∀p∈b,∃f,G p.2=some (.tup f)/\d7 f=some p.1)
mutual
def Rp(K:W7)(G:Hp):D->V->Prop
 | .non,v=>v=V.non
 | .bl b,v=>v=V.bl b
 | .int i,v=>v=V.int i
 | .str x,v=>v=V.str x/\PyData.strOk x=true
 | .tup l,v=>∃a xs,v=V.ref a/\G a=some (HO.tup xs)/\RpL K G l xs
 | .lst l,v=>∃a xs,v=V.ref a/\Rd G a (HO.lst xs)/\RpL K G l xs
 | .scr ns,v=>∃a,v=V.ref a/\SqL K G a (ns.map V.int)
 | .dct t ks vs,v=>∃a f vxs,v=V.ref a/\Dc t G G a f vxs/\RpL K G ks f/\RpL K G vs vxs
 | .obj c ks vs,v=>∃a C g xs,v=V.ref a/\W.nsIn K mainGlobals c=some (some (.ref C))/\G a=some (HO.ins C g (ks.zip xs))/\xs.length=ks.length/\RpL K G vs xs
 | .adr a,v=>v=V.ref a
def RpL(K:W7)(G:Hp):AN->AM->Prop
 | [],xs=>xs=[]
 | d::l,xs=>∃x r,xs=x::r/\Rp K G d x/\RpL K G l r
end
def dW(h:Same G b)(r:Rd G a u):Rd b a u:=by
 rcases r with r|⟨o,r⟩
 .exact .inl (h _ _ r)
 .exact .inr ⟨o,h _ _ r⟩
def Dc.mono(g:Same G u)(h:∀o,H a=some o->H' a=some o)(d:Dc t G H a c vxs):Dc t u H' a c vxs:=by
 rcases d with⟨e,j,i,b⟩|⟨e,f,r,i,b,n,l,s⟩
 .exact .inl ⟨e,j,h _ i,b⟩
 .refine .inr ⟨e,f,r,h _ i,b,n,l,λp k=>?_⟩
  obtain⟨v,m,q⟩:=s p k;exact⟨v,g _ _ m,q⟩
theorem Dc.someT(d:Dc t G H a e vxs):∃o,H a=some o/\∀xs,o≠.tup xs:=by
 rcases d with⟨_,c,b,_⟩|⟨_,f,g,b,_⟩
 .simp_all
 .exact⟨_,b,λxs z=>by cases z⟩
theorem Dc.some(d:Dc t G H a e vxs):∃o,H a=some o/\∀xs,o≠.lst xs:=by
 rcases d with⟨_,c,b,_⟩|⟨_,f,g,b,_⟩
 .simp_all
 .exact⟨_,b,λxs z=>by cases z⟩
mutual
theorem Rp.mono{G G':Hp}(h:Same G G'):∀{d:D}{v:V},Rp K G d v->Rp K G' d v
 | .non,_,r=>r
 | .bl _,_,r=>r
 | .int _,_,r=>r
 | .str _,_,r=>r
 | .tup l,_,r=>by
   obtain⟨a,xs,e,g,q⟩:=r;exact⟨a,xs,e,h _ _ g,RpL.mono h q⟩
 | .lst l,_,r=>by
   obtain⟨a,xs,e,g,q⟩:=r;exact⟨a,xs,e,dW h g,RpL.mono h q⟩
 | .scr ns,_,r=>by
   obtain⟨a,e,g⟩:=r;exact⟨a,e,h.seq g⟩
 | .dct t ks vs,_,r=>by
   obtain⟨a,b,vxs,e,g,j,f⟩:=r;exact⟨a,b,vxs,e,g.mono h λo=>h _ o,RpL.mono h j,RpL.mono h f⟩
 | .obj c ks vs,_,r=>by
   obtain⟨a,C,i,xs,e,n,g,l,q⟩:=r;exact⟨a,C,i,xs,e,n,h _ _ g,l,RpL.mono h q⟩
 | .adr _,_,r=>r
theorem RpL.mono{G G':Hp}(h:Same G G'):∀{l:AN}{xs:AM},RpL K G l xs->RpL K G' l xs
 | [],_,r=>r
 | d::l,_,r=>by
   obtain⟨x,xs,e,g,q⟩:=r;exact⟨x,xs,e,Rp.mono h g,RpL.mono h q⟩
end
section
variable {G:Hp}
theorem RpL.length:∀{l:AN}{xs:AM},RpL K G l xs->xs.length=l.length
 | [],_,r=>by subst r;rfl
 | d::l,_,r=>by
   obtain⟨x,xs,rfl,_,q⟩:=r;simp[RpL.length q]
theorem RpL.get:∀{l:AN}{xs:AM}{i:Nat}{d:D},RpL K G l xs->l[i]?=some d->∃x,xs[i]?=some x/\Rp K G d x
 | [],_,_,_,_,e=>by simp at e
 | d::l,_,0,_,r,e=>by
   rw[RpL]at r;grind
 | d::l,_,i+1,_,r,e=>by
   obtain⟨x,xs,rfl,g,q⟩:=r;obtain⟨y,a,b⟩:=RpL.get q (by simpa using e)
   ext
def RpL.nil:RpL K G [] []:=by rw[RpL]
def RpL.cons(h:Rp K G d x)(q:RpL K G l xs):RpL K G (d::l) (x::xs):=⟨x,xs,rfl,h,q⟩
theorem RpL.append:∀{l m:AN}{xs ys:AM},RpL K G l xs->RpL K G m ys->RpL K G (l++m) (xs++ys)
 | [],_,_,_,r,q=>by rw[RpL]at r;ext
 | d::l,m,_,ys,r,q=>by
   obtain⟨x,xs,rfl,g,r⟩:=r;exact .cons g (.append r q)
def RpL.one(h:Rp K G d x):RpL K G [d] [x]:=.cons h .nil
theorem RpL.take:∀{l:AN}{xs:AM} (n:Nat),RpL K G l xs->RpL K G (l.take n) (xs.take n)
 | _,_,0,_=>.nil
 | [],_,_+1,r=>by subst r;exact .nil
 | d::l,_,n+1,r=>by
   obtain⟨x,xs,rfl,g,r⟩:=r;exact .cons g (.take n r)
theorem RpL.drop:∀{l:AN}{xs:AM} (n:Nat),RpL K G l xs->RpL K G (l.drop n) (xs.drop n)
 | _,_,0,r=>r
 | [],_,_+1,r=>by subst r;exact .nil
 | d::l,_,n+1,r=>by
   obtain⟨x,xs,rfl,g,r⟩:=r;exact .drop n r
theorem RpL.reverse:∀{l:AN}{xs:AM},RpL K G l xs->RpL K G l.reverse xs.reverse
 | [],_,r=>by subst r;exact .nil
 | d::l,_,r=>by
   obtain⟨x,xs,rfl,g,r⟩:=r;rw[List.reverse_cons,List.reverse_cons];exact r.reverse.append (.one g)
theorem RpL.ints:∀(ns:AF),RpL K G (ns.map D.int) (ns.map V.int)
 | []=>.nil
 | n::ns=>.cons (by rw[Rp]) (.ints ns)
end
structure Gr(H G H' G':Hp):Prop where
 h:Same H H'
 g:Same G G'
 s:Same G' H'
 n:∀a,G a=none->G' a≠none->H a=none
def Gr.refl(s:Same G H):Gr H G H G:=⟨.refl _,.refl _,s,λ_ h a=>absurd h a⟩
def Gr.trans(a:Gr H G f c)(b:Gr f c d G2):Gr H G d G2:=
 ⟨a.h.trans b.h,a.g.trans b.g,b.s,λx h i=>by
  by_cases e:c x=none
  .exact a.h.free (b.n x e i)
  .exact a.n x h e⟩
theorem Gr.new(s:Same G H)(a:H p=none)(o:HO):Gr H G (upd H p o) (upd G p o):=by
 refine⟨λb u e=>?_,λb u e=>?_,λb u e=>?_,λb h c=>?_⟩
 .rwa [Ym (Yk e a)]
 .rwa [Ym (Yk e (s.free a))]
 .by_cases q:b=p
  .subst q;rwa [Yh]at e ⊢
  .rw[Ym q]at e ⊢;exact s _ _ e
 .by_cases q:b=p
  .grind
  .rw[Ym q]at c;grind
def Gr.hid(s:Same G H)(a:H p=none)(o:HO):Gr H G (upd H p o) G:=by
 refine⟨λb u e=>?_,.refl _,λb u e=>?_,λb h c=>absurd h c⟩
 .rwa [Ym (Yk e a)]
 .rw[Ym (Yk e (s.free a))];exact s _ _ e
theorem Gr.show(g:Gr H G H' d)(c:H p=none)(a:d p=none)(e:H' p=some o):Gr H G H' (upd d p o):=by
 refine⟨g.h,λb u q=>?_,λb u q=>?_,λb h f=>?_⟩
 .have:=g.g b u q
  rwa [Ym (Yk this a)]
 .by_cases z:b=p
  .subst z;rw[Yh]at q;symm
  .rw[Ym z]at q;exact g.s b u q
 .by_cases z:b=p
  .grind
  .rw[Ym z]at f;exact g.n b h f
def Ct(K:W7)(G H:Hp):D->V->Prop
 | .non,v=>v=.non
 | .bl b,v=>v=.bl b
 | .int i,v=>v=.int i
 | .str x,v=>v=.str x/\PyData.strOk x=true
 | .tup l,v=>∃a f,v=.ref a/\(H a=some (.tup f)/\G a=some (.tup f))/\RpL K G l f
 | .lst l,v=>∃a f,v=.ref a/\Rd H a (.lst f)/\RpL K G l f
 | .scr k,v=>∃a,v=.ref a/\SqL K H a (k.map .int)
 | .dct t h j,v=>∃a d g,v=.ref a/\Dc t G H a d g/\RpL K G h d/\RpL K G j g
 | .obj c h j,v=>∃a C e f,v=.ref a/\W.nsIn K mainGlobals c=some (some (.ref C))/\G a=some (.ins C e (h.zip f))/\f.length=h.length/\RpL K G j f
 | .adr a,v=>v=.ref a
def Ct.of(s:Same G H)(r:Rp K G d v):Ct K G H d v:=by
 cases d<;>rw[Rp]at r<;>rw[Ct]
 .exact r
 .exact r
 .exact r
 .exact r
 .obtain⟨a,i,e,g,q⟩:=r
  exact⟨a,i,e,⟨s _ _ g,g⟩,q⟩
 .obtain⟨a,i,e,g,q⟩:=r
  exact⟨a,i,e,dW s g,q⟩
 .obtain⟨a,e,g⟩:=r
  exact⟨a,e,s.seq g⟩
 .obtain⟨a,b,h,e,g,f,c⟩:=r
  exact⟨a,b,h,e,g.mono (.refl _) λo=>s _ o,f,c⟩
 .exact r
 .exact r
def Ct.rp(s:Same G H)(r:Ct K G H d v):Rp K H d v:=by
 cases d<;>rw[Ct]at r<;>rw[Rp]
 .exact r
 .exact r
 .exact r
 .exact r
 .obtain⟨a,i,e,g,q⟩:=r
  exact⟨a,i,e,g.1,q.mono s⟩
 .obtain⟨a,i,e,g,q⟩:=r
  exact⟨a,i,e,g,q.mono s⟩
 .exact r
 .obtain⟨a,b,j,e,g,h,c⟩:=r
  exact⟨a,b,j,e,g.mono s λ_ z=>z,h.mono s,c.mono s⟩
 .obtain⟨a,C,f,i,e,n,g,l,q⟩:=r
  exact⟨a,C,f,i,e,n,s _ _ g,l,q.mono s⟩
 .exact r
def Ct.grow(g:Gr H G H' m)(r:Ct K G H d v):Ct K m H' d v:=by
 cases d<;>rw[Ct]at r<;>rw[Ct]
 .exact r
 .exact r
 .exact r
 .exact r
 .obtain⟨a,j,e,h,q⟩:=r
  exact⟨a,j,e,⟨g.h _ _ h.1,g.g _ _ h.2⟩,q.mono g.g⟩
 .obtain⟨a,j,e,h,q⟩:=r
  exact⟨a,j,e,dW g.h h,q.mono g.g⟩
 .obtain⟨a,e,h⟩:=r
  exact⟨a,e,g.h.seq h⟩
 .obtain⟨a,b,k,e,h,i,c⟩:=r
  exact⟨a,b,k,e,h.mono g.g λo=>g.h _ o,i.mono g.g,c.mono g.g⟩
 .obtain⟨a,C,f,j,e,n,h,l,q⟩:=r
  exact⟨a,C,f,j,e,n,g.g _ _ h,l,q.mono g.g⟩
 .exact r
def kJ(K:W7)(G H:Hp):AN->AM->Prop
 | [],xs=>xs=[]
 | d::l,xs=>∃x r,xs=x::r/\Ct K G H d x/\kJ K G H l r
inductive B where
 | sh (d:D)|ow (l:AN)|od (t:Bool) (ks vs:AN)
abbrev AQ:=Option B
abbrev Ro:=List AQ
abbrev AV:=Ro->Option AN
abbrev AU:=Ro->Option D
abbrev AT:=Ro->Option Bool
abbrev AS:=D->Ro->Option Ro
structure SR(K:W7)(H0 G0:Hp)(σ:L2.St)(H G:Hp)(ρ:Ro):Prop where
 gr:Gr H0 G0 H G
 len:σ.length=ρ.length
 sh:∀(i:Nat) d,ρ[i]?=some (some (B.sh d))->∃v,σ[i]?=some (some v)/\Rp K G d v
 ow:∀(i:Nat) l,ρ[i]?=some (some (B.ow l))->∃a xs,σ[i]?=some (some (V.ref a))/\G a=none/\H0 a=none/\H a=some (.lst xs)/\RpL K G l xs
 ap:∀(i j:Nat) l l' a b,ρ[i]?=some (some (B.ow l))->ρ[j]?=some (some (B.ow l'))->i≠j->σ[i]?=some (some (V.ref a))->σ[j]?=some (some (V.ref b))->a≠b
 od:∀(i:Nat) t ks vs,ρ[i]?=some (some (B.od t ks vs))->∃a kxs vxs,σ[i]?=some (some (V.ref a))/\G a=none/\H0 a=none/\Dc t G H a kxs vxs/\RpL K G ks kxs/\RpL K G vs vxs
 apd:∀(i j:Nat) t ks vs t' ks' vs' a b,ρ[i]?=some (some (B.od t ks vs))->ρ[j]?=some (some (B.od t' ks' vs'))->i≠j->σ[i]?=some (some (V.ref a))->σ[j]?=some (some (V.ref b))->a≠b
section
variable {H0 G0 H G H' G':Hp}{σ:L2.St}{ρ:Ro}
def SR.mkSh(g:Gr H0 G0 H G)(e:σ.length=ρ.length)(n:∀(i:Nat) d,ρ[i]?=some (some (B.sh d))->∃v,σ[i]?=some (some v)/\Rp K G d v)(f:∀(i:Nat) l,ρ[i]?≠some (some (B.ow l)))(c:∀(i:Nat) t ks vs,ρ[i]?≠some (some (B.od t ks vs))):SR K H0 G0 σ H G ρ:=
 ⟨g,e,n,λi l h=>absurd h (f i l),λi j l o a b h=>absurd h (f i l),λi t ks vs h=>absurd h (c i t ks vs),λi j t ks vs p k m a b h=>absurd h (c i t ks vs)⟩
theorem vR(g:Gr H G H' G')(h:H a=some o)(n:G a=none):G' a=none:=by
 cases q:G' a with
 | none=>rfl
 | some o=>
   have:=g.n a n (by grind);grind
def SR.grow(s:SR K H0 G0 σ H G ρ)(g:Gr H G H' G'):SR K H0 G0 σ H' G' ρ:=by
 refine⟨s.gr.trans g,s.len,λi d e=>?_,λi l e=>?_,s.ap,λi t r q e=>?_,s.apd⟩
 .obtain⟨v,f,b⟩:=s.sh i d e
  exact⟨v,f,b.mono g.g⟩
 .obtain⟨a,u,f,b,k,c,j⟩:=s.ow i l e
  exact⟨a,u,f,vR g c b,k,g.h _ _ c,j.mono g.g⟩
 .obtain⟨a,h,p,f,b,k,c,j,m⟩:=s.od i t r q e
  obtain⟨o,n,_⟩:=c.some;exact⟨a,h,p,f,vR g n b,k,c.mono g.g λo=>g.h _ o,j.mono g.g,m.mono g.g⟩
def SR.seen(s:SR K H0 G0 σ H G ρ):Same G H:=s.gr.s
def Yg{a:Type}{l:List a}{x y:a}(h:(l.set i x)[j]?=some y):(j=i/\y=x/\i<l.length)\/(j≠i/\l[j]?=some y):=by
 by_cases e:j=i
 .subst e
  have b:=by
   have:=(qo h).1;simpa using this
  rw[List.getElem?_set_self b]at h;exact .inl ⟨rfl,w4 h.symm,b⟩
 .rw[Qp (.symm e)]at h
  exact .inr ⟨e,h⟩
theorem SR.set_sh(s:SR K H0 G0 σ H G ρ)(i:Nat)(r:Rp K G d v):SR K H0 G0 (σ.set i (some v)) H G (ρ.set i (↑d)):=by
 refine⟨s.gr,by simp[s.len],λj e h=>?_,λj l h=>?_,λj k l F a b g m z n o=>?_,λj t x y h=>?_,λj k t x y J B u a b g m z n o=>?_⟩
 .rcases Yg h with⟨rfl,c,E⟩|⟨f,h⟩
  .cases c
   exact⟨v,by rw[List.getElem?_set_self (by rwa [s.len])],r⟩
  .obtain⟨w,D,p⟩:=s.sh j e h
   exact⟨w,by rwa [Qp (.symm f)],p⟩
 .rcases Yg h with⟨rfl,c,E⟩|⟨f,h⟩
  .cases c
  .obtain⟨a,I,D,p⟩:=s.ow j l h
   exact⟨a,I,by rwa [Qp (.symm f)],p⟩
 .rcases Yg g with⟨rfl,c,_⟩|⟨f,g⟩
  .cases c
  .rcases Yg m with⟨rfl,c,_⟩|⟨q,m⟩
   .cases c
   .rw[Qp (.symm f)]at n
    rw[Qp (.symm q)]at o;exact s.ap j k l F a b g m z n o
 .rcases Yg h with⟨rfl,c,E⟩|⟨f,h⟩
  .cases c
  .obtain⟨a,A,C,D,p⟩:=s.od j t x y h
   exact⟨a,A,C,by rwa [Qp (.symm f)],p⟩
 .rcases Yg g with⟨rfl,c,_⟩|⟨f,g⟩
  .cases c
  .rcases Yg m with⟨rfl,c,_⟩|⟨q,m⟩
   .cases c
   .rw[Qp (.symm f)]at n
    rw[Qp (.symm q)]at o;exact s.apd j k t x y J B u a b g m z n o
theorem SR.set_ow(s:SR K H0 G0 σ H G ρ)(i:Nat)(g:Gr H G H' G')(L:H p=none)(Q:G' p=none)(e:H' p=some (.lst xs))(r:RpL K G' l xs):SR K H0 G0 (σ.set i (some (.ref p))) H' G' (ρ.set i (some (.ow l))):=by
 have B:=s.grow g
 have N:∀(j:Nat) l a,_->σ[j]?=some (some (.ref a))->a≠p:=λj l a o c z=>by
  obtain⟨b,T,q,_,_,M,_⟩:=s.ow j l o;rw[c]at q;cases q;rw[z,L]at M;cases M
 refine⟨B.gr,by simp[s.len],λj e h=>?_,λj l h=>?_,λj k l O a b o c A m n=>?_,λj t J C h=>?_,λj k t J C R E F a b o c A m n=>?_⟩
 .rcases Yg h with⟨rfl,d,y⟩|⟨f,h⟩
  .cases d
  .obtain⟨w,q,v⟩:=B.sh j e h
   exact⟨w,by rwa [Qp (.symm f)],v⟩
 .rcases Yg h with⟨rfl,d,y⟩|⟨f,h⟩
  .cases d
   exact⟨p,xs,by rw[List.getElem?_set_self (by rwa [s.len])],Q,s.gr.h.free L,e,r⟩
  .obtain⟨a,xs,q,v⟩:=B.ow j l h
   exact⟨a,xs,by rwa [Qp (.symm f)],v⟩
 .rcases Yg o with⟨rfl,d,y⟩|⟨f,x⟩
  .rcases Yg c with⟨rfl,S,_⟩|⟨u,c⟩
   .exact absurd rfl A
   .rw[List.getElem?_set_self (by rwa [s.len])]at m
    cases m;rw[Qp (.symm u)]at n;exact .symm (N k O b c n)
  .rcases Yg c with⟨rfl,S,y⟩|⟨u,c⟩
   .rw[List.getElem?_set_self (by rwa [s.len])]at n
    cases n;rw[Qp (.symm f)]at m;exact N j l a x m
   .rw[Qp (.symm f)]at m
    rw[Qp (.symm u)]at n;exact s.ap j k l O a b x c A m n
 .rcases Yg h with⟨rfl,d,y⟩|⟨f,h⟩
  .cases d
  .obtain⟨a,D,I,q,v⟩:=B.od j t J C h
   exact⟨a,D,I,by rwa [Qp (.symm f)],v⟩
 .rcases Yg o with⟨rfl,d,_⟩|⟨f,o⟩
  .cases d
  .rcases Yg c with⟨rfl,d,_⟩|⟨u,c⟩
   .cases d
   .rw[Qp (.symm f)]at m
    rw[Qp (.symm u)]at n;exact s.apd j k t J C R E F a b o c A m n
theorem SR.set_od(s:SR K H0 G0 σ H G ρ)(i:Nat)(g:Gr H G H' G')(hp:H p=none)(gp:G' p=none)(e:Dc t G' H' p kxs vxs)(r1:RpL K G' ks kxs)(r2:RpL K G' vs vxs):SR K H0 G0 (σ.set i (some (.ref p))) H' G' (ρ.set i (some (.od t ks vs))):=by
 have s':=s.grow g
 have np:∀(j:Nat) t ks vs a,ρ[j]?=some (some (B.od t ks vs))->σ[j]?=some (some (V.ref a))->a≠p:=λj t ks vs a h1 h2 z=>by
  obtain⟨b,kxs,vxs,q1,_,_,q4,_⟩:=s.od j t ks vs h1;rw[h2]at q1;cases q1;obtain⟨o,q5,_⟩:=q4.some;rw[z,hp]at q5;cases q5
 refine⟨s'.gr,by simp[s.len],λj e h=>?_,λj l h=>?_,λj k l l' a b h1 h2 h3 h4 h5=>?_,λj t ks vs h=>?_,λj k t ks vs t' ks' vs' a b h1 h2 h3 h4 h5=>?_⟩
 .rcases Yg h with⟨rfl,e1,hl⟩|⟨hj,h⟩
  .cases e1
  .obtain⟨w,q1,q2⟩:=s'.sh j e h
   exact⟨w,by rw[Qp (Ne.symm hj)];exact q1,q2⟩
 .rcases Yg h with⟨rfl,e1,hl⟩|⟨hj,h⟩
  .cases e1
  .obtain⟨a,xs,q1,q2⟩:=s'.ow j l h
   exact⟨a,xs,by rw[Qp (Ne.symm hj)];exact q1,q2⟩
 .rcases Yg h1 with⟨rfl,e1,_⟩|⟨hj,h1⟩
  .cases e1
  .rcases Yg h2 with⟨rfl,e1,_⟩|⟨hk,h2⟩
   .cases e1
   .rw[Qp (Ne.symm hj)]at h4
    rw[Qp (Ne.symm hk)]at h5;exact s.ap j k l l' a b h1 h2 h3 h4 h5
 .rcases Yg h with⟨rfl,e1,hl⟩|⟨hj,h⟩
  .cases e1
   exact⟨p,kxs,vxs,by rw[List.getElem?_set_self (by rw[s.len];exact hl)],gp,s.gr.h.free hp,e,r1,r2⟩
  .obtain⟨a,kxs,vxs,q1,q2⟩:=s'.od j t ks vs h
   exact⟨a,kxs,vxs,by rw[Qp (Ne.symm hj)];exact q1,q2⟩
 .rcases Yg h1 with⟨rfl,e1,hl⟩|⟨hj,h1n⟩
  .rcases Yg h2 with⟨rfl,e2,_⟩|⟨hk,h2⟩
   .exact absurd rfl h3
   .rw[List.getElem?_set_self (by rw[s.len];exact hl)]at h4
    cases h4;rw[Qp (Ne.symm hk)]at h5;exact Ne.symm (np k t' ks' vs' b h2 h5)
  .rcases Yg h2 with⟨rfl,e2,hl⟩|⟨hk,h2⟩
   .rw[List.getElem?_set_self (by rw[s.len];exact hl)]at h5
    cases h5;rw[Qp (Ne.symm hj)]at h4;exact np j t ks vs a h1n h4
   .rw[Qp (Ne.symm hj)]at h4
    rw[Qp (Ne.symm hk)]at h5;exact s.apd j k t ks vs t' ks' vs' a b h1n h2 h3 h4 h5
theorem SR.mut(s:SR K H0 G0 σ H G ρ)(O:ρ[i]?=some (some (B.ow l)))(E:σ[i]?=some (some (V.ref a)))(r:RpL K G P ys):SR K H0 G0 σ (upd H a (.lst ys)) G (ρ.set i (some (.ow P))):=by
 obtain⟨T,xs,N,M,L,Y,Z⟩:=s.ow i l O;rw[E]at N;cases N;refine⟨⟨λb o e=>?_,s.gr.g,λb o e=>?_,s.gr.n⟩,by simp[s.len],λj e h=>?_,λj m h=>?_,λj k m F b c d f v y J=>?_,λj t ks vs h=>?_,λj k t ks vs t' C D b c d f v y J=>?_⟩
 .rw[Ym (Yk e L)];exact s.gr.h b o e
 .rw[Ym (Yk e M)];exact s.gr.s b o e
 .rcases Yg h with⟨rfl,e1,_⟩|⟨n,h⟩
  .cases e1
  .exact s.sh j e h
 .rcases Yg h with⟨rfl,e1,_⟩|⟨n,h⟩
  .cases e1
   exact⟨a,ys,E,M,L,Yh,r⟩
  .obtain⟨b,R,p,I,x,u,w⟩:=s.ow j m h
   exact⟨b,R,p,I,x,by rw[Ym (s.ap j i m l b a h O n p E)];exact u,w⟩
 .have g:∀(j:Nat) m,(ρ.set i (some (.ow P)))[j]?=some (some (.ow m))->∃F,ρ[j]?=some (some (.ow F)):=λj m h=>by
   grind
  obtain⟨S,e1⟩:=g j m d;obtain⟨Q,e2⟩:=g k F f;exact s.ap j k S Q b c e1 e2 v y J
 .rcases Yg h with⟨rfl,e1,_⟩|⟨n,h⟩
  .cases e1
  .obtain⟨b,A,vxs,p,I,x,u,w⟩:=s.od j t ks vs h
   refine⟨b,A,vxs,p,I,x,u.mono (.refl _) λo q=>?_,w⟩;obtain⟨W,q',X⟩:=u.some;rw[Ym (λz=>by grind)];exact q
 .rcases Yg d with⟨rfl,e1,_⟩|⟨n,d⟩
  .cases e1
  .rcases Yg f with⟨rfl,e1,_⟩|⟨U,f⟩
   .cases e1
   .exact s.apd j k t ks vs t' C D b c d f v y J
theorem SR.mutd(s:SR K H0 G0 σ H G ρ)(hi:ρ[i]?=some (some (B.od t ks vs)))(ha:σ[i]?=some (some (V.ref a)))(d:Dc t' G (upd H a o) a kxs vxs)(r1:RpL K G ks' kxs)(r2:RpL K G vs' vxs):SR K H0 G0 σ (upd H a o) G (ρ.set i (some (.od t' ks' vs'))):=by
 obtain⟨a',kxs0,vxs0,q1,q2,q3,q4,q5,q6⟩:=s.od i t ks vs hi;rw[ha]at q1;cases q1;obtain⟨o0,q7,nl⟩:=q4.some;have hl:i<ρ.length:=(qo hi).1;refine⟨⟨λb o e=>?_,s.gr.g,λb o e=>?_,s.gr.n⟩,by simp[s.len],λj e h=>?_,λj m h=>?_,λj k m m' b c h1 h2 h3 h4 h5=>?_,λj ta ka va h=>?_,λj k ta ka va tb kb vb b c h1 h2 h3 h4 h5=>?_⟩
 .rw[Ym (Yk e q3)];exact s.gr.h b o e
 .rw[Ym (Yk e q2)];exact s.gr.s b o e
 .rcases Yg h with⟨rfl,e1,_⟩|⟨hj,h⟩
  .cases e1
  .exact s.sh j e h
 .rcases Yg h with⟨rfl,e1,_⟩|⟨hj,h⟩
  .cases e1
  .obtain⟨b,zs,p1,p2,p3,p4,p5⟩:=s.ow j m h
   exact⟨b,zs,p1,p2,p3,by rw[Ym (λz=>by rw[z,q7]at p4;cases p4;exact nl _ rfl)];exact p4,p5⟩
 .rcases Yg h1 with⟨rfl,e1,_⟩|⟨hj,h1⟩
  .cases e1
  .rcases Yg h2 with⟨rfl,e1,_⟩|⟨hk,h2⟩
   .cases e1
   .exact s.ap j k m m' b c h1 h2 h3 h4 h5
 .rcases Yg h with⟨rfl,e1,_⟩|⟨hj,h⟩
  .cases e1
   exact⟨a,kxs,vxs,ha,q2,q3,d,r1,r2⟩
  .obtain⟨b,kx,vx,p1,p2,p3,p4,p5⟩:=s.od j ta ka va h
   exact⟨b,kx,vx,p1,p2,p3,p4.mono (Same.refl _) λo q=>by rw[Ym (s.apd j i _ _ _ _ _ _ b a h hi hj p1 ha)];exact q,p5⟩
 .have old:∀(j:Nat) t2 k2 v2,(ρ.set i (some (.od t' ks' vs')))[j]?=some (some (B.od t2 k2 v2))->∃t3 k3 v3,ρ[j]?=some (some (B.od t3 k3 v3)):=λj t2 k2 v2 h=>by
   rcases Yg h with⟨rfl,_,_⟩|⟨_,h⟩
   .exact⟨_,_,_,hi⟩
   .exact⟨_,_,_,h⟩
  obtain⟨t1,k1,v1,e1⟩:=old j _ _ _ h1;obtain⟨t2,k2,v2,e2⟩:=old k _ _ _ h2;exact s.apd j k t1 k1 v1 t2 k2 v2 b c e1 e2 h3 h4 h5
theorem SR.freezeT(s:SR K H0 G0 σ H G ρ)(I:ρ[i]?=some (some (B.ow l))):∃G',SR K H0 G0 σ H G' (ρ.set i (↑(.lst l)))/\∀b ys,G' b=some (.tup ys)->G b=some (.tup ys):=by
 obtain⟨a,xs,F,O,R,U,V⟩:=s.ow i l I
 have g:Same G (upd G a (.lst xs)):=λb o e=>by rwa [Ym (Yk e O)]
 refine⟨upd G a _,⟨⟨s.gr.h,s.gr.g.trans g,λb o e=>?_,λb h h'=>?_⟩,by simp[s.len],λj e h=>?_,λj m h=>?_,λj k m L b c d f y D E=>?_,λj t Z vs h=>?_,λj k t Z vs t' A x b c d f y D E=>?_⟩,λb ys e=>by
  by_cases z:b=a
  .subst z;rw[Yh]at e;cases e
  .rwa [Ym z]at e⟩
 .by_cases z:b=a
  .subst z;rw[Yh]at e;symm
  .rw[Ym z]at e;exact s.gr.s b o e
 .by_cases z:b=a
  .grind
  .rw[Ym z]at h';exact s.gr.n b h h'
 .rcases Yg h with⟨rfl,Y,_⟩|⟨p,h⟩
  .cases Y
   exact⟨_,F,⟨a,xs,rfl,.inl Yh,V.mono g⟩⟩
  .obtain⟨v,n,q⟩:=s.sh j e h
   exact⟨v,n,q.mono g⟩
 .rcases Yg h with⟨rfl,Y,_⟩|⟨p,h⟩
  .cases Y
  .obtain⟨b,J,n,q,C,r,w⟩:=s.ow j m h
   exact⟨b,J,n,by rwa [Ym (s.ap j i m l b a h I p n F)],C,r,w.mono g⟩
 .rcases Yg d with⟨rfl,Y,_⟩|⟨p,d⟩
  .cases Y
  .rcases Yg f with⟨rfl,Y,_⟩|⟨N,f⟩
   .cases Y
   .exact s.ap j k m L b c d f y D E
 .rcases Yg h with⟨rfl,Y,_⟩|⟨p,h⟩
  .cases Y
  .obtain⟨b,u,vxs,n,q,C,r,w,M⟩:=s.od j t Z vs h
   obtain⟨S,Q,T⟩:=r.some;exact⟨b,u,vxs,n,by rwa [Ym (λz=>by symm)],C,r.mono g λ_ z=>z,w.mono g,M.mono g⟩
 .rcases Yg d with⟨rfl,Y,_⟩|⟨p,d⟩
  .cases Y
  .rcases Yg f with⟨rfl,Y,_⟩|⟨N,f⟩
   .cases Y
   .exact s.apd j k t Z vs t' A x b c d f y D E
def SR.freeze(s:SR K H0 G0 σ H G ρ)(hi:ρ[i]?=some (some (B.ow l))):∃G',SR K H0 G0 σ H G' (ρ.set i (↑(.lst l))):=by
 obtain⟨G',h,_⟩:=s.freezeT hi;exact⟨G',h⟩
theorem SR.freezedT(s:SR K H0 G0 σ H G ρ)(F:ρ[i]?=some (some (B.od t ks vs))):∃G',SR K H0 G0 σ H G' (ρ.set i (↑(.dct t ks vs)))/\∀b ys,G' b=some (.tup ys)->G b=some (.tup ys):=by
 obtain⟨a,A,vxs,J,M,X,C,O,S⟩:=s.od i t ks vs F;obtain⟨o,T,Y⟩:=C.some
 have d:Same G (upd G a o):=λb o e=>by rwa [Ym (Yk e M)]
 obtain⟨Z,V,W⟩:=C.someT
 refine⟨upd G a o,⟨⟨s.gr.h,s.gr.g.trans d,λb I e=>?_,λb h h'=>?_⟩,by simp[s.len],λj e h=>?_,λj m h=>?_,λj k m P b c f g q u E=>?_,λj t ks vs h=>?_,λj k t ks vs t' D w b c f g q u E=>?_⟩,λb ys e=>by
  by_cases z:b=a
  .subst z;rw[Yh]at e;grind
  .rwa [Ym z]at e⟩
 .by_cases z:b=a
  .subst z;rw[Yh]at e;grind
  .rw[Ym z]at e;exact s.gr.s b I e
 .by_cases z:b=a
  .grind
  .rw[Ym z]at h';exact s.gr.n b h h'
 .rcases Yg h with⟨rfl,e1,_⟩|⟨n,h⟩
  .cases e1
   refine⟨_,J,⟨a,A,vxs,rfl,C.mono d λI z=>?_,O.mono d,S.mono d⟩⟩;rw[T]at z
   rwa [Yh]
  .obtain⟨v,l,p⟩:=s.sh j e h
   exact⟨v,l,p.mono d⟩
 .rcases Yg h with⟨rfl,e1,_⟩|⟨n,h⟩
  .cases e1
  .obtain⟨b,U,l,p,x,y,r⟩:=s.ow j m h
   exact⟨b,U,l,by rwa [Ym (λz=>by grind)],x,y,r.mono d⟩
 .rcases Yg f with⟨rfl,e1,_⟩|⟨n,f⟩
  .cases e1
  .rcases Yg g with⟨rfl,e1,_⟩|⟨N,g⟩
   .cases e1
   .exact s.ap j k m P b c f g q u E
 .rcases Yg h with⟨rfl,e1,_⟩|⟨n,h⟩
  .cases e1
  .obtain⟨b,L,Q,l,p,x,y,r,R⟩:=s.od j t ks vs h
   exact⟨b,L,Q,l,by rwa [Ym (s.apd j i _ _ _ _ _ _ b a h F n l J)],x,y.mono d λ_ z=>z,r.mono d,R.mono d⟩
 .rcases Yg f with⟨rfl,e1,_⟩|⟨n,f⟩
  .cases e1
  .rcases Yg g with⟨rfl,e1,_⟩|⟨N,g⟩
   .cases e1
   .exact s.apd j k t ks vs t' D w b c f g q u E
theorem SR.freezed(s:SR K H0 G0 σ H G ρ)(a:ρ[i]?=some (some (B.od t ks vs))):∃G',SR K H0 G0 σ H G' (ρ.set i (↑(.dct t ks vs))):=by
 obtain⟨G',h,_⟩:=s.freezedT a;grind
def Le(ρ ρ':Ro):Prop:=ρ.length=ρ'.length/\∀(i:Nat) b,ρ[i]?=some (some b)->ρ'[i]?=some (some b)
def SR.le(s:SR K H0 G0 σ H G ρ')(h:Le ρ ρ'):SR K H0 G0 σ H G ρ:=
 ⟨s.gr,s.len.trans h.1.symm,λi d e=>s.sh i d (h.2 i _ e),λi l e=>s.ow i l (h.2 i _ e),λi j l g a b m n=>s.ap i j l g a b (h.2 i _ m) (h.2 j _ n),
  λi t o k e=>s.od i t o k (h.2 i _ e),λi j t o k p f c a b m n=>s.apd i j t o k p f c a b (h.2 i _ m) (h.2 j _ n)⟩
theorem SR.rebase(s:SR K H0 G0 σ H G ρ):∃p,SR K p G σ H G ρ/\∀σ' H' G' ρ',SR K p G σ' H' G' ρ'->SR K H0 G0 σ' H' G' ρ':=by
 classical
 let c:=λa=>∃(i:Nat),((∃l:AN,ρ[i]?=some (some (.ow l)))\/(∃t v u,ρ[i]?=some (some (.od t v u))))/\σ[i]?=some (some (.ref a))
 have B:∀a,c a->H0 a=none:=λa n=>by
  obtain⟨i,x,C⟩:=n;rcases x with⟨l,x⟩|⟨t,v,u,x⟩
  .obtain⟨b,A,d,_,j,_⟩:=s.ow i l x
   grind
  .obtain⟨b,f,w,d,_,j,_⟩:=s.od i t v u x
   grind
 have k:∀a,(if c a then none else H a)=none->_:=λa h=>by
  by_cases o:c a
  .exact B a o
  .rw[if_neg o]at h;exact s.gr.h.free h
 refine⟨λa=>if c a then none else H a,⟨⟨λb o e=>?_,.refl _,s.gr.s,λ_ h y=>absurd h y⟩,s.len,s.sh,λi l e=>?_,s.ap,λi t v u e=>?_,s.apd⟩,λσ' H' G' ρ' t=>⟨⟨λb o e=>?_,s.gr.g.trans t.gr.g,t.gr.s,λb h y=>?_⟩,t.len,t.sh,λi l e=>?_,t.ap,λi r v u e=>?_,t.apd⟩⟩
 .simp_all
 .obtain⟨a,A,d,g,j,m,q⟩:=s.ow i l e
  exact⟨a,A,d,g,if_pos ⟨i,.inl ⟨l,e⟩,d⟩,m,q⟩
 .obtain⟨a,f,w,d,g,j,m⟩:=s.od i t v u e
  exact⟨a,f,w,d,g,if_pos ⟨i,.inr ⟨t,v,u,e⟩,d⟩,m⟩
 .refine t.gr.h b o ?_
  have z:¬c b:=λz=>by ext
  rw[if_neg z];exact s.gr.h b o e
 .by_cases z:G b=none
  .exact k b (t.gr.n b z y)
  .exact s.gr.n b h z
 .obtain⟨a,A,d,g,j,m,q⟩:=t.ow i l e
  ext
 .obtain⟨a,f,w,d,g,j,m⟩:=t.od i r v u e
  grind
end
def tOf(K:W7)(f:AU):TE:=λh H Q=>∃c d b a G,f c=some d/\SR K b a h H G c/\∀v e g,Gr H G e g->Rp K g d v->Q v e
def tCof(K:W7)(f:AU):TE:=λh H Q=>∃e d b a G,f e=some d/\SR K b a h H G e/\∀v c g,Gr H G c g->Ct K g c d v->Q v c
def tCAof(K:W7)(f:AV):TA:=λh H Q=>∃e l b a G,f e=some l/\SR K b a h H G e/\∀g c d,Gr H G c d->kJ K d c l g->Q g c
def iE(K:W7)(f:AV):TE:=λh H Q=>∃e l b a G,f e=some l/\SR K b a h H G e/\∀p g d c,Gr H G d c->H p=none->c p=none->d p=some (.lst g)->RpL K c l g->Q (.ref p) d
def tTof(K:W7)(f:AT):TT:=λg H Q=>∃d b c a G,f d=some b/\SR K c a g H G d/\∀e h,Gr H G e h->Q b e
def tAof(K:W7)(f:AV):TA:=λh H Q=>∃e l b a G,f e=some l/\SR K b a h H G e/\∀g d c,Gr H G d c->RpL K c l g->Q g d
def Wk(K:W7)(J:It)(g:Hp)(f:AN):Prop:=f.length<=sizeLine/\∀(i:Nat) a b,Same g b->Same b a->
 (∀d,f[i]?=some d->J.go i a/\∀y e,J.yld i a y e->∃c,Gr a b e c/\Rp K c d y)/\(f.length<=i->J.stop i a)
def oW(K:W7)(f:AV):TI:=λh H R=>∃c e b a G,f c=some e/\SR K b a h H G c/\∀J d g,Gr H G d g->Wk K J g e->R J d
inductive Out where
 | nx (ρ:Ro)|rt (d:D)|bk (ρ:Ro)|ct (ρ:Ro)
abbrev AR:=Ro->Option Out
def CD(K:W7)(b a:Hp)(F:fA):Out->Prop
 | .nx f=>∀c e g,SR K b a c e g f->F.nx c e
 | .rt d=>∀v e g,Gr b a e g->Rp K g d v->F.rt v e
 | .bk f=>∀c e g,SR K b a c e g f->F.bk c e
 | .ct f=>∀c e g,SR K b a c e g f->F.ct c e
def vS(K:W7)(f:AR):TS:=λF e H=>∃d c b a G,f d=some c/\SR K b a e H G d/\CD K b a F c
def N8(K:W7)(gt:AS):TG:=λv g H Q=>∃d f e b a G,gt d f=some e/\SR K b a g H G f/\Rp K G d v/\∀c,SR K b a c H G e->Q c H
abbrev ME(X:Cx)(e:Expr)(f:AU):Prop:=PE X e (tOf X.K f)
abbrev MC(X:Cx)(e:Expr)(f:AU):Prop:=PE X e (tCof X.K f)
abbrev vT(X:Cx)(a:AK)(f:AV):Prop:=PA X a (tCAof X.K f)
abbrev MF(X:Cx)(e:Expr)(f:AV):Prop:=PE X e (iE X.K f)
abbrev MT(X:Cx)(e:Expr)(f:AT):Prop:=PT X e (tTof X.K f)
abbrev MA(X:Cx)(a:AK)(f:AV):Prop:=PA X a (tAof X.K f)
abbrev MI(X:Cx)(b a:Expr)(f:AV):Prop:=PI X b a (oW X.K f)
abbrev MS(X:Cx)(st:Stmt)(f:AR):Prop:=PS X st (vS X.K f)
abbrev MB(X:Cx)(a:List Stmt)(f:AR):Prop:=PSs X a (vS X.K f)
abbrev MG(X:Cx)(a:Expr)(gt:AS):Prop:=PG X a (N8 X.K gt)
section
def PE.imp(h:PE X e t)(i:∀σ H Q,t' σ H Q->t σ H Q):PE X e t':=λb s σ H Q I a=>h _ s σ H Q I (i σ H Q a)
def PT.imp(h:PT X e t)(i:∀σ H Q,t' σ H Q->t σ H Q):PT X e t':=λb s σ H Q I a=>h _ s σ H Q I (i σ H Q a)
def PA.imp(h:PA X c t)(i:∀σ H Q,t' σ H Q->t σ H Q):PA X c t':=λa d s σ H Q I b=>h a _ s σ H Q I (i σ H Q b)
def PS.imp{st:Stmt}(h:PS X st t)(i:∀F σ H,t' F σ H->t F σ H):PS X st t':=λb s σ H F I a=>h _ s σ H F I (i F σ H a)
def PSs.imp{st:List Stmt}(h:PSs X st t)(i:∀F σ H,t' F σ H->t F σ H):PSs X st t':=λb s σ H F I a=>h _ s σ H F I (i F σ H a)
def PI.imp(h:PI X a e t)(i:∀σ H R,t' σ H R->t σ H R):PI X a e t':=λc s σ H R I b=>h _ s σ H R I (i σ H R b)
def PG.imp(h:PG X e t)(i:∀v σ H Q,t' v σ H Q->t v σ H Q):PG X e t':=λb s σ H v u Q I r a=>h _ s σ H v u Q I r (i v σ H Q a)
variable {H0 G0 H G:Hp}{σ:L2.St}{ρ:Ro}
def tOf.at(e:f ρ=some d)(s:SR K H0 G0 σ H G ρ)(h:∀v H' a,Gr H G H' a->Rp K a d v->SR K H0 G0 σ H' a ρ->Q v H'):tOf K f σ H Q:=
 ⟨ρ,d,H0,G0,G,e,s,λv H' a g r=>h v H' a g r (s.grow g)⟩
def tCof.at(e:f ρ=some d)(s:SR K H0 G0 σ H G ρ)(h:∀v H' a,Gr H G H' a->Ct K a H' d v->SR K H0 G0 σ H' a ρ->Q v H'):tCof K f σ H Q:=
 ⟨ρ,d,H0,G0,G,e,s,λv H' a g r=>h v H' a g r (s.grow g)⟩
def tCAof.at(e:f ρ=some l)(s:SR K H0 G0 σ H G ρ)(h:∀vs H' a,Gr H G H' a->kJ K a H' l vs->SR K H0 G0 σ H' a ρ->Q vs H'):tCAof K f σ H Q:=
 ⟨ρ,l,H0,G0,G,e,s,λv H' a g r=>h v H' a g r (s.grow g)⟩
def ME.mc(h:ME X e f):MC X e f:=PE.imp h λk H Q ⟨c,d,b,a,G,e,s,h⟩=>⟨c,d,b,a,G,e,s,λv i j g r=>h v i j g (.of g.s r)⟩
def tTof.at(e:f ρ=some b)(s:SR K H0 G0 σ H G ρ)(h:∀H' a,Gr H G H' a->SR K H0 G0 σ H' a ρ->Q b H'):tTof K f σ H Q:=
 ⟨ρ,b,H0,G0,G,e,s,λH' a g=>h H' a g (s.grow g)⟩
def tAof.at(e:f ρ=some l)(s:SR K H0 G0 σ H G ρ)(h:∀vs H' a,Gr H G H' a->RpL K a l vs->SR K H0 G0 σ H' a ρ->Q vs H'):tAof K f σ H Q:=
 ⟨ρ,l,H0,G0,G,e,s,λv H' a g r=>h v H' a g r (s.grow g)⟩
end
noncomputable def b2{a:Type}(b fb:AU)(g:D->D->Option a):Ro->Option a:=λc=>(b c).bind λx=>(fb c).bind λy=>g x y
noncomputable def b1{a:Type}(b:AU)(g:D->Option a):Ro->Option a:=λc=>(b c).bind g
theorem oX(h:b2 a fb g ρ=some r):∃x y,a ρ=some x/\fb ρ=some y/\g x y=some r:=by
 obtain⟨x,c,h⟩:=qa h;obtain⟨y,b,h⟩:=qa h
 ext
def eB(h:b1 a g ρ=some r):∃x,a ρ=some x/\g x=some r:=by
 obtain⟨x,b,h⟩:=qa h;exact⟨x,b,h⟩
def el(K:W7)(r:R2)(g:D->D->Option D):Prop:=∀(x y:V) (b a d:D) (H G:Hp) (Q:VK),g b a=some d->Same G H->Ct K G H b x->Ct K G H a y->(∀v e c,Gr H G e c->Rp K c d v->Q v e)->r x y H Q
def eN(K:W7)(r:R2)(g:D->D->Option Bool):Prop:=∀(x y:V) (c a:D) (b:Bool) (H G:Hp) (Q:VK),g c a=some b->Same G H->Ct K G H c x->Ct K G H a y->Q (.bl b) H->r x y H Q
def dH(K:W7)(r:AM->Hp->VK->Prop)(g:AN->Option D):Prop:=∀(a:AM) (c:AN) (d:D) (H G:Hp) (Q:VK),g c=some d->Same G H->kJ K G H c a->(∀v b e,Gr H G b e->Rp K e d v->Q v b)->r a H Q
def eO(K:W7)(r:AM->Hp->VK->Prop)(g:AN->Option AN):Prop:=∀(c:AM) (d l:AN) (H G:Hp) (Q:VK),g d=some l->Same G H->kJ K G H d c->
 (∀p e b a,Gr H G b a->H p=none->a p=none->b p=some (.lst e)->RpL K a l e->Q (.ref p) b)->r c H Q
section
variable {a b c e:Expr}{fb fc f:AU}
noncomputable def ab(i:Nat):AU:=λa=>match a[i]? with
 | some (some (.sh d))=>some d
 | _=>none
noncomputable def dI(i:Nat):AV:=λa=>match a[i]? with
 | some (some (.ow l))=>some l
 | _=>none
theorem N9(h:ab i ρ=some d):ρ[i]?=some (some (B.sh d)):=by
 unfold ab at h;symm
theorem CF(h:dI i ρ=some l):ρ[i]?=some (some (B.ow l)):=by
 unfold dI at h;grind
noncomputable def aa(i:Nat):AU:=λc=>match c[i]? with
 | some (some (.sh d))=>some d
 | some (some (.ow l))=>some (.lst l)
 | some (some (.od t b a))=>some (.dct t b a)
 | _=>none
noncomputable def kD(d:D):AU:=λ_=>some d
abbrev aab(i:Int):=kD (.int i)
def vU(h:PE X e t)(j:∀σ H Q,Q v H->t σ H Q)(i:∀G,Rp X.K G d v):ME X e (kD d):=
 PE.imp h λσ H Q g=>by
  obtain⟨a,b,l,k,G,e,s,h⟩:=g;cases e;exact j σ H Q (h v H G (.refl s.seen) (i G))
def oY{j}:ME X (.Constant (.int i) j pos) (aab i):=vU zS (λ_ _ _ q=>q) λ_=>by rw[Rp]
def CG{j}:ME X (.Constant (.bool k) j pos) (kD (.bl k)):=vU zT (λ_ _ _ q=>q) λ_=>by rw[Rp]
def CH{j}:ME X (.Constant .none j pos) (kD .non):=vU zU (λ_ _ _ q=>q) λ_=>by rw[Rp]
def o1(m:el K r g)(h:tOf K (b2 fa fb g) σ H Q):kl r (tCof K fa) (tCof K fb) σ H Q:=by
 obtain⟨c,d,I,J,G,e,s,h⟩:=h;obtain⟨n,C,y,k,z⟩:=oX e;exact tCof.at y s λv E F p t l=>tCof.at k l λu j B i q x=>m v u n C d j B Q z x.seen (t.grow i) q λw a b o A=>h w a b ((p.trans i).trans o) A
def CI(m:eN K r g)(h:tTof K (b2 fa fb g) σ H Q):oA (kl r (tCof K fa) (tCof K fb)) σ H Q:=by
 obtain⟨a,d,B,E,G,e,s,h⟩:=h;obtain⟨n,y,t,w,l⟩:=oX e;exact tCof.at t s λv C A o q z=>tCof.at w z λu j k i p x=>m v u n y d j k _ l x.seen (q.grow i) p ⟨d,rfl,h j k (o.trans i)⟩
noncomputable def mB(f:AT):AU:=λa=>(f a).map .bl
def CJ{f:AT}(h:mB f ρ=some d):∃b,f ρ=some b/\d=.bl b:=by
 obtain⟨b,a,c⟩:=qc h;exact⟨b,a,c.symm⟩
def CK(m:eN K r g)(h:tOf K (mB (b2 fa fb g)) σ H Q):kl r (tCof K fa) (tCof K fb) σ H Q:=by
 obtain⟨a,d,C,F,G,e,s,h⟩:=h;obtain⟨b,o,rfl⟩:=CJ e;obtain⟨n,z,w,x,l⟩:=oX o;exact tCof.at w s λv E B p t A=>tCof.at x A λu j k i q y=>m v u n z b j k _ l y.seen (t.grow i) q (h _ j k (p.trans i) (by rw[Rp]))
def mP(j:bX X (binaryOp op) r)(i:el X.K r g)(d:MC X a fa)(c:MC X b fb):ME X (.BinOp a op b pos) (b2 fa fb g):=PE.imp (iq j d c) λ_ _ _ h=>o1 i h
def g9(k:bX X (compareOp op) r)(i:eN X.K r g)(d:MC X a fa)(e:MC X b fb)(j:behindInMarks op b=false):ME X (.Compare a [op] [b] pos) (mB (b2 fa fb g)):=PE.imp (Bf k d e j) λ_ _ _ h=>CK i h
def fX(k:bX X (compareOp op) r)(i:eN X.K r g)(d:MC X a fa)(e:MC X b fb)(j:behindInMarks op b=false):MT X (.Compare a [op] [b] pos) (b2 fa fb g):=PT.imp (Bg k d e j) λ_ _ _ h=>CI i h
def kK(j:IxR X r)(i:el X.K r g)(d:MC X a fa)(c:MC X b fb)(hs:kB b):ME X (.Subscript a b pos) (b2 fa fb g):=PE.imp (B0 j d c hs) λ_ _ _ h=>o1 i h
noncomputable def i2(C:Int->Int->Bool)(g:Int->Int->Int):D->D->Option D
 | .int i,.int j=>if C i j=true then some (.int (g i j))else none
 | _,_=>none
noncomputable def o3(g:Int->Int->Bool):D->D->Option Bool
 | .int i,.int j=>some (g i j)
 | _,_=>none
def vV(k:∀i j,n i j=true->C i j):el K (rI C λi j=>.int (g i j)) (i2 n g):=by
 intro x y p r d H G Q h s m o q;unfold i2 at h
 split at h
 .split at h
  .rename_i i j l
   cases h;subst m o;exact⟨i,j,rfl,rfl,k i j l,q _ H G (.refl s) (by rw[Rp])⟩
  .cases h
 .cases h
def o4:el K (g7 λi j=>.int (g i j)) (i2 (λ_ _=>true) g):=by
 intro x y m n d H G Q h s l k q;unfold i2 at h
 split at h
 .split at h
  .rename_i i j o
   cases h;subst l k;exact⟨i,j,rfl,rfl,q _ H G (.refl s) (by rw[Rp])⟩
  .cases h
 .cases h
def o5:eN K (g7 λi j=>.bl (g i j)) (o3 g):=by
 intro x y m n d H G Q h s l k q;unfold o3 at h
 split at h
 .rename_i i j
  cases h;subst l k;exact⟨i,j,rfl,rfl,q⟩
 .cases h
def dJ:D->D->Option D:=i2 (λ_ _=>true) λi j=>i+j
def eP:D->D->Option D:=i2 (λ_ _=>true) λi j=>i-j
def gn:D->D->Option D:=i2 (λi j=>decide (-(2^64)<i)&&decide (i<2^64)||(decide (-(2^64)<j)&&decide (j<2^64))) λi j=>i*j
def c9:D->D->Option D:=i2 (λ_ j=>decide (0<j)&&decide (j<1073741824)) λi j=>i/j
def bb:D->D->Option D:=i2 (λ_ j=>decide (0<j)) λi j=>i%j
def eQ:=o3 λi j=>decide (i<j)
def N_:=o3 λi j=>decide (i<=j)
def CL:=o3 λi j=>decide (j<i)
mutual
def bA:D->Nat
 | .tup l=>bB l+1
 | .lst l=>bB l+1
 | .scr _=>1
 | .dct _ _ _=>1000
 | .obj _ _ _=>1000
 | .adr _=>1000
 | _=>0
def bB:AN->Nat
 | []=>0
 | d::l=>max (bA d) (bB l)
end
mutual
theorem o6:∀d:D,(aG d).depth<=bA d
 | .non=>by simp[aG,PyData.depth]
 | .bl b=>by simp[aG,PyData.depth]
 | .int b=>by simp[aG,PyData.depth]
 | .str b=>by simp[aG,PyData.depth]
 | .tup l=>by have:=CM l;simp[aG,PyData.depth,bA];lia
 | .lst l=>by have:=CM l;simp[aG,PyData.depth,bA];lia
 | .scr ns=>by rw[aG,PyData.depth,bA,W.ke_depthAll];grind
 | .dct _ _ _=>by simp[aG,PyData.depth]
 | .obj _ _ _=>by simp[aG,PyData.depth]
 | .adr _=>by simp[aG,PyData.depth]
theorem CM:∀l,PyData.depthAll (dv l)<=bB l
 | []=>by simp[dv,PyData.depthAll]
 | d::l=>by have g:=o6 d;have h:=CM l;simp[dv,PyData.depthAll,bB];lia
end
section
variable {σ:L2.St}{H:Hp}{s:Shared}
mutual
theorem iF(I:Inv X pins σ H s):∀{d:D}{v:V}{u:Value},bA d<=100->Rp X.K H d v->RelV v u->∃j,Reads s.heap u (aG d) j/\(aG d).canLay0=true
 | .non,v,u,_,r,q=>by
   subst r;cases q;exact⟨_,by exact .none,by simp[aG,PyData.canLay0]⟩
 | .bl b,v,u,_,r,q=>by
   subst r;cases q;exact⟨_,by exact .bool b,by simp[aG,PyData.canLay0]⟩
 | .int i,v,u,_,r,q=>by
   subst r;obtain⟨t,rfl⟩:=q;exact⟨_,by exact .int i t,by simp[aG,PyData.canLay0]⟩
 | .str x,v,u,_,r,q=>by
   obtain⟨rfl,G⟩:=r;obtain⟨t,rfl⟩:=q;exact⟨_,by exact .str x t,by simp[aG,PyData.canLay0,G]⟩
 | .tup l,v,u,h,r,q=>by
   obtain⟨a,xs,rfl,g,y⟩:=r;cases q
   obtain⟨_,its,p,C⟩:=(I.hok a _ g)
   obtain⟨o,w,k,n,m⟩:=C;obtain⟨j,q,z⟩:=CN I (by simp [bA]at h;ac_nf) y p;exact⟨_,.tuple w k m (by simpa using q),by simpa [aG,PyData.canLay0]using z⟩
 | .lst l,v,u,h,r,q=>by
   obtain⟨a,xs,rfl,g,y⟩:=r;cases q;obtain⟨its,p,pl,_⟩:=I.list (.inl g);obtain⟨o,w,k,n,m⟩:=pl.isList;obtain⟨j,q,z⟩:=CN I (by simp [bA]at h;ac_nf) y p;exact⟨_,.list w k m (by simpa using q),by simpa [aG,PyData.canLay0]using z⟩
 | .dct _ _ _,v,u,h,r,q=>by simp[bA]at h
 | .obj _ _ _,v,u,h,r,q=>by simp[bA]at h
 | .adr _,v,u,h,r,q=>by simp[bA]at h
 | .scr ns,v,u,_,r,q=>by
   obtain⟨a,rfl,g⟩:=r;cases q;obtain⟨its,p,pl,_⟩:=I.list g;exact⟨_,W.reads_of_ints pl.isList (vL p),by rw[aG];simp[PyData.canLay0,W.ke_canLayAll0]⟩
theorem CN(I:Inv X pins σ H s):∀{l:AN}{xs:AM}{us:AC},bB l<=100->RpL X.K H l xs->Vals xs us->∃j,ReadsAll s.heap us (dv l) j/\PyData.canLayAll0 (dv l)=true
 | [],xs,us,_,r,q=>by
   subst r;cases q;exact⟨_,by exact .nil,by simp[dv,PyData.canLayAll0]⟩
 | d::l,xs,us,h,r,q=>by
   obtain⟨x,xs,rfl,J,E⟩:=r;rw[bB]at h
   cases q with
   | cons B A=>
     obtain⟨j,w,k⟩:=iF I ∅ J B;obtain⟨L,m,F⟩:=CN I ∅ E A;exact⟨_,by exact .cons w m,by simp[dv,PyData.canLayAll0,k,F]⟩
end
end
theorem mQ(l:AN)(d:D):((dv l).any λy=>PyData.eqv y (aG d))=l.any λy=>br y d:=by
 induction l with
 | nil=>simp[dv]
 | cons e l g=>
   rw[dv,List.any_cons,g];rfl
def az(g:Bool):D->D->Option Bool:=λd e=>if bA d<=60/\bA e<=60 then some (if g then !br d e else br d e)else none
def kL(K:W7)(g:Bool):R2:=λx y H Q=>∃d e,Rp K H d x/\Rp K H e y/\(bA d<=60/\bA e<=60)/\Q (.bl (if g then !br d e else br d e)) H
theorem o7(r:X.A.units+64<cLine):bX X (compareOp .Eq) (kL X.K false):=by
 intro b s p H x y v u Q I m c h;obtain⟨d,e,n,j,t,q⟩:=h;obtain⟨g,i,o⟩:=iF I ∅ n m;obtain⟨l,k,f⟩:=iF I ∅ j c;exact SeqAt.eqOverData _ X.w X.A _ s v u _ _ g l _ i k o f (by have:=o6 e;ac_nf) ⟨.bl _,H,I,rfl,q⟩
theorem o8(z:X.A.units+64<cLine):bX X (compareOp .NotEq) (kL X.K true):=by
 intro b s c H x y v u Q I o i h;obtain⟨d,e,m,j,w,q⟩:=h;obtain⟨r,p,k⟩:=iF I ∅ m o;obtain⟨n,t,l⟩:=iF I ∅ j i;exact SeqAt.neOverData _ X.w X.A _ s v u _ _ r n _ p t k l (by have:=o6 d;symm) ⟨.bl _,H,I,rfl,q⟩
theorem vW:eN K (kL K d) (az d):=by
 intro x y i j b H G Q h s k g q;unfold az at h
 split at h
 .cases h
  exact⟨i,j,k.rp s,g.rp s,by assumption,q⟩
 .cases h
noncomputable def Yc:D->Option AN
 | .tup l=>some l
 | .lst l=>some l
 | .scr a=>some (a.map .int)
 | _=>none
def g_(d:D)(l:AN):Bool:=l.any λy=>br y d
def b7(g:Bool):D->D->Option Bool:=λd c=>(Yc c).bind λl=>if bB l<=60/\bA d<=60 then some (if g then !g_ d l else g_ d l)else none
def kM(K:W7)(g:Bool):R2:=λx y H Q=>∃d c l,Rp K H d x/\Rp K H c y/\Yc c=some l/\(bB l<=60/\bA d<=60)/\Q (.bl (if g then !g_ d l else g_ d l)) H
def iG{c:D}(h:Yc c=some l):c=.tup l\/c=.lst l\/∃ns,c=.scr ns/\l=ns.map D.int:=by
 cases c with
 | tup m=>cases h;exact .inl rfl
 | lst m=>cases h;exact .inr (.inl rfl)
 | scr ns=>cases h;exact .inr (.inr ⟨ns,rfl,rfl⟩)
 | non=>cases h
 | bl _=>cases h
 | int _=>cases h
 | str _=>cases h
 | dct _ _ _=>cases h
 | obj _ _ _=>cases h
 | adr _=>cases h
theorem CO:∀ns:AF,dv (ns.map D.int)=ns.map PyData.int
 | []=>by simp[dv]
 | n::ns=>by simp[dv,aG,CO ns]
theorem o9(B:X.A.units+64<cLine):bX X (compareOp .In) (kM X.K false):=by
 intro b s f H x y v u Q I t o h;obtain⟨d,c,l,p,w,n,C,q⟩:=h;obtain⟨E,m,k⟩:=iF I ∅ p t
 have r:bA c<=61:=by
  rcases iG n with rfl|rfl|⟨e,rfl,rfl⟩
  .rw[bA];ext
  .rw[bA];ext
  .rw[bA];ac_nf
 obtain⟨A,j,i⟩:=iF I ∅ w o;have z:=o6 d;rcases iG n with rfl|rfl|⟨e,rfl,rfl⟩
 .rw[aG]at j i
  exact SeqAt.in_tuple_reads j m (by simpa [PyData.canLay0]using i) k ∅ ⟨.bl _,H,I,rfl,by rwa [mQ]⟩
 .rw[aG]at j i
  exact SeqAt.in_list_reads j m (by simpa [PyData.canLay0]using i) k ∅ ⟨.bl _,H,I,rfl,by rwa [mQ]⟩
 .rw[aG,<-CO]at j i
  exact SeqAt.in_list_reads j m (by simpa [PyData.canLay0]using i) k ∅ ⟨.bl _,H,I,rfl,by rwa [mQ]⟩
theorem CP(B:X.A.units+64<cLine):bX X (compareOp .NotIn) (kM X.K true):=by
 intro b s f H x y v u Q I t o h;obtain⟨d,c,l,p,w,n,C,q⟩:=h;obtain⟨E,m,k⟩:=iF I ∅ p t
 have r:bA c<=61:=by
  rcases iG n with rfl|rfl|⟨e,rfl,rfl⟩
  .rw[bA];ac_nf
  .rw[bA];ac_nf
  .rw[bA];ac_nf
 obtain⟨A,j,i⟩:=iF I ∅ w o;have z:=o6 d;rcases iG n with rfl|rfl|⟨e,rfl,rfl⟩
 .rw[aG]at j i
  exact SeqAt.notIn_tuple_reads j m (by simpa [PyData.canLay0]using i) k ∅ ⟨.bl _,H,I,rfl,by rwa [mQ]⟩
 .rw[aG]at j i
  exact SeqAt.notIn_list_reads j m (by simpa [PyData.canLay0]using i) k ∅ ⟨.bl _,H,I,rfl,by rwa [mQ]⟩
 .rw[aG,<-CO]at j i
  exact SeqAt.notIn_list_reads j m (by simpa [PyData.canLay0]using i) k ∅ ⟨.bl _,H,I,rfl,by rwa [mQ]⟩
theorem CQ:eN K (kM K d) (b7 d):=by
 intro x y i k b H G Q h s m g q;obtain⟨l,j,h⟩:=qa h
 split at h
 .cases h
  exact⟨i,k,l,m.rp s,g.rp s,j,by assumption,q⟩
 .cases h
end
section
variable {a b c e:Expr}{fb f:AU}{fc fd:AT}
noncomputable def aD:D->Option Bool
 | .non=>some false
 | .bl b=>some b
 | .int i=>some (i != 0)
 | .tup l=>some (!l.isEmpty)
 | .lst l=>some (!l.isEmpty)
 | .scr a=>some (!a.isEmpty)
 | .str _=>none
 | .dct _ _ _=>none
 | .obj _ _ _=>none
 | .adr _=>none
theorem CS(h:aD d=some k)(r:Ct X.K G H d v):ky X.K v H k:=by
 cases d with
 | non=>subst r;cases h;rfl
 | bl b=>subst r;cases h;rfl
 | int i=>subst r;cases h;rfl
 | str x=>cases h
 | dct _ _ _=>cases h
 | obj _ _ _=>cases h
 | adr _=>cases h
 | tup l=>
   obtain⟨a,c,rfl,g,j⟩:=r;cases h;refine .inr (.inl ⟨c,.inl (.inl g.1),?_⟩);have:=j.length;grind
 | lst l=>
   obtain⟨a,c,rfl,g,j⟩:=r;cases h;refine .inl ⟨c,.inl g,?_⟩;have:=j.length;grind
 | scr e=>
   obtain⟨a,rfl,g⟩:=r;cases h;refine .inl ⟨_,g,?_⟩;cases e<;>simp
noncomputable def bU(fc fd:AT):AT:=λa=>(fc a).bind λk=>if k=true then fd a else some false
noncomputable def c_(fc fd:AT):AT:=λa=>(fc a).bind λk=>if k=true then some true else fd a
noncomputable def aZ(fc:AT):AT:=λa=>(fc a).map (!·)
abbrev MW(X:Cx)(e:Expr)(f:AT):Prop:=PW X e (tTof X.K f)
def PW.imp(h:PW X e t)(i:∀σ H Q,t' σ H Q->t σ H Q):PW X e t':=λd a s σ H Q I g=>h d _ s σ H Q I (i σ H Q g)
theorem CT(h:tTof K (bU fc fd) σ H Q):oj (tTof K fc) (tTof K fd) σ H Q:=by
 obtain⟨a,k,p,r,G,e,s,h⟩:=h;unfold bU at e;obtain⟨g,j,e⟩:=qa e;refine tTof.at j s λq o d l=>?_
 cases g with
 | true=>
   rw[if_pos rfl]at e ⊢;exact tTof.at e l λi m n _=>h i m (d.trans n)
 | false=>
   grind
theorem CU(h:tTof K (c_ fc fd) σ H Q):M_ (tTof K fc) (tTof K fd) σ H Q:=by
 obtain⟨a,k,p,r,G,e,s,h⟩:=h;unfold c_ at e;obtain⟨g,j,e⟩:=qa e;refine tTof.at j s λq o d l=>?_
 cases g with
 | false=>
   rw[if_neg qi]at e ⊢;exact tTof.at e l λi m n _=>h i m (d.trans n)
 | true=>
   symm
noncomputable def iH:D->Option Bool
 | .bl b=>some b
 | _=>none
def CV(h:iH d=some k):d=.bl k:=by cases d<;>simp[iH]at h;subst h;rfl
def b_(fa fb:AU):AU:=λa=>(b1 fa iH a).bind λk=>if k=true then fb a else some (.bl false)
def kO(fa fb:AU):AU:=λρ=>(b1 fa iH ρ).bind λk=>if k=true then some (.bl true)else fb ρ
def gq(fa:AU):AU:=λa=>(b1 fa iH a).map λk=>.bl (!k)
noncomputable def mR(fc:AT)(fa fb:AU):AU:=λa=>(fc a).bind λk=>if k=true then fa a else fb a
noncomputable def jB:D->Bool
 | .non=>true
 | _=>false
def Oa(r:Ct K G H d v):decide (v=V.non)=jB d:=by
 cases d with
 | non=>subst r;rfl
 | bl _=>subst r;rfl
 | int _=>subst r;rfl
 | str _=>obtain⟨rfl,_⟩:=r;rfl
 | tup _=>obtain⟨_,_,rfl,_⟩:=r;rfl
 | lst _=>obtain⟨_,_,rfl,_⟩:=r;rfl
 | scr _=>obtain⟨_,rfl,_⟩:=r;rfl
 | dct _ _ _=>obtain⟨_,_,_,rfl,_⟩:=r;rfl
 | obj _ _ _=>obtain⟨_,_,_,_,rfl,_⟩:=r;rfl
 | adr _=>subst r;rfl
def cc(g:Bool):D->D->Option Bool:=λd e=>if jB e then some (if g then !jB d else jB d)else none
def o_:eN K (λx y H Q=>y=.non/\Q (.bl (decide (x=.non))) H) (cc false):=by
 intro x y k i b H G Q h s g j q;unfold cc at h
 split at h
 .rename_i d
  cases h;cases i<;>simp[jB]at d;exact⟨j,by rwa [Oa g]⟩
 .cases h
def Ob:eN K (λx y H Q=>y=.non/\Q (.bl (!decide (x=.non))) H) (cc true):=by
 intro x y k i b H G Q h s g j q;unfold cc at h
 split at h
 .rename_i d
  cases h;cases i<;>simp[jB]at d;exact⟨j,by rwa [Oa g]⟩
 .cases h
def ai:D->D->Option D
 | c,.int i=>(Yc c).bind λl=>aX l i
 | _,_=>none
theorem kP(r:RpL K G l xs)(h:aX l i=some d):∃x,aX xs i=some x/\Rp K G d x:=by
 unfold aX at h ⊢;rw[r.length];obtain⟨j,k,g⟩:=qa h;obtain⟨x,m,n⟩:=r.get g
 ext
def CW:el X.K (NJ X.K) ai:=by
 intro x y u w d H G Q h s n r q;unfold ai at h
 split at h
 .rename_i c i
  obtain⟨l,t,m⟩:=qa h;subst r;rcases iG t with rfl|rfl|⟨b,rfl,rfl⟩
  .obtain⟨p,a,rfl,g,o⟩:=n
   obtain⟨v,k,j⟩:=kP o m;exact .inr (.inl ⟨p,a,i,v,rfl,rfl,.inl (.inl g.1),k,q v H G (.refl s) j⟩)
  .obtain⟨p,a,rfl,g,o⟩:=n
   obtain⟨v,k,j⟩:=kP o m;exact .inl ⟨p,a,i,v,rfl,rfl,.inl g,k,q v H G (.refl s) j⟩
  .obtain⟨p,rfl,g⟩:=n
   obtain⟨v,k,j⟩:=kP (.ints b) m;exact .inl ⟨p,_,i,v,rfl,rfl,g,k,q v H G (.refl s) j⟩
 .cases h
def pa(c:MC X a fa)(d:MC X b fb)(hs:kB b:=by intro _ _;rfl):ME X (.Subscript a b pos) (b2 fa fb ai):=kK B5 CW c d hs
noncomputable def iI:D->Option Int
 | .int i=>some i
 | _=>none
def da(f:Option AU):Ro->Option (Option Int):=λa=>match f with
 | none=>some none
 | some f=>(b1 f iI a).map some
def bN(l:AN)(lo g:Option Int):AN:=(l.drop (HT.sIx l.length 0 lo)).take (HT.sIx l.length l.length g-HT.sIx l.length 0 lo)
noncomputable def fC:D->Option AN
 | .lst l=>some l
 | .scr a=>some (a.map .int)
 | _=>none
def Oc(h:fC d=some l)(r:Ct K G H d v):∃p xs,v=.ref p/\SqL K H p xs/\RpL K G l xs:=by
 cases d with
 | lst m=>
   cases h;obtain⟨p,xs,e,g,q⟩:=r;exact⟨p,xs,e,.inl g,q⟩
 | scr a=>
   cases h;obtain⟨p,e,g⟩:=r;exact⟨p,_,e,g,.ints a⟩
 | non=>cases h
 | bl _=>cases h
 | int _=>cases h
 | str _=>cases h
 | tup _=>cases h
 | dct _ _ _=>cases h
 | obj _ _ _=>cases h
 | adr _=>cases h
def vX(fa:AU)(lo d:Option AU):AV:=λa=>(b1 fa fC a).bind λl=>(da lo a).bind λi=>(da d a).bind λj=>some (bN l i j)
abbrev tO(K:W7)(f:Option AU):TO:=match f with
 | none=>NG
 | some f=>oI (tCof K f)
def iJ{f:Option AU}(e:da f ρ=some i)(s:SR K q r σ H G ρ)(h:∀H' a,Gr H G H' a->SR K q r σ H' a ρ->Q i H'):tO K f σ H Q:=by
 cases f with
 | none=>
   cases e;exact h H G (.refl s.seen) s
 | some f=>
   obtain⟨k,p,rfl⟩:=qc e;obtain⟨d,n,g⟩:=eB p
   refine tCof.at n s λv l t o j m=>⟨k,?_,h l t o m⟩
   cases d<;>simp[iI]at g;subst g;exact j
def CY:PO X none (tO X.K none):=BR
noncomputable def lF(f:AV):AU:=λa=>(f a).map .lst
def MF.me(h:MF X e g):ME X e (lF g):=PE.imp h λw H Q i=>by
 obtain⟨a,d,m,u,G,e,s,h⟩:=i;obtain⟨l,t,rfl⟩:=qc e
 exact⟨a,l,m,u,G,t,s,λp f c v g k j n r=>h _ c _ (g.show k j n) (by
  refine⟨p,f,rfl,.inl Yh,r.mono λb o q=>?_⟩
  rwa [Ym (Yk q j)])⟩
def ae:AV:=λ_=>some []
noncomputable def Yb(f:AU)(g:AV):AV:=λa=>(f a).bind λd=>(g a).map (d::·)
def kQ:MA X [] ae:=PA.imp ir λb H Q d=>by
 obtain⟨a,l,i,g,G,e,s,h⟩:=d;cases e;exact h [] H G (.refl s.seen) .nil
def CZ(p:ME X e f)(k:MA X es ga)(hs:aac X e es:=by rfl):MA X (e::es) (Yb f ga):=PA.imp (g8 p k hs) λc H Q g=>by
 obtain⟨a,l,w,A,G,e,s,h⟩:=g;obtain⟨d,t,e⟩:=qa e;obtain⟨y,m,rfl⟩:=qc e;exact tOf.at t s λv z x r q o=>tAof.at m o λb j u i n _=>h _ j u (r.trans i) (.cons (q.mono i.g) n)
def jC:vT X [] ae:=PA.imp ir λb H Q d=>by
 obtain⟨a,l,i,g,G,e,s,h⟩:=d;cases e;exact h [] H G (.refl s.seen) rfl
def jD(p:MC X e f)(k:vT X es ga)(hs:aac X e es:=by rfl):vT X (e::es) (Yb f ga):=PA.imp (g8 p k hs) λc H Q g=>by
 obtain⟨b,l,w,A,G,e,s,h⟩:=g;obtain⟨d,t,e⟩:=qa e;obtain⟨y,m,rfl⟩:=qc e;exact tCof.at t s λv z x r q o=>tCAof.at m o λa j u i n _=>h _ j u (r.trans i) ⟨v,a,rfl,q.grow i,n⟩
noncomputable def aA:Nat:=1000000
def hC(h:n<=aA):n<=sizeLine:=Qg h (by decide)
def av(ga:AV):AU:=λa=>(ga a).bind λl=>if l.length<=aA then some (.tup l)else none
def bC(ga:AV):AV:=λa=>(ga a).bind λl=>if l.length<=aA then some l else none
theorem pb(h:MA X es ga):MF X (.List es pos) (bC ga):=PE.imp (Bu h) λn H Q b=>by
 obtain⟨r,d,m,o,G,e,s,h⟩:=b;obtain⟨l,k,e⟩:=qa e
 split at e
 .cases e
  exact tAof.at k s λi q j c f g=>⟨by rw[f.length];exact hC (by assumption),λp a=>h p i _ j (c.trans (.hid g.seen a _)) (c.h.free a) (g.seen.free a) Yh f⟩
 .cases e
noncomputable def cC(ga:AV)(g:AN->Option D):AU:=λa=>(ga a).bind g
noncomputable def cF(ga:AV)(g:AN->Option AN):AV:=λa=>(ga a).bind g
def pd(m:dH K r g)(h:tOf K (cC ga g) σ H Q):vI r (tCAof K ga) σ H Q:=by
 obtain⟨f,d,w,x,G,e,s,h⟩:=h;obtain⟨l,t,n⟩:=qa e;exact tCAof.at t s λa k i u p j=>m a l d k i Q n j.seen p λv b c q o=>h v b c (u.trans q) o
def pe(m:eO K r g)(h:iE K (cF ga g) σ H Q):vI r (tCAof K ga) σ H Q:=by
 obtain⟨B,d,z,A,G,e,s,h⟩:=h;obtain⟨l,v,n⟩:=qa e;exact tCAof.at v s λa k j i t w=>m a l d k j Q n w.seen t λp b f c u x q y o=>h p b f c (i.trans u) (i.h.free x) q y o
section
variable {x:Str}{p:Pos}{id T:String}{r:AM->Hp->VK->Prop}{g:AN->Option D}{gf:AN->Option AN}
end
def de(K:W7)(n:Nat)(g:AN->Option D):Sp:=λa H Q _=>a.length=n/\∃c d G,Same G H/\RpL K G c a/\g c=some d/\∀v b e,Gr H G b e->Rp K e d v->Q v b
theorem C0{p:Pos}(F:cA X.prog X.w X.K X.mg X.base dS k g m ps (de X.K n A))(E:Room k X.A)(z:Gl X x)(a:X.mg x=some (.ref g))(u:W.keepIn X.K (.ref g)=true)(D:Binds X.K m ps [])(L:MA X (e::es) ga)(o:du x:=by decide)(w:starEach (e::es) X.env=(false,eval e X.env)::starEach es X.env:=by rfl)(j:(backTo pos (starEach es X.env)).any (·.1)=false:=by rfl)(R:∀ρ l,ga ρ=some l->l.length=n):ME X (.Call (.Name x p) (e::es) [] pos) (cC ga A):=
 PE.imp (Nk F E z a u D .nil oO L o w j) λM H Q i=>by
  obtain⟨ρ,d,N,O,G,e,s,h⟩:=i;obtain⟨l,t,C⟩:=qa e;refine tAof.at t s λK P B J q r=>?_;rw[w6];exact⟨by rw[q.length];grind,l,d,B,r.seen,q,C,λv b c I y=>h v b c (J.trans I) y⟩
def C1(h:ae ρ=some l):l.length=0:=by cases h;rfl
theorem mS(i:∀ρ l,g ρ=some l->l.length=n):∀ρ l,Yb f g ρ=some l->l.length=n+1:=λρ l h=>by
 obtain⟨d,k,e⟩:=qa h;obtain⟨m,j,rfl⟩:=qc e;grind
def bO:AN->Option D
 | [c]=>(Yc c).map λl=>.int l.length
 | _=>none
def pf{c:D}(h:Yc c=some l)(r:Ct K G H c v):∃p xs,v=.ref p/\(SqL K H p xs\/SqT K H p xs)/\RpL K G l xs:=by
 rcases iG h with rfl|rfl|⟨a,rfl,rfl⟩
 .obtain⟨p,xs,rfl,g,d⟩:=r
  exact⟨p,xs,rfl,.inr (.inl (.inl g.1)),d⟩
 .obtain⟨p,xs,rfl,g,d⟩:=r
  exact⟨p,xs,rfl,.inl (.inl g),d⟩
 .obtain⟨p,rfl,g⟩:=r
  exact⟨p,_,rfl,.inl g,.ints a⟩
def kR(h:RpL K G [d] vs):∃v,vs=[v]/\Rp K G d v:=by
 rw[RpL]at h;obtain⟨x,r,rfl,h1,h2⟩:=h;rw[RpL]at h2;subst h2;exact⟨x,rfl,h1⟩
theorem eC(h:kJ K G H [d] vs):∃v,vs=[v]/\Ct K G H d v:=by
 obtain⟨x,r,rfl,i,g⟩:=h;cases (g);grind
def C2:dH X.K (λxs H Q=>∃p ys,xs=[.ref p]/\(SqL X.K H p ys\/SqT X.K H p ys)/\Q (.int ys.length) H) bO:=by
 intro b a d H G Q h s r q
 match a,h,r with
 | [c],h,r=>
   obtain⟨l,k,rfl⟩:=qc h;obtain⟨v,rfl,g⟩:=eC r;obtain⟨p,xs,rfl,j,i⟩:=pf k g;exact⟨p,xs,rfl,j,q _ H G (.refl s) (by rw[Rp,i.length])⟩
def eR:AN->Option AN
 | [c]=>Yc c
 | _=>none
def C3:eO X.K (λxs H Q=>∃p ys,xs=[.ref p]/\(SqL X.K H p ys\/SqT X.K H p ys)/\∀l,H l=none->Q (.ref l) (upd H l (.lst ys))) eR:=by
 intro b a l H G Q h s r q
 match a,h,r with
 | [c],h,r=>
   obtain⟨v,rfl,j⟩:=eC r;obtain⟨p,xs,rfl,i,g⟩:=pf h j;exact⟨p,xs,rfl,i,λm d=>q m xs _ G (.hid s d _) d (s.free d) Yh g⟩
def bD:AN->Option D
 | [c]=>(Yc c).map .tup
 | _=>none
theorem jE:dH X.K (λxs H Q=>∃p ys,xs=[.ref p]/\((SqL X.K H p ys/\∀l,H l=none->Q (.ref l) (upd H l (.tup ys)))\/(SqT X.K H p ys/\Q (.ref p) H))) bD:=by
 intro e b d H G Q h s r q
 match b,h,r with
 | [c],h,r=>
   obtain⟨l,n,rfl⟩:=qc h;obtain⟨v,rfl,j⟩:=eC r;rcases iG n with rfl|rfl|⟨a,rfl,rfl⟩
   .obtain⟨p,xs,rfl,g,k⟩:=j
    exact⟨p,xs,rfl,.inr ⟨.inl (.inl g.1),q _ H G (.refl s) (by rw[Rp];ext)⟩⟩
   .obtain⟨p,xs,rfl,g,k⟩:=j
    exact⟨p,xs,rfl,.inl ⟨.inl g,λm i=>q _ _ _ (.new s i _) (⟨m,xs,rfl,Yh,k.mono (Gr.new s i _).g⟩)⟩⟩
   .obtain⟨p,rfl,g⟩:=j
    exact⟨p,_,rfl,.inl ⟨g,λm i=>q _ _ _ (.new s i _) (⟨m,_,rfl,Yh,.ints a⟩)⟩⟩
noncomputable def kT:AN->Option D
 | [.int i]=>some (.int i)
 | [.bl k]=>some (.int (if k then 1 else 0))
 | _=>none
def C4:dH X.K (λxs H Q=>(∃i,xs=[.int i]/\Q (.int i) H)\/∃k,xs=[.bl k]/\Q (.int (if k then 1 else 0)) H) kT:=by
 intro vs ds d H G Q h s r q
 match ds,h,r with
 | [.int i],h,r=>
   cases h;obtain⟨v,rfl,g⟩:=eC r;subst g;exact .inl ⟨i,rfl,q _ H G (.refl s) (by rw[Rp])⟩
 | [.bl k],h,r=>
   cases h;obtain⟨v,rfl,g⟩:=eC r;subst g;exact .inr ⟨k,rfl,q _ H G (.refl s) (by rw[Rp])⟩
end
section
variable {e:Expr}{f:AU}
def au:AR:=λa=>some (.nx a)
noncomputable def ag(f g:AR):AR:=λb=>(f b).bind fun
 | .nx a=>g a
 | o=>some o
def C5:MB X [] au:=PSs.imp Af λF d H a=>by
 obtain⟨g,f,c,b,G,e,s,h⟩:=a;cases e;exact h d H G s
noncomputable def frz1(i:Nat)(ρ:Ro):Ro:=match ρ[i]? with
 | some (some (.ow l))=>ρ.set i (↑(.lst l))
 | some (some (.od t b a))=>ρ.set i (↑(.dct t b a))
 | _=>ρ
def SR.frz1(s:SR K H0 G0 σ H G ρ)(i:Nat):∃G',SR K H0 G0 σ H G' (M.frz1 i ρ):=by
 unfold M.frz1
 split
 .rename_i l hl
  exact s.freeze hl
 .rename_i t ks vs hl
  exact s.freezed hl
 .exact⟨G,s⟩
def frz(a:AE)(ρ:Ro):Ro:=a.foldl (λr i=>frz1 i r) ρ
theorem SR.frz:∀(a:AE) {G:Hp}{ρ:Ro},SR K c b σ H G ρ->∃d,SR K c b σ H d (M.frz a ρ)
 | [],G,_,s=>⟨G,s⟩
 | i::a,_,ρ,s=>by
   obtain⟨d,e⟩:=s.frz1 i;exact SR.frz a e
def SR.frz1T(s:SR K H0 G0 σ H G ρ)(i:Nat):∃G',SR K H0 G0 σ H G' (M.frz1 i ρ)/\∀b ys,G' b=some (.tup ys)->G b=some (.tup ys):=by
 unfold M.frz1
 split
 .rename_i l hl
  exact s.freezeT hl
 .rename_i t ks vs hl
  exact s.freezedT hl
 .exact⟨G,s,λ_ _ h=>h⟩
theorem SR.frzT:∀(a:AE) {G:Hp}{ρ:Ro},SR K j c σ H G ρ->∃f,SR K j c σ H f (M.frz a ρ)/\∀b ys,f b=some (.tup ys)->G b=some (.tup ys)
 | [],G,_,s=>⟨G,s,λ_ _ h=>h⟩
 | i::a,_,ρ,s=>by
   obtain⟨f,m,g⟩:=s.frz1T i;obtain⟨k,l,d⟩:=SR.frzT a m;exact⟨k,l,λb ys e=>g b ys (d b ys e)⟩
def wF(a:AE)(f:AR):AR:=λb=>f (frz a b)
noncomputable def ar(i:Nat)(f:AU):AR:=λa=>(f a).map λd=>.nx (a.set i (↑d))
noncomputable def bf(i:Nat)(f:AV):AR:=λa=>(f a).map λl=>.nx (a.set i (some (.ow l)))
def C6(h:vS K (ar i f) F σ H):gk (tOf K f) (mH i) F σ H:=by
 obtain⟨o,n,m,l,G,e,s,h⟩:=h;obtain⟨d,c,rfl⟩:=qc e;exact tOf.at c s λv b j k a g=>h _ b j (g.set_sh i a)
def C7(h:vS K (bf i gl) F σ H):gk (iE K gl) (mH i) F σ H:=by
 obtain⟨o,m,d,k,G,e,s,h⟩:=h;obtain⟨l,c,rfl⟩:=qc e;exact⟨o,l,d,k,G,c,s,λp q n f g a j b r=>h _ n f (s.set_ow i g a j b r)⟩
theorem pj(i:Nat)(a:X.N.Nodup)(g:ME X e f)(c:X.N[i]?=some x:=by rfl)(b:c8 X.env.scope x:=by trivial)(hs:swapsWith e (some (.Name x pos')) pos.line X.env=pure false:=by rfl)(d:aaf X x:=by trivial):MS X (.Assign [.Name x pos'] e pos) (ar i f):=PS.imp (mJ a c b g hs d) λ_ _ _ h=>C6 h
noncomputable def ah(f:AU):AR:=λa=>(f a).map .rt
noncomputable def aM(c:AT)(f g:AR):AR:=λa=>(c a).bind λk=>if k=true then f a else g a
def kU(i:Nat)(f:AU):AR:=λc=>(ab i c).bind λx=>(f c).bind λy=>(i2 (λ_ _=>true) (λa b=>a+b) x y).map λz=>.nx (c.set i (↑z))
def dg(i:Nat)(f:AU)(g:AN->D->Option AN):AR:=λb=>(dI i b).bind λl=>(f b).bind λd=>(g l d).map λa=>.nx (b.set i (some (.ow a)))
theorem pk(s:SR K k b σ H G ρ)(h:dI i ρ=some l):∃a xs,σ[i]?=some (some (V.ref a))/\H a=some (.lst xs)/\RpL K G l xs/\G a=none:=by
 obtain⟨a,xs,j,g,c,d,m⟩:=s.ow i l (CF h)
 ext
def cf(l:AN)(d:D):Option AN:=if l.length<aA then some (l++[d])else none
def gu(l:ds.length<=sizeLine)(h:∀(i:Nat) a b,Same G' b->Same b a->(∀d,ds[i]?=some d->J.go i a/\∀y g,J.yld i a y g->g=a/\Rp K b d y)/\(ds.length<=i->J.stop i a)):Wk K J G' ds:=
 ⟨l,λi a b j c=>⟨λd k=>⟨((h i a b j c).1 d k).1,λy g q=>by
  obtain⟨rfl,r⟩:=((h i a b j c).1 d k).2 y g q
  exact⟨b,.refl c,r⟩⟩,(h i a b j c).2⟩⟩
def C8(K:W7)(c:TE):TI:=λe H R=>c e H λx b=>∃a d,x=.ref a/\((SqL K b a d/\(d.length<=sizeLine->R (Nd K a) b))\/(SqT K b a d/\(d.length<=sizeLine->R (Nf K a) b)))
theorem C9(t:PE X l u):PI X tg l (C8 X.K u):=by
 intro w s z H R I h;refine aL (t _ s z H _ I h) λv d k=>?_;obtain⟨x,m,c,n,j⟩:=k;obtain⟨a,A,e,j⟩:=j;subst e;cases n;rcases j with⟨i,q⟩|⟨i,q⟩
 .obtain⟨f,r,p,g⟩:=c.list i
  refine wpAny_pyIter_list p.isList (⟨d.heap.objs.size,[d.heap.objs.size],_,_,m,rfl,c.kept λb o e=>qe _ e,S4 a _,⟨_,qp _ rfl,rfl,rfl⟩,λb y=>?_,q g⟩)
  have e:b=d.heap.objs.size:=by symm
  subst e;exact c.fpOk (qv _) (c.hok.fresh (qv _))
 .obtain⟨f,r,p,g⟩:=c.tuple i
  refine wpAny_pyIter_tuple (p) (⟨d.heap.objs.size,[d.heap.objs.size],_,_,m,rfl,c.kept λb o e=>qe _ e,S5 a _,⟨_,qp _ rfl,rfl,rfl⟩,λb y=>?_,q g⟩)
  have e:b=d.heap.objs.size:=by symm
  subst e;exact c.fpOk (qv _) (c.hok.fresh (qv _))
noncomputable def dh(a n:Int):AN:=(List.range (n-a).toNat).map λi=>.int (a+(i:Nat))
def Od(a n:Int):(dh a n).length=(n-a).toNat:=by simp[dh]
theorem pq(k:(n-a).toNat<=sizeLine):Wk K (ox a (n-a).toNat) G' (dh a n):=
 gu (by rwa [Od]) λi h g _ _=>⟨λd c=>by
  unfold dh at c;rw[Qm]at c;obtain⟨j,b,rfl⟩:=qc c
  have e:i<(n-a).toNat:=by
   have:=(qo b).1;simpa using this
  rw[List.getElem?_range e]at b;cases b
  exact⟨e,λy l q=>⟨q.1,q.2⟩⟩,λf=>by rwa [Od]at f⟩
def di:AN->Option AN
 | [.int n]=>if decide (-aA<=n)&&decide (n<=aA)then some (dh 0 n)else none
 | _=>none
def eS:AN->Option AN
 | [.int a,.int n]=>if decide (-aA<=a)&&decide (a<=aA)&&decide (-aA<=n)&&decide (n<=aA)then some (dh a n)else none
 | _=>none
theorem C_(h:di l=some b):∃n:Int,l=[.int n]/\-1000000<=n/\n<=1000000/\b=dh 0 n:=by
 unfold di at h
 split at h
 .split at h
  .have a:aA=1000000:=by decide
   ext
  .cases h
 .cases h
theorem Da(h:eS l=some ds):∃a n:Int,l=[.int a,.int n]/\-1000000<=a/\a<=1000000/\-1000000<=n/\n<=1000000/\ds=dh a n:=by
 unfold eS at h
 split at h
 .rename_i a n
  split at h
  .rename_i c
   cases h;simp [wm]at c
   have b:(aA:Int)=1000000:=by decide
   exact⟨a,n,rfl,by ext,by ext,by ext,by ext,rfl⟩
  .cases h
 .cases h
noncomputable def aj(i:Nat):AS:=λd a=>some (a.set i (↑d))
noncomputable def fD(i j:Nat):AS:=λd c=>match d with
 | .tup [a,b]=>some ((c.set i (↑a)).set j (↑b))
 | _=>none
noncomputable def forM(gt:AS)(fb:AR):AN->AR
 | [],ρ=>some (.nx ρ)
 | d::ds,ρ=>(gt d ρ).bind λb=>(fb b).bind fun
   | .nx a=>forM gt fb ds a
   | .ct a=>forM gt fb ds a
   | .bk a=>some (.nx a)
   | .rt d=>some (.rt d)
def bq(gl:AV)(gt:AS)(fb:AR):AR:=λa=>(gl a).bind λb=>forM gt fb b a
theorem Oe:∀(f:AN) (ρ:Ro) (e:Out),forM gt fb f ρ=some e->(∃ρ',e=.nx ρ')\/∃d,e=.rt d
 | [],ρ,e,h=>by cases h;grind
 | d::f,ρ,e,h=>by
   obtain⟨b,g,h⟩:=qa h;obtain⟨o,c,h⟩:=qa h
   cases o with
   | nx a=>exact Oe f a e h
   | ct a=>exact Oe f a e h
   | bk a=>grind
   | rt d=>grind
noncomputable def dw(fc:AT)(fb:AR):Nat->AR
 | 0,_=>none
 | n+1,ρ=>(fc ρ).bind λk=>if k=true then (fb ρ).bind fun
  | .nx ρ2=>dw fc fb n ρ2
  | .ct ρ2=>dw fc fb n ρ2
  | .bk ρ2=>some (.nx ρ2)
  | .rt d=>some (.rt d)
  else some (.nx ρ)
noncomputable def ao(a:List AL)(ρ:Ro):Ro:=a.map λo=>o.bind λj=>match ρ[j]? with
 | some (some (.sh d))=>some (.sh d)
 | _=>none
theorem SR.cap(s:SR K p n σ H G ρ)(e:List AL):SR K H G (dE e σ) H G (ao e ρ):=by
 refine .mkSh (.refl s.seen) (by simp[dE,ao]) (λi d h=>?_) (λi l h=>by
  unfold ao at h;rw[Qm]at h;obtain⟨o,c,b⟩:=qc h;obtain⟨j,rfl,a⟩:=qa b
  split at a<;>cases a) (λi t r f h=>by
  unfold ao at h;rw[Qm]at h;obtain⟨o,c,b⟩:=qc h;obtain⟨j,rfl,a⟩:=qa b
  split at a<;>cases a)
 unfold ao at h;rw[Qm]at h;obtain⟨o,c,b⟩:=qc h;obtain⟨j,rfl,a⟩:=qa b
 split at a
 .rename_i q k
  cases a;obtain⟨v,m,g⟩:=s.sh j _ k;refine⟨v,?_,g⟩;unfold dE;rw[Qm,c];show some ((σ[j]?).join)=_;rw[m];rfl
 .cases a
noncomputable def cS(gt:AS)(fc:AT)(fe:AU)(ρ:Ro):AN->Option AN
 | []=>some []
 | d::ds=>(gt d ρ).bind λa=>(fc a).bind λk=>if k=true then (fe a).bind λv=>(cS gt fc fe ρ ds).map (v::·)else cS gt fc fe ρ ds
def Yw(gl:AV)(a:List AL)(gt:AS)(fc:AT)(fe:AU):AV:=λb=>(gl b).bind λc=>cS gt fc fe (ao a b) c
def tY:AT:=λ_=>some true
def De(h:tTof K tY σ H Q):oR σ H Q:=by
 obtain⟨c,k,b,a,G,e,s,h⟩:=h;cases e;exact h H G (.refl s.seen)
def Df:ef X [] (tTof X.K tY):=λa s b H Q I h=>Ce _ s b H Q I (De h)
def pv(h:src[i]?=some none):∀ρ d a,aj i d (ao src ρ)=some a->Le (ao src ρ) a:=λρ d a e=>by
 cases e;refine⟨by simp,λj b c=>?_⟩;by_cases f:j=i
 .subst f
  unfold ao at c;rw[Qm,h]at c;cases c
 .rwa [Qp (.symm f)]
def Dg{f:List AL}{i k:Nat}(h:f[i]?=some none)(m:f[k]?=some none):∀ρ d a,fD i k d (ao f ρ)=some a->Le (ao f ρ) a:=λρ d a e=>by
 unfold fD at e
 split at e
 .cases e
  refine⟨by simp,λj b l=>?_⟩
  have c:∀n,f[n]?=some none->j≠n:=λn g z=>by
   subst z;unfold ao at l;rw[Qm,g]at l;cases l
  rwa [Qp (.symm (c k m)),Qp (.symm (c i h))]
 .cases e
theorem pA(hle:∀ρ d u,gt d (ao src ρ)=some u->Le (ao src ρ) u)(h:iE K (Yw gl src gt fc fe) σ H Q):Cf (oW K gl) src (N8 K gt) (tTof K fc) (tOf K fe) σ H Q:=by
 obtain⟨ρ,l,H0,G0,G,e,s,h⟩:=h;obtain⟨ds,h1,N⟩:=qa e;refine⟨ρ,ds,H0,G0,G,h1,s,λJ H1 R g1 wk p V=>?_⟩;have s1:=s.grow g1;have sc:=s1.cap src;have gp:R p=none:=s1.seen.free V
 refine⟨λi m σ' H'=>m=ds.length-i/\i<=ds.length/\∃G' a D c,SR K H1 R σ' H' G' (ao src ρ)/\H' p=some (.lst D)/\G' p=none/\RpL K G' a D/\D.length<=i/\cS gt fc fe (ao src ρ) (ds.drop i)=some c/\a++c=l,
  ⟨_,rfl,Qh _,R,[],[],l,sc.grow (Gr.hid s1.seen V _),Yh,gp,.nil,Qh _,N,rfl⟩,?_⟩
 rintro i m σ' H' ⟨rfl,hi,G',a,D,c,s',hx,gx,rx,hl,n,T⟩;have W:=wk.2 i H' G' s'.gr.g s'.seen;by_cases A:i<ds.length
 .have hdi:=qr A
  obtain⟨go,yl⟩:=W.1 _ hdi;rw[List.drop_eq_getElem_cons A,cS]at n;obtain⟨u,e1,n⟩:=qa n;obtain⟨k,e2,n⟩:=qa n;refine .inr ⟨go,λx H2 y=>?_⟩;obtain⟨G2,U,r2⟩:=yl x H2 y
  have r:∀{Ha Z Hb S:Hp},Gr Ha Z Hb S->Ha p=some (.lst D)->Z p=none->Hb p=some (.lst D)/\S p=none:=λ{Ha Z Hb S} g e1 e2=>by
   refine⟨g.h _ _ e1,?_⟩
   cases q:S p with
   | none=>rfl
   | some o=>
     have:=g.n p e2 (by rw[q];exact λz=>nomatch z);rw[e1]at this;cases this
  obtain⟨hx2,gx2⟩:=r U hx gx;refine⟨_,ao src ρ,u,H1,R,G2,e1,s'.grow U,r2,λσ3 s3=>?_⟩;refine tTof.at e2 s3 λH4 G4 g4 s4=>?_;obtain⟨I,O⟩:=r g4 hx2 gx2;have le:=hle ρ _ u e1
  cases k with
  | false=>
    exact⟨ds.length-(i+1),by symm,rfl,A,G4,a,D,c,s4.le le,I,O,(rx.mono U.g).mono g4.g,by ac_nf,n,T⟩
  | true=>
    rw[if_pos rfl]at n ⊢;obtain⟨v,e3,n⟩:=qa n;obtain⟨C,e4,rfl⟩:=qc n;refine tOf.at e3 s4 λw H5 G5 g5 r5 s5=>?_;obtain⟨Y,L⟩:=r g5 I O;have hz:=wk.1;refine⟨D,Y,by ac_nf,ds.length-(i+1),by symm,rfl,A,G5,a++[v],D++[w],C,?_,Yh,L,(((rx.mono U.g).mono g4.g).mono g5.g).append (.one r5),by simp;ac_nf,e4,by simpa using T⟩;have E:=s5.le le
    have P:∀(i:Nat) l,(ao src ρ)[i]?≠some (some (B.ow l)):=λi l h=>by
     unfold ao at h;rw[Qm]at h;obtain⟨o,h1,N⟩:=qc h;obtain⟨j,rfl,F⟩:=qa N
     split at F<;>cases F
    have M:∀(i:Nat) t ks vs,(ao src ρ)[i]?≠some (some (B.od t ks vs)):=λi t ks vs h=>by
     unfold ao at h;rw[Qm]at h;obtain⟨o,h1,N⟩:=qc h;obtain⟨j,rfl,F⟩:=qa N
     split at F<;>cases F
    refine SR.mkSh ⟨λb o q=>?_,E.gr.g,λb o q=>?_,E.gr.n⟩ E.len E.sh P M
    .rw[Ym (Yk q V)];exact E.gr.h b o q
    .rw[Ym (Yk q L)];exact E.gr.s b o q
 .have ei:i=ds.length:=by ac_nf
  subst ei;rw[List.drop_length,cS]at n;cases n;rw[w6]at T;subst T;exact .inl ⟨W.2 (qv _),h p D H' G' (g1.trans s'.gr) (g1.h.free V) gx hx rx⟩
section
variable {N:AJ}{src:List AL}{gt:AS}{fc:AT}{fe:AU}
def Dh(S:fW X.N X.env.scope N src scope)(l:X.calm=true)(i:MI X tg iter gl)(j:∀a C b s H,MG (cN X scope N a C b s H) tg gt)(m:∀a C b s H,ef (cN X scope N a C b s H) ifs (tTof X.K fc))(k:∀a C b s H,ME (cN X scope N a C b s H) elt fe)(g:∀ρ d c,gt d (ao src ρ)=some c->Le (ao src ρ) c)(hs:∀x,foldedSetIterable iter X.env x=pure x:=by intro _;rfl):MF X (.ListComp elt [⟨tg,iter,ifs,0⟩] scope pos) (Yw gl src gt fc fe):=
 PE.imp (Cj S l i j m k hs) λ_ _ _ h=>pA g h
theorem Di(i:Nat){o a:Pos}(f:X.N.Nodup)(S:fW X.N X.env.scope N src scope)(E:X.calm=true)(m:MI X tg iter gl)(J:∀j C b s H,MG (cN X scope N j C b s H) tg gt)(w:∀j C b s H,ef (cN X scope N j C b s H) ifs (tTof X.K fc))(B:∀j C b s H,ME (cN X scope N j C b s H) elt fe)(k:∀ρ d c,gt d (ao src ρ)=some c->Le (ao src ρ) c)(n:swapsWith (.ListComp elt [⟨tg,iter,ifs,0⟩] scope pos) (some (.Name y o)) a.line X.env=pure true:=by rfl)(u:X.N[i]?=some y:=by rfl)(v:c8 X.env.scope y:=by trivial)(A:aaf X y:=by trivial)(hs:∀x,foldedSetIterable iter X.env x=pure x:=by intro _;rfl):MS X (.Assign [.Name y o] (.ListComp elt [⟨tg,iter,ifs,0⟩] scope pos) a) (bf i (Yw gl src gt fc fe)):=
 PS.imp (Ck S E m J w B f u v n A hs) λF R H h=>by
  obtain⟨ρ,D,z,q,G,e,s,h⟩:=h;obtain⟨l,t,rfl⟩:=qc e;exact pA k ⟨ρ,l,z,q,G,t,s,λp Q M K g O I L r=>h _ M K (s.set_ow i g O I L r)⟩
end
noncomputable def Yd(n:Nat)(a:AN):Ro:=a.map (λd=>some (.sh d))++.replicate (n-a.length) none
noncomputable def ak(k n:Nat)(fb:AR)(a:AN):Option D:=if a.length=k then (fb (Yd n a)).bind fun
 | .rt d=>some d
 | .nx _=>some .non
 | _=>none
 else none
theorem SR.start(s:Same G H)(r:RpL K G ds vs):SR K H G (start N vs) H G (Yd N.length ds):=by
 refine .mkSh (.refl s) (by simp[L2.start,Yd,r.length]) (λi d h=>?_) (λi l h=>by
  unfold Yd at h
  symm) (λi t f vs h=>by
  unfold Yd at h
  symm)
 unfold Yd at h;rw[List.getElem?_append]at h
 split at h
 .rw[Qm]at h
  obtain⟨k,a,g⟩:=qc h;obtain⟨v,c,j⟩:=r.get a;unfold L2.start;symm
 symm
section
variable {P:P7}{w:World}
theorem Dj{f:Addr}(F:Fun K x c st f u)(S:fV N I (aFa st))(p:N.length=n)(j:I.length=m)(T:∀(b:Value) (A:Around) (a:List Env) (s:Shared) (H:Hp) (E:XK),Room k (A.deeper (envOfC c (aFa st) (~~~s) f b))->MB (cW dS P w K mg base N c (aFa st) f b A a s H E).nox (aHa st) fb):
 cA P w K mg base dS (k+1) f u I (de K m (ak m n fb)):=by
 refine F.ok S (λM H Q E h=>by rw[h.1,j]) λb A a s H M Q E t h=>?_;obtain⟨B,L,d,G,l,r,e,q⟩:=h;refine⟨_,T b A a s H E t,?_⟩;unfold ak at e
 split at e
 .obtain⟨o,z,i⟩:=qa e
  refine⟨Yd n L,o,H,G,G,z,by rw[<-p];exact .start l r,?_⟩
  cases o with
  | rt U=>cases i;exact λv C D g y=>q v C D g y
  | nx J=>cases i;exact λO C D R=>q _ C D R.gr (by rw[Rp])
  | bk J=>cases i
  | ct J=>cases i
 .cases e
end
end
def aB(P:P7)(w:World)(K:W7)(d:AD)(b:Heap)(k n:Nat)(x:Str)(f:AJ)(e:AN->Option D):Prop:=
 ∃a c,cA P w K d b dS k a c f (de K n e)/\Binds K c f []/\W.keepIn K (.ref a)=true/\d x=some (.ref a)
def Dk{st:Stmt}(F:Fun K x q st a d)(b:Binds K d i [])(g:e x=some (.ref a))(h:cA P w K e c dS k a d i (de K n f)):aB P w K e c k n x i f:=⟨a,d,h,b,F.kp,g⟩
section
variable {a b e:Expr}{fb:AU}
noncomputable def bE:D->Option D
 | .int i=>some (.int (-i))
 | _=>none
def cu:D->D->Option AN
 | .lst a,.lst b=>if a.length+b.length<=aA then some (a++b)else none
 | _,_=>none
def Dl:R2:=λx y H Q=>∃l b a c,x=.ref l/\y=.ref b/\Rd H l (.lst a)/\Rd H b (.lst c)/\a.length+c.length<=sizeLine/\∀p,H p=none->Q (.ref p) (upd H p (.lst (a++c)))
theorem Dm:bX X (binaryOp .Add) Dl:=by
 intro C s F H x y v u Q I k f h;obtain⟨l,b,E,t,rfl,rfl,j,i,o,q⟩:=h;cases k;cases f;obtain⟨z,a,n,r,e⟩:=j.ok I.hok;obtain⟨w,c,A,d,D⟩:=i.ok I.hok;have p:=r.length;have m:=d.length;refine PySem.P.add_list e D ?_ (by ext)
 have g:a.toArray++c.toArray=(a++c).toArray:=by simp
 rw[g];exact⟨.ref _,_,I.lnew (r.append d) (by grind),rfl,q _ I.fresh⟩
noncomputable def eD:D->String
 | .non=>"NoneType"
 | .bl _=>"bool"
 | .int _=>"int"
 | .str _=>"str"
 | .tup _=>"tuple"
 | .lst _=>"list"
 | .scr _=>"list"
 | .dct _ _ _=>"dict"
 | .obj _ _ _=>"dict"
 | .adr _=>"dict"
noncomputable def gw:D->Bool
 | .scr _=>false
 | .dct t _ _=>!t
 | .obj _ _ _=>false
 | .adr _=>false
 | _=>true
def cg(T:String)(d:D):Option Bool:=if gw d=true then some (eD d==T||(T=="int"&&eD d=="bool"))else none
def Dn(c:gw d=true)(r:Ct K G H d v):cP K H v (.type (eD d)):=by
 cases d<;>rw[Ct]at r
 .subst r;exact .non
 .subst r;exact .bl _
 .subst r;exact .int _
 .obtain⟨rfl,_⟩:=r;exact .str _
 .obtain⟨a,b,rfl,g,_⟩:=r;exact .tup g.1
 .obtain⟨a,b,rfl,g,_⟩:=r
  rcases g with g|⟨o,g⟩
  .exact .lst g
  .exact .frz g
 .cases c
 .rename_i t _ _
  cases t with
  | true=>cases c
  | false=>
    obtain⟨a,_,_,rfl,g,_⟩:=r;rcases g with⟨_,_,g,_⟩|⟨g,_⟩
    .exact .dK g
    .cases g
 .cases c
 .cases c
def mT(T:String):Prop:=∀(K:W7) (d:D),W.kitOne K (.type (eD d)) (.type T)=some (eD d==T||(T=="int"&&eD d=="bool"))
def Do:mT "int":=λK d=>by cases d<;>rfl
def Dp:mT "bool":=λK d=>by cases d<;>rfl
def Dq:mT "str":=λK d=>by cases d<;>rfl
def Ds:mT "tuple":=λK d=>by cases d<;>rfl
def Dt(i:mT T):dD X (.builtin "isinstance") (λxs H Q=>∃x d G,xs=[x,.ty T]/\gw d=true/\Ct X.K G H d x/\Q (.bl (eD d==T||(T=="int"&&eD d=="bool"))) H):=by
 intro a s l H xs e Q I r h;obtain⟨x,d,G,rfl,j,f,q⟩:=h;obtain⟨u,k,rfl,c,g⟩:=oD r;cases (g)
 exact Th I c (Dn j f) (i X.K d) λb=>⟨.bl _,H,I.tok b,rfl,q⟩
end
noncomputable def eT(a:Int):AF->AF
 | []=>[a]
 | b::l=>if a<=b then a::b::l else b::eT a l
noncomputable def dy:AF->AF
 | []=>[]
 | a::l=>eT a (dy l)
theorem Du(a:Int):∀l:AF,(eT a l).Perm (a::l)
 | []=>.refl _
 | b::l=>by
   rw[eT]
   split
   .exact .refl _
   .exact((Du a l).cons b).trans (.swap a b l)
theorem fo:∀l:AF,(dy l).Perm l
 | []=>.refl _
 | a::l=>(Du a _).trans ((fo l).cons a)
theorem Of(a:Int):∀l:AF,l.Pairwise (·<=·)->(eT a l).Pairwise (·<=·)
 | [],_=>by simp[eT]
 | b::l,h=>by
   rw[eT]
   split
   .rename_i d
    refine List.pairwise_cons.mpr ⟨λx c=>?_,h⟩;rcases qu c with rfl|c
    .exact d
    .exact Int.le_trans d ((List.pairwise_cons.mp h).1 x c)
   .refine List.pairwise_cons.mpr ⟨λx c=>?_,Of a l (List.pairwise_cons.mp h).2⟩
    rcases qu ((Du a l).mem_iff.mp c)with rfl|c
    .lia
    ext
theorem hE:∀l:AF,(dy l).Pairwise (·<=·)
 | []=>.nil
 | a::l=>Of a _ (hE l)
section
variable {w:World}{A:Around}{E:AA}{s:Shared}
theorem T3(m:s.heap.IsList l vs.toArray)(n:vs.length<2)(h:Q (.ref (~~~s+1)) {s with heap:=sortedAll s.heap vs vs.toArray}):wpAny (mZ prog w) A (call (.builtin "sorted") [.ref l]) Q E s:=by
 refine Calls.call_function_entry kind_sorted plain_sorted entry_sorted (args_sorted1 _) ?_;refine wa (wb ?_);refine wa (collect_list m ?_ (by rw[jg];ac_nf));refine wa (wpAny_newList ?_ (by rw[jg];ac_nf))
 have e:((s.heap.push (seqObj "list" #[] 0)).update (~~~s) (Obj.mapSeq (·++vs.toArray))).objs.size= ~~~s+1:=by
  ext
 have g:(((s.heap.push (seqObj "list" #[] 0)).update (~~~s) (Obj.mapSeq (·++vs.toArray))).push (seqObj "list" vs.toArray 0)).get? (~~~s+1)=some (seqObj "list" vs.toArray 0):=by
  rw[<-e];exact qp _ rfl
 rw[e];refine wa (wc (we slot_list_sort ⟨_,g,rfl⟩ entry_list_sort ?body (args_list_sort _)))
 case body=>
  rw[list_sort_plain];generalize j:({s with heap:=((s.heap.push (seqObj "list" #[] 0)).update (~~~s) (Obj.mapSeq (·++vs.toArray))).push (seqObj "list" vs.toArray 0)})=S at *
  have a:S.heap.get? (~~~s+1)=some (seqObj "list" vs.toArray 0):=by symm
  have o:=ql a;refine wa (listItems_at a rfl ?_);refine wa (listUpdate_at a rfl ?_ (by rw[qk,jg];ac_nf) (Qh _))
  obtain⟨p,c⟩:∃p,(S.heap.update (~~~s+1) (Obj.mapSeq λ_=>#[])).get? (~~~s+1)=some (seqObj "list" #[] p):=⟨_,get?_update_seq a (λ_=>#[])⟩
  refine wa (seqEpoch_at c rfl ?_);refine wa (wpAny_newTuple ?_ (by rw[jg];ac_nf));refine wa (wpAny_newList ?_ (Qh _));refine wc ?_
  have b:(((S.heap.update (~~~s+1) (Obj.mapSeq λ_=>#[])).push (seqObj "tuple" vs.toArray 0)).push (seqObj "list" #[] 0)).get? (~~~s+1)=some (seqObj "list" #[] p):=by
   rw[Heap.get?_push_ne _ _ _ (by rw[size_push',Heap.size_update];(subst_vars;simp)),Heap.get?_push_ne _ _ _ (by rw[Heap.size_update];(subst_vars;simp))];exact c
  have d:vs.toArray.size<2:=by omega
  rw[if_pos d,if_pos d];refine wa (wb ?_);refine wa (wb ?_);dsimp only;refine wa (seqEpoch_at b rfl ?_);refine wa (listUpdate_at b rfl ?_ (hsz2:=by symm));simp only[bne_self_eq_false,Qo,if_false]
  have f:(arrOf (SortSt.mk' general' (vs.toArray.zip vs.toArray) #[] 7 none)).map (·.2)=vs.toArray:=by
   symm
  refine wb ⟨_,rfl,wb ⟨_,rfl,?_⟩⟩;have k:=h;rw[<-j,f];exact k
noncomputable def dX(j:Int)(q:Bool)(i:Int)(p:Bool):Bool:=if j=i then (!q&&p)else decide (j<i)
theorem Dv(z:IsTup s.heap b #[.int i t,.bool p])(k:IsTup s.heap c #[.int j u,.bool q])(h:R (dX j q i p) s):
 wpAny (mZ prog w) A (keyLt' (tuples' true) (.ref c) (.ref b)) R E s:=by
 obtain⟨r,f,_,o,m⟩:=z;obtain⟨v,g,_,n,l⟩:=k;refine W.kat_lt g l f m ?_;show W.KatLex _ w A _ false R _ 0 s;unfold dX at h;refine W.kat_cons (SeqAt.EqAt.int_int j u i t _ w _ _ (W.kat_go (λe=>W.kat_yes (W.kat_cons (SeqAt.EqAt.bool_bool q p _ w _ _ (W.kat_go (λy=>W.kat_yes (W.kat_nil ?_)) λy=>W.kat_no (W.kat_one _ _ (lt_bool ?_)))))) λe=>W.kat_no ?_))
 .simp_all
 .have d:=by simpa using e
  rw[if_pos d]at h
  cases p<;>cases q<;>first|exact h|simp at y
 .have d:=by simpa using e
  rw[if_neg d]at h;exact oneLt_int h
def T4(h:cmp 1 0 (λk s'=>if k=true then G #[1,0] s' else G #[0,1] s') S):(W.kas_sort 2).kasWp cmp G S:=by
 show cmp 1 0 (λk s'=>W.KasT.kasWp cmp _ G s') S
 have e:∀(k:Bool) (s':Shared),(if k=true then G #[1,0] s' else G #[0,1] s')=W.KasT.kasWp cmp (W.KasT.bind (W.KasT.bind (if k=true then W.KasT.ret 1 else W.kas_asc (List.toArray (List.range 2)) 0 2)
  λn=>if (n==2)=true then W.KasT.ret (n,List.toArray (List.range 2))else if n > 1 then .ask ((List.toArray (List.range 2)).getD 0 0) ((List.toArray (List.range 2)).getD (n-1) 0) λc=>if c=true then .ret (n,List.toArray (List.range 2))else W.kas_descPart n 2 (W.kas_rev (List.toArray (List.range 2)) 0 n)
   else W.kas_descPart n 2 (List.toArray (List.range 2))) λr=>if r.1<2 then W.kas_bin (2-max r.1 1) r.2 (max r.1 1)else .ret r.2) G s':=λk s'=>by cases k<;>rfl
 have e2:(fun(k:Bool) (s':Shared)=>if k=true then G #[1,0] s' else G #[0,1] s')=_:=funext λk=>funext λs'=>e k s';rw[e2]at h;exact h
theorem T5(Z:s.heap.IsList l #[.ref b,.ref c])(hb:IsTup s.heap b #[.int i t,.bool p])(H:IsTup s.heap c #[.int j u,.bool q])(h:Q (.ref (~~~s+1)) {s with heap:=sortedAll s.heap [.ref b,.ref c] (if dX j q i p=true then #[.ref c,.ref b]else #[.ref b,.ref c])}):wpAny (mZ prog w) A (call (.builtin "sorted") [.ref l]) Q E s:=by
 generalize m:[Value.ref b,Value.ref c]=vs at *;have J:s.heap.IsList l vs.toArray:=Z
 have D:vs.length=2:=by(subst_vars;simp)
 refine Calls.call_function_entry kind_sorted plain_sorted entry_sorted (args_sorted1 _) ?_;unfold Builtin.«sorted»;refine wa (m:=checkCount "sorted" 1 1 _) (wb ?_);refine wa (collect_list J ?_ (by rw[jg];lia));refine wa (wpAny_newList ?_ (by rw[jg];lia))
 have y:((s.heap.push (seqObj "list" #[] 0)).update (~~~s) (Obj.mapSeq (·++vs.toArray))).objs.size= ~~~s+1:=by
  ext
 have L:(((s.heap.push (seqObj "list" #[] 0)).update (~~~s) (Obj.mapSeq (·++vs.toArray))).push (seqObj "list" vs.toArray 0)).get? (~~~s+1)=some (seqObj "list" vs.toArray 0):=by
  rw[<-y];exact qp _ rfl
 have M:∀b o,s.heap.get? b=some o->(((s.heap.push (seqObj "list" #[] 0)).update (~~~s) (Obj.mapSeq (·++vs.toArray))).push (seqObj "list" vs.toArray 0)).get? b=some o:=λb o q=>by
  have a:b< ~~~s:=ql q;rw[Heap.get?_push_ne _ _ _ (by ext<;>lia),Heap.get?_update_ne _ _ _ _ (qm a),Heap.get?_push_ne _ _ _ (qm a)];exact q
 rw[y];refine wa (wc (we slot_list_sort ⟨_,L,rfl⟩ entry_list_sort ?body (args_list_sort _)))
 case body=>
  rw[list_sort_plain];generalize hS:({s with heap:=((s.heap.push (seqObj "list" #[] 0)).update (~~~s) (Obj.mapSeq (·++vs.toArray))).push (seqObj "list" vs.toArray 0)})=S at *
  have d:S.heap.get? (~~~s+1)=some (seqObj "list" vs.toArray 0):=by grind
  have ha:(~~~s)+1<S.heap.objs.size:=ql d;refine wa (listItems_at d rfl ?_);refine wa (listUpdate_at d rfl ?_ (by rw[qk,jg];lia) (Qh _))
  obtain⟨e1,C⟩:∃e1,(S.heap.update (~~~s+1) (Obj.mapSeq λ_=>#[])).get? (~~~s+1)=some (seqObj "list" #[] e1):=⟨_,get?_update_seq d (λ_=>#[])⟩
  refine wa (seqEpoch_at C rfl ?_);refine wa (wpAny_newTuple ?_ (by show vs.length<=_;rw[jg];lia));refine wa (wpAny_newList ?_ (Qh _));refine wc ?_
  have V:(((S.heap.update (~~~s+1) (Obj.mapSeq λ_=>#[])).push (seqObj "tuple" vs.toArray 0)).push (seqObj "list" #[] 0)).get? (~~~s+1)=some (seqObj "list" #[] e1):=by
   rw[Heap.get?_push_ne _ _ _ (by rw[size_push',Heap.size_update];grind),Heap.get?_push_ne _ _ _ (by rw[Heap.size_update];grind)];exact C
  have I:∀b o,s.heap.get? b=some o->(((S.heap.update (~~~s+1) (Obj.mapSeq λ_=>#[])).push (seqObj "tuple" vs.toArray 0)).push (seqObj "list" #[] 0)).get? b=some o:=λb o q=>by
   have a:b< ~~~s:=ql q;refine qe _ (qe _ ?_);rw[Heap.get?_update_ne _ _ _ _ (qm (qx a))];grind
  generalize hS6:({S with heap:=((S.heap.update (~~~s+1) (Obj.mapSeq λ_=>#[])).push (seqObj "tuple" vs.toArray 0)).push (seqObj "list" #[] 0)})=g
  have B:g.heap.get? (~~~s+1)=some (seqObj "list" #[] e1):=by grind
  have N:IsTup g.heap b #[.int i t,.bool p]:=by
   obtain⟨o,O,z⟩:=hb;exact⟨o,by grind,z⟩
  have R:IsTup g.heap c #[.int j u,.bool q]:=by
   obtain⟨o,O,z⟩:=H;exact⟨o,by grind,z⟩
  dsimp only
  have F:¬vs.toArray.size<2:=by ext
  rw[if_neg F,if_neg F]
  have Y:W.KatTups g.heap vs [.int i t,.int j u]:=by
   obtain⟨ob,b1,b2,n1,b3⟩:=N;obtain⟨oc,X,c2,n2,c3⟩:=R;rw[<-m];exact .cons b1 b2 b3 rfl (.cons X c2 c3 rfl .nil)
  refine wa (W.kat_kind (T:=.type "int") Y (qx (Qa 0)) (λv r=>?_) (by decide) ?_)
  .rcases qu r with rfl|r
   .exact .of_pure rfl
   .rcases qu r with rfl|r
    .exact .of_pure rfl
    .cases r
  have n:wpAny (mZ prog w) A.in1.in1 (keyLt' (tuples' true) (vs.getD 1 Value.none) (vs.getD 0 Value.none)) (λk s'=>k=dX j q i p/\s'=g) (λ_ _=>False) g:=by
   rw[<-m];exact Dv N R ⟨rfl,rfl⟩
  refine wa (wz (W.kat_run (ks:=vs) (vs:=vs) (κ:=tuples' true) (G:=λP s'=>s'=g/\P=if dX j q i p=true then #[1,0]else #[0,1])
   (Q:=λf s'=>s'=g/\failedOf f=none/\(arrOf f).map (·.2)=if dX j q i p=true then #[.ref c,.ref b]else #[.ref b,.ref c]) rfl (by lia) (by ext) (λP f s' O z a3 a4=>?_) ?_) ?_ λ_ _ e=>e)
  .obtain⟨rfl,rfl⟩:=a4
   refine⟨rfl,a3,?_⟩;rw[W.kat_snds rfl z,<-m];grind
  .rw[D]
   refine T4 ?_;refine wz n (λk s' hk=>?_) λ_ _ x=>x
   ext
  rintro⟨⟨⟩,f⟩ s' ⟨rfl,U,G⟩;dsimp only;refine wa (seqEpoch_at B rfl ?_);refine wa (listUpdate_at B rfl ?_ (Qh _) (by rw[G,jg];split<;>ext));rw[U];simp only[bne_self_eq_false,Qo,if_false];refine wb ⟨_,rfl,wb ⟨_,rfl,?_⟩⟩;have T:=h;unfold sortedAll sortedHeap at T
  ext<;>lia
end
noncomputable def intsD:AN->Option AF
 | []=>some []
 | .int i::l=>(intsD l).map (i::·)
 | _=>none
noncomputable def Dw:D->Option (Int×Bool)
 | .tup [.int j,.bl q]=>some (j,q)
 | _=>none
def pB(e d:D):Option Bool:=(Dw e).bind λx=>(Dw d).map λy=>dX x.1 x.2 y.1 y.2
def mU{a:Type}{x:a}{P:Prop}(h:none=some x):P:=by cases h
def Og(h:Dw d=some x):d=.tup [.int x.1,.bl x.2]:=by
 cases d with
 | tup l=>cases l with
   | nil=>exact mU h
   | cons a l=>cases a with
     | int j=>cases l with
       | nil=>exact mU h
       | cons b l=>cases b with
         | bl q=>cases l with
           | nil=>exact w4 h ▸ rfl
           | cons _ _=>exact mU h
         | _=>exact mU h
     | _=>exact mU h
 | _=>exact mU h
def mV(l:AN):Option AN:=match intsD l with
 | some a=>if a.length<64 then some ((dy a).map .int)else none
 | none=>match l with
   | [d]=>some [d]
   | [d,e]=>(pB e d).map λk=>if k=true then [e,d]else [d,e]
   | _=>none
def fq:AN->Option AN
 | [.lst l]=>mV l
 | _=>none
theorem kW:∀{l:AN}{ns:AF},intsD l=some ns->l=ns.map D.int
 | [],ns,h=>by cases h;rfl
 | .int i::l,ns,h=>by
   obtain⟨m,a,rfl⟩:=qc h;rw[kW a];rfl
 | .non::l,ns,h=>by simp[intsD]at h
 | .bl _::l,ns,h=>by simp[intsD]at h
 | .str _::l,ns,h=>by simp[intsD]at h
 | .tup _::l,ns,h=>by simp[intsD]at h
 | .lst _::l,ns,h=>by simp[intsD]at h
 | .scr _::l,ns,h=>by simp[intsD]at h
 | .dct _ _ _::l,ns,h=>by simp[intsD]at h
 | .obj _ _ _::l,ns,h=>by simp[intsD]at h
 | .adr _::l,ns,h=>by simp[intsD]at h
theorem kX:∀{ns:AF}{xs:AM},RpL K G (ns.map D.int) xs->xs=ns.map V.int
 | [],xs,h=>h
 | n::ns,xs,h=>by
   obtain⟨x,r,rfl,a,b⟩:=h;rw[a,kX b];rfl
def kY(H:Hp)(x:V)(i:Int)(p:Bool):Prop:=∃a,x=.ref a/\H a=some (.tup [.int i,.bl p])
def pC:AM->Hp->VK->Prop:=λd H Q=>∃a b,d=[.ref a]/\Rd H a (.lst b)/\
 ((∃c:AF,b=c.map .int/\c.length<64/\∀p,H p=none->Q (.ref p) (upd H p (.lst ((dy c).map .int))))\/
  (b.length<2/\∀p,H p=none->Q (.ref p) (upd H p (.lst b)))\/
  (∃x y i p j q,b=[x,y]/\kY H x i p/\kY H y j q/\∀r,H r=none->Q (.ref r) (upd H r (.lst (if dX j q i p=true then [y,x]else [x,y])))))
theorem mW:dD X (.builtin "sorted") pC:=by
 intro pins s σ H xs us Q I r h;obtain⟨a,ys,rfl,M,h⟩:=h;obtain⟨u,rfl,L⟩:=d6 r;cases L;obtain⟨its,l,pl,hz⟩:=I.list (.inl M)
 have f:∀(V:_) _,_->_->_->EP X pins σ Q _ {s with heap:=sortedAll s.heap its V}:=λV d B n F=>by
  obtain⟨e,he⟩:=sortedAll_at s.heap its V;exact⟨.ref (~~~s+1),_,I.laid (λb o q=>sortedAll_old q) (Nat.le_succ _) (show ObjOk X.prog X.w _ _ _ (.lst d) from⟨n,V.toList,e,B,by ext⟩),rfl,F⟩
 have w:=I.hok.fresh (Nat.le_succ _);have Y:=l.length;rcases h with⟨ns,rfl,U,q⟩|⟨v,q⟩|⟨x,y,i,p,j,k,rfl,C,P,q⟩
 .have G:=vL l
  refine sorted_ints pl.isList G (by ext) λV T E v J=>?_;have e:=W.ksm_same (v.trans (fo ns).symm) J (hE ns);subst e;have hn:=(fo ns).length_eq;exact f V _ (oN E) (by ext) (q _ w)
 .refine T3 pl.isList (by ext) ?_
  grind
 .obtain⟨b,rfl,hb⟩:=C
  obtain⟨c,rfl,O⟩:=P;obtain⟨u1,u2,rfl,A,D⟩:=oD l;cases A;cases D;obtain⟨_,ib,z,R⟩:=I.hok b _ hb;obtain⟨_,Z,S,N⟩:=I.hok c _ O;obtain⟨w1,w2,rfl,⟨t,rfl⟩,g⟩:=oD z;cases g;obtain⟨w3,K,rfl,⟨t',rfl⟩,m⟩:=oD S;cases m;refine T5 (by simpa using pl.isList) (by simpa using R) (by simpa using N) ?_;refine f _ _ ?_ (by split<;>ext) (q _ w);cases dX j k i p
  .grind
  .exact .cons rfl (.cons rfl .nil)
def Oh(s:Same G H)(e:d=.tup [.int i,.bl p])(r:Rp K G d v):kY H v i p:=by
 subst e;obtain⟨a,k,rfl,g,c⟩:=r;obtain⟨x,j,rfl,b,h⟩:=c;obtain⟨y,rfl,f⟩:=kR h;subst b f;exact⟨a,rfl,s _ _ g⟩
def T6(h:pB e d=some k):∃j q i p,e=.tup [.int j,.bl q]/\d=.tup [.int i,.bl p]/\k=dX j q i p:=by
 obtain⟨x,a,f⟩:=qa h;obtain⟨y,c,b⟩:=qc f;exact⟨x.1,x.2,y.1,y.2,Og a,Og c,b.symm⟩
theorem mX:eO K pC fq:=by
 intro C B l H G Q h s r q;unfold fq at h
 split at h
 .obtain⟨v,rfl,t⟩:=eC r
  obtain⟨a,A,rfl,g,c⟩:=t;refine⟨a,A,rfl,g,?_⟩;unfold mV at h
  split at h
  .rename_i z e
   split at h
   .rename_i m
    cases h;cases kW e;exact .inl ⟨z,kX c,m,λp b=>q p _ _ G (.hid s b _) b (s.free b) Yh (.ints _)⟩
   .cases h
  .split at h
   .cases h
    exact .inr (.inl ⟨by rw[c.length];ext,λp b=>q p _ _ G (.hid s b _) b (s.free b) Yh c⟩)
   .obtain⟨k,u,rfl⟩:=qc h
    obtain⟨j,y,i,x,rfl,rfl,rfl⟩:=T6 u;obtain⟨o,w,rfl,d,c⟩:=c;obtain⟨n,rfl,f⟩:=kR c;refine .inr (.inr ⟨o,n,i,x,j,y,rfl,Oh s rfl d,Oh s rfl f,λp b=>q p _ _ G (.hid s b _) b (s.free b) Yh ?_⟩);cases dX j y i x
    .exact .cons d (.one f)
    .exact .cons f (.one d)
   .cases h
 .cases h
def Dx{P:P7}{w:World}{j:AD}{c:Heap}{k n:Nat}{x q:Str}{ps:AJ}{st:Stmt}{a:Addr}{g:FuncData}(F:Fun K x q st a g)(b:Binds K g ps [])(m:j x=some (.ref a))(o:ps.length=n):
 aB P w K j c k n x ps (λ_=>none):=by
 have i:∀vs H Q E,¬de K n (λ_=>none) vs H Q E:=λvs H Q E h=>by
  obtain⟨_,ds,d,G,_,_,e,_⟩:=h;cases e
 exact⟨a,g,⟨λvs H Q E h=>absurd h (i vs H Q E),λA f s H l us vs Q E _ _ _ _ h=>absurd h (i vs H Q E)⟩,b,F.kp,m⟩
section
variable {e:Expr}{f fb:AU}
noncomputable def bw:AN->Option AG
 | []=>some []
 | .bl b::l=>(bw l).map (b::·)
 | _=>none
theorem Oi:∀{l:AN}{a:AG},bw l=some a->l=a.map D.bl
 | [],a,h=>by cases h;rfl
 | .bl i::l,a,h=>by
   obtain⟨m,b,rfl⟩:=qc h;rw[Oi b];rfl
 | .non::l,c,h=>by simp[bw]at h
 | .int _::l,c,h=>by simp[bw]at h
 | .str _::l,c,h=>by simp[bw]at h
 | .tup _::l,c,h=>by simp[bw]at h
 | .lst _::l,c,h=>by simp[bw]at h
 | .scr _::l,c,h=>by simp[bw]at h
 | .dct _ _ _::l,c,h=>by simp[bw]at h
 | .obj _ _ _::l,c,h=>by simp[bw]at h
 | .adr _::l,c,h=>by simp[bw]at h
theorem pD:∀{a:AG}{xs:AM},RpL K G (a.map D.bl) xs->xs=a.map V.bl
 | [],xs,h=>h
 | n::d,xs,h=>by
   obtain⟨x,r,rfl,b,c⟩:=h;rw[b,pD c];rfl
theorem Dy:∀{a:AG}{us:AC},Vals (a.map V.bl) us->us=a.map Value.bool
 | [],us,h=>by cases h;rfl
 | b::a,us,h=>by
   cases h with
   | cons r t=>
     cases (r);rw[Dy t];rfl
theorem Dz(a:AG):((List.range a.length).any λi=>a.getD i false)=a.any id:=by
 induction a with
 | nil=>rfl
 | cons b a c=>
   rw[qt,List.range_succ_eq_map,List.any_cons,List.any_map]
   have:(List.range a.length).any ((λi=>(b::a).getD i false) ∘ .succ)=(List.range a.length).any λi=>a.getD i false:=by
    congr 1
   rw[this,c];rfl
theorem DA(a:AG):((List.range a.length).all λi=>a.getD i false)=a.all id:=by
 induction a with
 | nil=>rfl
 | cons b a c=>
   rw[qt,List.range_succ_eq_map,List.all_cons,List.all_map]
   have:(List.range a.length).all ((λi=>(b::a).getD i false) ∘ .succ)=(List.range a.length).all λi=>a.getD i false:=by
    congr 1
   rw[this,c];rfl
def gy(g:AG->V):AM->Hp->VK->Prop:=λc H Q=>∃(a:Addr) (b:List _),c=[.ref a]/\Rd H a (.lst (b.map .bl))/\Q (g b) H
theorem Oj(A:Around)(prog:P7)(w:World)(c:AG):TruthOf prog w A (λi v=>((c.map Value.bool).toArray)[i]?=some v) (λi=>c.getD i false):=λi v s Q E d g=>by
 have a:(c.map .bool)[i]?=some v:=by grind
 rw[Qm]at a;obtain⟨b,h,rfl⟩:=qc a;refine wpAny_truthy_bool ?_
 ext
def Ol{pins:AB}{σ:L2.St}{H:Hp}{its:AC}(f:A.handled=none)(c:s.heap.IsList a its.toArray)(h:∀b,b={s with heap:=s.heap.push {cls:=.type "list_iterator",data:=.fields #[.ref a,.int 0 0]} }->Walks X.prog X.w A (~~~s) [~~~s,a] [~~~s] its.toArray.size (λi v=>its.toArray[i]?=some v) (λi h=>h.IsListIter (~~~s) a i/\h.IsList a its.toArray)->
  (b.heap.IsListIter (~~~s) a 0/\b.heap.IsList a its.toArray)->Q (.ref (~~~s)) b):wpAny (mZ X.prog X.w) A (pyIter (.ref a)) Q E s:=by
 have e:a≠(~~~s):=by
  obtain⟨o,d,_⟩:=c;exact qm (ql d)
 refine wpAny_pyIter_list c (h _ rfl (.list f _ a e _) ⟨⟨_,qp _ rfl,rfl,rfl⟩,?_⟩);obtain⟨o,d,r⟩:=c;exact⟨o,qe _ d,r⟩
theorem Om{σ:L2.St}(I:Inv X pins σ H s)(k:∀b u,b∉[~~~s]->(s.heap.push o).get? b=some u->a.get? b=some u):Inv X pins σ H {s with heap:=a,toks:=tk}:=
 I.kept λb u q=>k b u (by
  intro z
  exact absurd (ql q) (by ext)) (qe _ q)
def DB(l:X.calm=true):dD X (.builtin "any") (gy λb=>.bl (b.any id)):=by
 intro pins s σ H v t Q I r h;obtain⟨a,b,rfl,g,q⟩:=h;obtain⟨u,rfl,d⟩:=d6 r;cases d;obtain⟨o,j,n,m⟩:=I.list (.inl g);cases Dy j;refine call_any_walk (Ol (pins:=pins) (σ:=σ) (H:=H) (I.ok.hd l) n.isList λc e W st=>?_);subst e;refine⟨_,_,_,_,_,_,λi=>b.getD i _,rfl,W,st,Oj _ _ _ b,λp f k=>⟨.bl _,H,show Inv X _ σ H {s with heap:=p,toks:=f} from Om I k,?_,q⟩⟩;show _=_;rw[qk,qf,Dz]
def DC(l:X.calm=true):dD X (.builtin "all") (gy λb=>.bl (b.all id)):=by
 intro pins s σ H v t Q I r h;obtain⟨a,b,rfl,g,q⟩:=h;obtain⟨u,rfl,d⟩:=d6 r;cases d;obtain⟨o,j,n,m⟩:=I.list (.inl g);cases Dy j;refine call_all_walk (Ol (pins:=pins) (σ:=σ) (H:=H) (I.ok.hd l) n.isList λc e W st=>?_);subst e;refine⟨_,_,_,_,_,_,λi=>b.getD i _,rfl,W,st,Oj _ _ _ b,λp f k=>⟨.bl _,H,show Inv X _ σ H {s with heap:=p,toks:=f} from Om I k,?_,q⟩⟩;show _=_;rw[qk,qf,DA]
def eU:AN->Option D
 | [.lst l]=>(bw l).map λa=>.bl (a.any id)
 | _=>none
def cj:AN->Option D
 | [.lst l]=>(bw l).map λa=>.bl (a.all id)
 | _=>none
def pE{gd:AG->D}(c:∀e d,m e=some d->∃l b,e=[.lst l]/\bw l=some b/\d=gd b)(n:∀G b,Rp K G (gd b) (g b)):dH K (gy g) m:=by
 intro o e d H G Q h s r q;obtain⟨l,b,rfl,j,rfl⟩:=c e d h;obtain⟨v,rfl,k⟩:=eC r;obtain⟨a,p,rfl,f,i⟩:=k;cases Oi j;cases pD i;exact⟨a,b,rfl,f,q _ H G (.refl s) (n G b)⟩
def DE:dH K (gy λa=>.bl (a.any id)) eU:=pE (λc d h=>by
 unfold eU at h
 split at h
 .obtain⟨a,b,rfl⟩:=qc h
  exact⟨_,a,rfl,b,rfl⟩
 .cases h) λG a=>by rw[Rp]
theorem DF:dH K (gy λa=>.bl (a.all id)) cj:=pE (gd:=λa=>.bl (a.all id)) (λc d h=>by
 unfold cj at h
 split at h
 .obtain⟨a,b,rfl⟩:=qc h
  grind
 .cases h) λG a=>by rw[Rp]
end
section
variable {w:World}{A:Around}{E:AA}{s:Shared}
def T7(b:s.heap.IsTupleIter d t i)(l:s.heap.IsTuple t a)(j:a[i]?=some x)(k:∀p,p.IsTupleIter d t (i+1)->Heap.SameBut d s.heap p->Q x {s with heap:=p}):
 wpAny (mZ prog w) A (Builtin.SmallTypes.nextOf (.ref d)) Q E s:=by
 obtain⟨o,e,h,c⟩:=id b;obtain⟨n,f,_,m,g⟩:=l
 refine wa (wpAny_callSpecial?_slot b.typeIs F.slot_tuple_iterator_next
  (we F.slot_tuple_iterator_next b.typeIs F.entry_tuple_iterator_next ?_ (F.args_tuple_iterator_next_1 _)))
 show wpAny _ _ (field _ 0>>=_) _ _ s;refine wa (wpAny_field e c (x:=.ref t) rfl (wa (wpAny_field e c (x:=.int i 0) rfl (wa (wpAny_seqItems f g ?_)))));simp [j]
 exact wa (wpAny_setField e c nofun (wb ⟨x,rfl,wb (k _ (⟨_,wx _ e (Obj.isFreed_of_fields (je c _)),(Obj.cls_mapFields ..).trans h,by
  rw[je c];simp[rawInt]⟩) (.update ..))⟩))
theorem T8(j:A.handled=none)(a:s.heap.IsTupleIter d l i)(m:s.heap.IsTuple l b)(k:b[i]?=none)(n:∀t e,Heap.ExtBut d s.heap t->(∃o,t.get? e=some o/\o.cls=.type "StopIteration")->E (.ref e) {s with heap:=t}):
 wpAny (mZ prog w) A (Builtin.SmallTypes.nextOf (.ref d)) Q E s:=by
 obtain⟨o,g,r,h⟩:=id a;obtain⟨p,f,_,q,c⟩:=m
 refine wa (wpAny_callSpecial?_slot a.typeIs F.slot_tuple_iterator_next
  (we F.slot_tuple_iterator_next a.typeIs F.entry_tuple_iterator_next ?_ (F.args_tuple_iterator_next_1 _)))
 show wpAny _ _ (field _ 0>>=_) _ _ s;refine wa (wpAny_field g h (x:=.ref l) rfl (wa (wpAny_field g h (x:=.int i 0) rfl (wa (wpAny_seqItems f c ?_)))));simp [k];refine wa (wpAny_rule (wa (wpAny_setField g h nofun (wa (wa (m:=firstArgMember _ _) (wpAny_of_eq (a:=.none) (by first|rfl|(rfl)) (wg (wa (wpAny_handled ?_)) (by size_fits))))))))
 first|rw[j]|rw[j]
 refine wa (wb (wpAny_throw ?_));exact n _ _ (((wv ..).extBut.push _).push _) ⟨_,qp _ rfl,rfl⟩
theorem T9{i:Nat}{Q:AA}(he:IsEnum s.heap e z i W)(Y:s.heap.IsTupleIter z l i)(hl:s.heap.IsTuple l M)(hx:M[i]?=some x)(B:e≠z)(hQ:∀K,IsEnumOut K e z ((i:Int)+1) x (~~~s)->K.IsTupleIter z l (i+1)->
  K.get? (~~~s)=some {cls:=.type "tuple",data:=.seq #[.int i s.toks,x]}->K.objs.size= ~~~s+1->
  (∀b o,b≠e->b≠z->s.heap.get? b=some o->K.get? b=some o)->Q (.ref (~~~s)) {s with heap:=K,toks:=s.toks+1}):
 wpAny (mZ prog w) A (Builtin.«enumerate.__next__» ⟨[.ref e],[]⟩) (λZ s'=>∃v,Z=.done (.ret v)/\Q v s') E s:=by
 obtain⟨V,g,d,tk,os⟩:=s;show wpAny _ _ (field (.ref e) 2>>=_) _ _ _;refine wa (wpAny_field he rfl (x:=.ref z) rfl ?_);refine wa (T7 Y hl hx λh₁ D t=>?_);have p:=(t.2 e B).trans he;refine wa (wpAny_field p rfl (x:=rawInt i) rfl ?_);refine wa (wpAny_field p rfl (x:=.none) rfl ?_);refine wa (wpAny_mkInt ?_);refine wa (wpAny_setField_rec p nofun λU P u=>?_);refine wa (wpAny_setField_rec P nofun λm N c=>?_);replace c:Heap.SameBut e U m:=c;show wpAny _ _ _ _ _ ⟨m,g,d,tk+1,os⟩;refine wa (wpAny_newTuple ?_);have j:IsEnum (m.push {cls:=.type "tuple",data:=.seq #[.int i tk,x]}) e z ((i:Int)+1) W:=qe _ N;generalize f:m.push _=n at j
 have G:m.objs.size=V.objs.size:=by rw[c.1,u.1,t.1]
 have H:e<V.objs.size:=ql he
 have R:n.get? V.objs.size=some {cls:=.type "tuple",data:=.seq #[.int i tk,x]}:=by rw[<-f,<-G];exact qp _ rfl
 have J:n.objs.size=V.objs.size+1:=by rw[<-f,ww,G]
 have S:∀b o,b≠e->b≠z->V.get? b=some o->n.get? b=some o:=λb o y O hb=>by
  rw[<-f];exact qe _ (c.extBut b o y (u.extBut b o y (t.extBut b o O hb)))
 have C:n.IsTupleIter z l (i+1):=by
  rw[<-f];obtain⟨o,ho,r⟩:=D.at λo q=>c.extBut z o (Ne.symm B) (u.extBut z o (Ne.symm B) q);exact⟨o,qe _ ho,r⟩
 show wpAny _ _ _ _ _ ⟨n,g,d,tk+1,os⟩;rw[G];refine wa ?_
 .refine wa (wpAny_field j rfl (x:=.none) rfl (wb ?_))
  refine wa (wpAny_rule ?_);refine wa (wpAny_field j rfl (x:=W) rfl ?_);refine wa (wpAny_setField_rec j nofun λh₅ I h=>?_);refine wa ?_
  .refine wa (wpAny_setField_rec I nofun λX L k=>?_)
   refine wpAny_setField_rec L nofun λF T a=>?_;replace a:Heap.SameBut e X F:=a;refine wa (wpAny_letGo (wb ⟨_,rfl,hQ F T ?_ ?_ ?_ ?_⟩))
   .exact C.at λo q=>a.extBut z o (Ne.symm B) (k.extBut z o (Ne.symm B) (h.extBut z o (Ne.symm B) q))
   .exact a.extBut _ _ (Nat.ne_of_gt H) (k.extBut _ _ (Nat.ne_of_gt H) (h.extBut _ _ (Nat.ne_of_gt H) R))
   .rw[a.1,k.1,h.1,J]
   .exact λb o y O hb=>a.extBut b o y (k.extBut b o y (h.extBut b o y (S b o y O hb)))
def T_{i:Nat}(n:IsEnum s.heap e g i p)(h:s.heap.IsTupleIter g l i)(t:s.heap.IsTuple l f)(q:f[i]?=some x)(j:e≠g)(r:∀u,IsEnumOut u e g ((i:Int)+1) x (~~~s)->u.IsTupleIter g l (i+1)->
  u.get? (~~~s)=some {cls:=.type "tuple",data:=.seq #[.int i s.toks,x]}->u.objs.size= ~~~s+1->
  (∀b o,b≠e->b≠g->s.heap.get? b=some o->u.get? b=some o)->Q (some (.ref (~~~s))) {s with heap:=u,toks:=s.toks+1}):
 wpAny (mZ prog w) A (pyNext (.ref e)) Q E s:=by
 have m:s.TypeIs (.ref e) _:=⟨_,n,rfl⟩
 exact wa (jf (wpAny_callSpecial?_slot m F.slot_enumerate_next
  (we F.slot_enumerate_next m F.entry_enumerate_next
   (T9 n h t q j λu a b c d k=>wb (r u a b c d k)) (F.args_enumerate_next_1 _))))
def Ua{i:Nat}(m:A.handled=none)(g:IsEnum s.heap e c i r)(b:s.heap.IsTupleIter c l i)(q:s.heap.IsTuple l a)(j:a[i]?=none)(n:∀t,Heap.ExtBut c s.heap t->Q none {s with heap:=t}):wpAny (mZ prog w) A (pyNext (.ref e)) Q E s:=by
 have h:s.TypeIs (.ref e) _:=⟨_,g,rfl⟩
 refine wa (jf (wpAny_callSpecial?_slot h F.slot_enumerate_next
  (we F.slot_enumerate_next h F.entry_enumerate_next ?_ (F.args_enumerate_next_1 _))))
 show wpAny _ _ (field _ 2>>=_) _ _ _;refine wa (wpAny_field g rfl (x:=.ref c) rfl (wa (T8 m b q j λt x d f=>?_)));obtain⟨o,p,k⟩:=f;exact wa (wpAny_isInstance ⟨o,p,k⟩ isSubtype_stop (wb (n _ d)))
def Ub(l:Addr)(a:Array Value)(n:Nat)(f:Option Addr)(k:Array (Option Value)):
 Meets (Builtin.«enumerate.__new__» ⟨[.type "enumerate",.ref l],[]⟩) (λ_ R s=>s.heap.get? l=some {cls:=.type "tuple",dict:=f,data:=.seq a n,slots:=k}/\
  R (.ok (.ret (.ref (s.heap.push {cls:=.type "tuple_iterator",data:=.fields #[.ref l,.int 0 0]}).objs.size)))
   {s with heap:=(s.heap.push {cls:=.type "tuple_iterator",data:=.fields #[.ref l,.int 0 0]}).push {cls:=.type "enumerate",data:=.fields #[.none,.bool false,.ref (~~~s),rawInt 0,.none,.none]} }):=
 .of_wp λo w A R s h=>by
  obtain⟨j,g,d,p,os⟩:=s;obtain⟨b,h⟩:=h;have i:=sub_enumerate
  have e:Heap.IsTuple (Shared.heap ⟨j,g,d,p,os⟩) l a:=⟨_,b,rfl,n,rfl⟩
  wp_walk using m.AutoSeq1.wpAny_loadPart' b
  refine wpAny_stack_any λst=>wb ?_
  split
  .rename_i c _ _ _ _ _
   cases (c==Value.type "enumerate")
   .wp_walk using m.AutoSeq1.wpAny_loadPart' b,wpAny_pyIter_tuple e
    exact⟨_,rfl,h⟩
   .wp_walk using m.AutoSeq1.wpAny_loadPart' b,wpAny_pyIter_tuple e
    exact⟨_,rfl,h⟩
  .wp_walk using m.AutoSeq1.wpAny_loadPart' b,wpAny_pyIter_tuple e
   exact⟨_,rfl,h⟩
theorem Uc(m:s.heap.IsTuple l a)(h:∀r,IsEnum r (~~~s+1) (~~~s) 0 .none->r.IsTupleIter (~~~s) l 0->r.objs.size= ~~~s+2->
  (∀b o,s.heap.get? b=some o->r.get? b=some o)->Q (.ref (~~~s+1)) {s with heap:=r}):
 wpAny (mZ prog w) A (call (.type "enumerate") [.ref l]) Q E s:=by
 obtain⟨⟨c,d,q,g⟩,p,j,n,k⟩:=m;subst j k
 refine callType_new F.called_enumerate (by decide) (F.typeCall_enumerate_1 _) (F.newCall_enumerate_1 _) (λe=>F.args_object_init_2 e _) F.entry_enumerate_new
  (Ub l a n d g) ⟨p,?_⟩
 have i:(s.heap.push {cls:=.type "tuple_iterator",data:=.fields #[.ref l,.int 0 0]}).objs.size=_:=ww ..;rw[i]
 have f:IsEnum ((s.heap.push {cls:=.type "tuple_iterator",data:=.fields #[.ref l,.int 0 0]}).push
  {cls:=.type "enumerate",data:=.fields #[.none,.bool false,.ref (~~~s),rawInt 0,.none,.none]}) (~~~s+1) (~~~s) 0 .none:=by
  have:=qp (s.heap.push {cls:=.type "tuple_iterator",data:=.fields #[.ref l,.int 0 0]})
   (o:={cls:=.type "enumerate",data:=.fields #[.none,.bool false,.ref (~~~s),rawInt 0,.none,.none]}) rfl
  grind
 refine⟨⟨_,f,rfl⟩,h _ f ⟨_,qe _ (qp _ rfl),rfl,rfl⟩ (by ext) λb o x=>qe _ (qe _ x)⟩
end
theorem On{σ:L2.St}{ch:List Addr}{T:Addr}(I:Inv X pins σ H s)(f:∀b∈ch,cV X pins H b)(k:∀b u,b∉ch->s.heap.get? b=some u->h'.get? b=some u)(g:(~~~s)<=T)(p:ObjOk X.prog X.w (upd H T o) h' T o):Inv X pins σ (upd H T o) {s with heap:=h',toks:=t' }:=by
 have d:=I.hok.fresh g
 have j:∀b u,H b=some u->b∉ch:=λb u e z=>by rw[(f b z).1]at e;cases e
 refine I.step (λb x=>?_) (λb u _ _ a e _=>k b u a e) (λb u _ _ a e _=>⟨u.slots,k b u a e⟩) (λb u _ e n=>?_)
  (λb u a e=>⟨u,k b u a e⟩) (λb E e=>?_) (λb u E e=>?_) (λb G e=>⟨#[],?_⟩) (λm l=>?_) (λb u e=>?_) I.bare
 .obtain⟨_,B,_,C,y,A⟩:=f b x
  grind
 .rwa [Ym (qm (Qi (ql e) g))]
 .rwa [Ym (Yk e d)]
 .rwa [Ym (Yk e d)]
 .rw[Ym (Yk e d),e];simp
 .obtain⟨h,t,i,w,r⟩:=l
  exact⟨h,t,i,k _ h (λz=>(f _ z).2.1 rfl) w,r⟩
 .by_cases x:b=T
  .subst x;rw[Yh]at e;grind
  .rw[Ym x]at e
   refine(I.hok b u e).stay (λc v a q=>k c v ?_ q) (λc q=>by rwa [Ym (Yk q d)]) λc E q=>by rwa [Ym (Yk q d)]
   grind
def pF(K:W7)(a:Addr):It:=
 ⟨λi H=>∃b x,SqL K H a b/\b[i]?=some x,λi H x c=>∃y p,(∀b,SqL K H a b->b[i]?=some y)/\H p=none/\x=.ref p/\c=upd H p (.tup [.int i,y]),λi H=>∃b,SqL K H a b/\b.length<=i⟩
def pG(K:W7)(a:Addr):It:=
 ⟨λi H=>∃b x,SqT K H a b/\b[i]?=some x,λi H x c=>∃y p,(∀b,SqT K H a b->b[i]?=some y)/\H p=none/\x=.ref p/\c=upd H p (.tup [.int i,y]),λi H=>∃b,SqT K H a b/\b.length<=i⟩
section
variable {x1:Nat}
theorem Ud(a j e:Addr)(n:e≠j):ee P w K (.Tuple elts x1 pt) (pF K a) [e,j] e (λi h=>(∃g,IsEnum h e j i g)/\h.IsListIter j a i) where
 mem:=by simp
 obj:=λi h st b hb=>by
  obtain⟨⟨g,l⟩,f⟩:=st;rcases qu hb with rfl|hb
  .simp_all
  .obtain⟨o,q,c,d⟩:=f
   grind
 keep:=λi h h' st k=>by
  obtain⟨⟨g,l⟩,f⟩:=st;exact⟨⟨g,k e nofun _ l⟩,f.at λo q=>k j nofun o q⟩
 item:=by
  intro X J A F M i pins s σ H E I y st G;subst J A F;obtain⟨xs,x,v,C⟩:=G;obtain⟨its,B,p,hz⟩:=I.list v;obtain⟨u,hu,T⟩:=B.get C;obtain⟨⟨g,l⟩,f⟩:=st;refine wpAny_pyNext_enum_item l f p.isList (x:=u) (by grind) n λh' ho r N hsz O=>?_;refine⟨_,rfl,wpAny_letOwnedTupleGo_enum ho λh2 D m=>?_⟩;have U:=I.fresh
  have t:∀b∈[e,j],b≠(~~~s):=λb hb z=>by
   rcases qu hb with rfl|hb
   .grind
   .obtain⟨o,q,_⟩:=f
    exact absurd (ql q) (by ext)
  have Q:∀b o,b∉[e,j]->_:=λb o hb q=>by
   have L:b≠e:=λz=>hb (by simp[z]);have S:b≠j:=λz=>hb (by simp[z]);exact(m.2 b L).trans (O b o L S q)
  have W:=(m.2 _ (Ne.symm (t e nofun))).trans N;refine⟨.ref _,upd H _ _,On (s:=s) (t':=s.toks+1) I y Q (qv _) ?_,rfl,⟨x,~~~s,λys R=>by rw[I.list_inj R v];exact C,U,rfl,rfl⟩,⟨⟨_,by simpa using D⟩,r.at λo q=>(m.2 j (Ne.symm n)).trans q⟩,λb hb=>?_⟩
  .exact⟨by rw[jg];ext,[.int i s.toks,u],.cons ⟨_,rfl⟩ (.cons T .nil),_,W,rfl,0,rfl⟩
  .rw[Ym (t b hb)];exact(y b hb).1
 done:=by
  intro X J A F M i pins s σ H E I y st G;subst J A F;obtain⟨xs,v,C⟩:=G;obtain⟨its,B,p,hz⟩:=I.list v;obtain⟨⟨g,l⟩,f⟩:=st;obtain⟨f0,f1,f2,V,Z,f5⟩:=y j nofun;have hl:=B.length
  exact wpAny_pyNext_enum_end (I.ok.hd M) l f p.isList (by simp;lia) λh' Y=>⟨rfl,I.turned (λb o hb e=>Y b o hb e) f0 f1 V Z f5⟩
 self:=λ_ _ _ _ _ st h=>let ⟨⟨_,l⟩,_⟩:=st;wpAny_pyIter_enum l h
theorem Ue(a j e:Addr)(n:e≠j):ee P w K (.Tuple elts x1 pt) (pG K a) [e,j] e (λi h=>(∃g,IsEnum h e j i g)/\h.IsTupleIter j a i) where
 mem:=by simp
 obj:=λi h st b hb=>by
  obtain⟨⟨g,l⟩,f⟩:=st;rcases qu hb with rfl|hb
  .grind
  .obtain⟨o,q,c,d⟩:=f
   symm
 keep:=λi h h' st k=>by
  obtain⟨⟨g,l⟩,f⟩:=st;exact⟨⟨g,k e nofun _ l⟩,f.at λo q=>k j nofun o q⟩
 item:=by
  intro X J A F M i pins s σ H E I y st G;subst J A F;obtain⟨xs,x,v,C⟩:=G;obtain⟨its,B,p,hz⟩:=I.tuple v;obtain⟨u,hu,T⟩:=B.get C;obtain⟨⟨g,l⟩,f⟩:=st;refine T_ l f (p) (x:=u) ⋯ n λh' ho r N hsz O=>?_;refine⟨_,rfl,wpAny_letOwnedTupleGo_enum ho λh2 D m=>?_⟩;have U:=I.fresh
  have t:∀b∈[e,j],b≠(~~~s):=λb hb z=>by
   rcases qu hb with rfl|hb
   .grind
   .obtain⟨o,q,_⟩:=f
    exact absurd (ql q) ⋯
  have Q:∀b o,b∉[e,j]->_:=λb o hb q=>by
   have L:b≠e:=λz=>hb (by simp[z]);have S:b≠j:=λz=>hb (by simp[z]);exact(m.2 b L).trans (O b o L S q)
  have W:=(m.2 _ (Ne.symm (t e nofun))).trans N;refine⟨.ref (~~~s),upd H _ _,On (s:=s) (t':=s.toks+1) I y Q (qv _) ?_,rfl,⟨x,~~~s,λys R=>by rw[I.tuple_inj R v];exact C,U,rfl,rfl⟩,⟨⟨_,by simpa using D⟩,r.at λo q=>(m.2 j (Ne.symm n)).trans q⟩,λb hb=>?_⟩
  .exact⟨by rw[jg];symm,[.int i s.toks,u],.cons ⟨_,rfl⟩ (.cons T .nil),_,W,rfl,0,rfl⟩
  .rw[Ym (t b hb)];exact(y b hb).1
 done:=by
  intro X J A F M i pins s σ H E I y st G;subst J A F;obtain⟨xs,v,C⟩:=G;obtain⟨its,B,p,hz⟩:=I.tuple v;obtain⟨⟨g,l⟩,f⟩:=st;obtain⟨f0,f1,f2,V,Z,f5⟩:=y j nofun;have hl:=B.length
  exact Ua (I.ok.hd M) l f (p) (by simp;ac_nf) λh' Y=>⟨rfl,I.turned (λb o hb e=>Y b o hb e) f0 f1 V Z f5⟩
 self:=λ_ _ _ _ _ st h=>let ⟨⟨_,l⟩,_⟩:=st;wpAny_pyIter_enum l h
def DG(K:W7)(c:TA):TI:=λe H R=>c e H λf b=>∃a d,f=[.ref a]/\((SqL K b a d/\(d.length<=sizeLine->R (pF K a) b))\/(SqT K b a d/\(d.length<=sizeLine->R (pG K a) b)))
theorem DH(B:Gl X "enumerate")(w:X.mg "enumerate"=none)(y:PA X [l] A)(hs:aae X l:=by rfl):PI X (.Tuple elts x1 pt) (.Call (.Name "enumerate" p) [l] [] pos) (DG X.K A):=by
 intro J s K H R I h;refine Call_ (jv I B w boot_enumerate (PyProof.Rows.callWith_type1 (aL (y pos _ s K H _ I h) λM c t=>?_) hs rfl));obtain⟨N,v,f,x,z⟩:=t;obtain⟨a,O,rfl,q⟩:=z;obtain⟨u,rfl,D⟩:=d6 x;cases D
 have j:∀(k:Heap),k.objs.size=c.heap.objs.size+2->(∀b o,c.heap.get? b=some o->k.get? b=some o)->∀b∈[c.heap.objs.size+1,c.heap.objs.size],_:=λk n g b L=>by
  have i:c.heap.objs.size<=b:=by
   ext<;>lia
  exact f.fpOk i (f.hok.fresh i)
 rcases q with⟨r,q⟩|⟨r,q⟩
 .obtain⟨F,C,G,n⟩:=f.list r
  exact call_enumerate_list G.isList λk m d e g=>wpAny_pyIter_enum m (⟨_,[c.heap.objs.size+1,c.heap.objs.size],_,_,v,rfl,f.kept g,Ud a _ _ (Nat.succ_ne_self _),⟨⟨_,m⟩,d⟩,j k e g,q n⟩)
 .obtain⟨F,C,G,n⟩:=f.tuple r
  exact Uc (G) λk m d e g=>wpAny_pyIter_enum m (⟨_,[c.heap.objs.size+1,c.heap.objs.size],_,_,v,rfl,f.kept g,Ue a _ _ (Nat.succ_ne_self _),⟨⟨_,m⟩,d⟩,j k e g,q n⟩)
noncomputable def fY(l:AN):AN:=(List.range l.length).map λi:Nat=>.tup [.int i,l.getD i .non]
def gz(c:D):Option AN:=(Yc c).map fY
theorem DI{i:Nat}(h:(fY l)[i]?=some d):∃e,l[i]?=some e/\d=.tup [.int i,e]:=by
 unfold fY at h;grind
def mY(l:AN):(fY l).length=l.length:=by simp[fY]
def Gr.newTup(s:Same G H)(a:H p=none)(i:Nat)(r:Rp K G d x):∃b,Gr H G (upd H p (.tup [.int i,x])) b/\Rp K b (.tup [.int i,d]) (.ref p):=⟨_,.new s a _,⟨p,_,rfl,Yh,.cons (by rw[Rp]) (.one (r.mono (Gr.new s a _).g))⟩⟩
end
noncomputable def hJ(k:Int):Value->Bool
 | .int i _=>i==k
 | .bool b=>(if b then 1 else 0)==k
 | _=>false
theorem m3(h:hJ k v=true):(∃t,v=.int k t)\/∃b:Bool,v=.bool b/\k=if b then 1 else 0:=by
 cases v with
 | int i t=>
   have e:=by simpa [hJ]using h
   grind
 | bool b=>
   have e:=by simpa [hJ]using h
   ext
 | _=>simp[hJ]at h
theorem Ug(h:Q (hashInt (if b then 1 else 0)) {s with toks:=s.toks+1}):
 wpAny (mZ prog w) A (pyHash (.bool b)) Q E s:=by
 have a:s.TypeIs (.bool b) "bool":=rfl;refine wa ?_;refine wb ?_;refine wa (wpAny_specialOf a F.slot_bool_hash.lookup ?_);refine wa (wpAny_specialOf a F.slot_bool_hash.lookup ?_)
 refine wa (wpAny_callSpecialIfBoundUnlessNone?_slot a F.slot_bool_hash
  (we F.slot_bool_hash a entry_int_hash
   (wpAny_ret_mkInt ?_) (args_int_hash _)))
 show wpAny _ _ (if _ then _ else _) Q E _;rw[if_pos (by split<;>ext)];exact wb h
def dY(prog:P7)(w:World):KeyKind prog w Int where
 is:=hJ
 hash:=hashInt
 inj:=λv a b j m=>by
  rcases m3 j with⟨t,rfl⟩|⟨c,rfl,rfl⟩
  .have e:a=b:=by simpa [hJ]using m
   exact e
  .have e:=by simpa [hJ]using m
   exact e
 byValue:=λk v h=>by
  rcases m3 h with⟨t,rfl⟩|⟨c,rfl,rfl⟩<;>rfl
 pyHash:=λg h=>by
  rcases m3 g with⟨t,rfl⟩|⟨c,rfl,rfl⟩
  .exact wpAny_pyHash_int h
  .exact Ug h
 eqBool:=λ{A E s a b u v Q} i g h=>by
  rcases m3 i with⟨t,rfl⟩|⟨c,rfl,rfl⟩
  .rcases m3 g with⟨l,rfl⟩|⟨f,rfl,rfl⟩
   .exact wpAny_eqBool_int (by grind)
   .exact SeqAt.EqAt.int_bool a t f _ _ _ _ (by grind)
  .rcases m3 g with⟨l,rfl⟩|⟨f,rfl,rfl⟩
   .exact SeqAt.EqAt.bool_int c b l _ _ _ _ (by grind)
   .refine SeqAt.EqAt.bool_bool c f _ _ _ _ ?_
    have e:(c==f)=decide ((if c=true then (1:Int)else 0)=if f=true then 1 else 0):=by split<;>ext
    ext
 «strs»:=λk x t v h=>by simp[hJ]at h
def DJ(h:iD x=some i)(r:RelV x u):(dY P w).is i u=true:=by
 cases x<;>simp[iD]at h
 .subst h
  cases (r);simp[dY,hJ]
 .subst h
  obtain⟨t,rfl⟩:=r;simp[dY,hJ]
theorem Oo:∀{xs:AM}{ks:AF}{us:AC},d7 xs=some ks->Vals xs us->ItemsAre (dY P w) ks us
 | [],ks,us,h,r=>by
   cases h;cases r;exact .nil
 | x::xs,ks,us,h,r=>by
   obtain⟨i,c,h⟩:=qa h;obtain⟨l,b,rfl⟩:=qc h
   cases r with
   | cons a d=>exact .cons (DJ c a) (Oo b d)
def kZ(f:HOk P w H h)(e:H b=some (.tup ys))(n:d7 ys=some ks):(tupleKind (dY P w)).is h ks b:=by
 obtain⟨_,a,r,o,g,d,k,c⟩:=f b _ e;exact⟨o,a.toArray,k,g,d,c,by simpa using Oo n r⟩
noncomputable abbrev bF(nks:List (List Int×Addr))(us:AC):List (List Int×Addr×Value):=(nks.zip us).map λp=>(p.1.1,p.1.2,p.2)
theorem DK(h:us.length=nks.length):(bF nks us).map (·.1)=nks.map (·.1):=by
 have:nks=(nks.zip us).map (·.1):=by rw[List.map_fst_zip (by ext)]
 conv=>rhs;rw[this]
 simp
def pH(b:HOk P w H h)(k:Same G H)(e:H a=some (ej a nks vxs j))(v:nks.length=vxs.length)(hn:(nks.map (·.1)).Nodup)(u:∀p∈nks,∃ys,G p.2=some (.tup ys)/\d7 ys=some p.1):(a==sysModules)=false/\∃us,Vals vxs us/\us.length=nks.length/\h.DictOfH (tupleKind (dY P w)) a (bF nks us):=by
 obtain⟨⟨i,us,o,q,r,t,m,n,l⟩,_⟩:=b a _ e
 have c:us.length=nks.length:=by rw[v,r.length]
 refine⟨i,us,r,c,o,q,j,t,m,n,?_,λx g=>?_,by rwa [DK c]⟩
 .rw[l,Qf]
  rfl
 .obtain⟨p,d,rfl⟩:=qy g
  obtain⟨ys,f,s⟩:=u p.1 (List.of_mem_zip d).1;exact kZ b (k _ _ f) s
noncomputable def Yn{a b:Type}[DecidableEq a]:List a->List b->a->Option b
 | k::ks,v::vs,x=>if k=x then some v else Yn ks vs x
 | _,_,_=>none
theorem DL(k:AF):∀(nks:List (List Int×Addr)) (us:AC),(atKey (bF nks us) k).map (·.2)=Yn (nks.map (·.1)) us k
 | [],us=>by cases us<;>simp[atKey,Yn]
 | p::nks,[]=>by constructor<;>ac_nf
 | p::nks,u::us=>by
   by_cases e:p.1=k
   .simp[atKey,Yn,e]
   .simp only[bF,List.zip_cons_cons,Qd,atKey,List.find?_cons,e,Yn]
    exact(DL k nks us)
theorem Oq[DecidableEq a](x:a):∀{ks:List a}{vxs:AM}{us:AC},Vals vxs us->RelO (Yn ks vxs x) (Yn ks us x)
 | [],_,_,_=>.intro
 | k::ks,_,_,.nil=>.intro
 | k::ks,_,_,.cons r t=>by
   by_cases e:k=x
   .simp [Yn,if_pos e];exact r
   .simp [Yn,if_neg e];exact Oq x t
theorem m4[DecidableEq a](x:a):∀{ks:List a}{vs:AN}{vxs:AM},RpL K G vs vxs->(∀d,Yn ks vs x=some d->∃v,Yn ks vxs x=some v/\Rp K G d v)/\(Yn ks vs x=none->Yn ks vxs x=none)
 | [],_,_,_=>⟨λd h=>by simp[Yn]at h,λ_=>by simp[Yn]⟩
 | k::ks,[],_,r=>by
   subst r;exact⟨λd h=>by simp[Yn]at h,λ_=>by simp[Yn]⟩
 | k::ks,d::vs,_,r=>by
   obtain⟨y,f,rfl,c,b⟩:=r;by_cases e:k=x
   .simp [Yn]
    ext
   .simp [Yn,if_neg e]
    exact m4 x b
noncomputable def aQ{a b:Type}[DecidableEq a]:List a->List b->a->b->List b
 | k::ks,v::vs,x,y=>if k=x then y::vs else v::aQ ks vs x y
 | _,vs,_,_=>vs
theorem pI[DecidableEq a](x:a)(y:b):∀(ks:List a) (vs:List b),(aQ ks vs x y).length=vs.length
 | [],vs=>by cases vs<;>simp[aQ]
 | k::ks,[]=>by simp[aQ]
 | k::ks,v::vs=>by
   simp [aQ]
   split
   .simp
   .simp[pI x y ks vs]
theorem Os[DecidableEq a](x:a)(b:RelV y u):∀{ks:List a}{vxs:AM}{us:AC},Vals vxs us->Vals (aQ ks vxs x y) (aQ ks us x u)
 | [],_,_,.nil=>.nil
 | [],_,_,.cons r t=>.cons r t
 | k::ks,_,_,.nil=>.nil
 | k::ks,_,_,.cons r t=>by
   simp [aQ]
   split
   .exact .cons b t
   .exact .cons r (Os x b t)
theorem vY[DecidableEq f](x:f)(c:Rp K G d y):∀{ks:List f}{vs:AN}{vxs:AM},RpL K G vs vxs->RpL K G (aQ ks vs x d) (aQ ks vxs x y)
 | [],[],_,r=>by simpa [aQ]using r
 | [],_::_,_,r=>by
   obtain⟨z,g,rfl,b,a⟩:=r;exact .cons b a
 | k::ks,[],_,r=>by
   subst r;exact .nil
 | k::ks,e::vs,_,r=>by
   obtain⟨z,g,rfl,b,a⟩:=r;simp [aQ]
   split
   .exact .cons c a
   .exact .cons b (vY x c a)
theorem Ot{b:Addr}:∀{nks:List (List Int×Addr)}{us:AC},us.length=nks.length->(nks.map (·.1)).Nodup->k∈nks.map (·.1)->(bF nks us).map (putAt k u)=bF nks (aQ (nks.map (·.1)) us k u)
 | [],us,_,_,h=>by simp at h
 | p::nks,[],d,_,_=>by simp at d
 | p::nks,v::us,d,f,l=>by
   rw[Qd,List.nodup_cons]at f;by_cases e:p.1=k
   .have a:k∉nks.map (·.1):=by grind
    simp only[bF,List.zip_cons_cons,Qd,aQ,e]
    congr 1
    .simp[putAt,e]
    .refine(Qq λx g=>?_).trans (List.map_id _)
     obtain⟨q,i,rfl⟩:=qy g;have:¬_:=λz=>a (List.mem_map.mpr ⟨q.1,(List.of_mem_zip i).1,z⟩);simp[putAt,this]
   .have c:k∈nks.map (·.1):=by
     grind
    have j:=Ot (b:=b) (u:=u) (us:=us) (by ext) f.2 c;simp only[bF,List.zip_cons_cons,Qd,aQ,e]
    congr 1
    .simp[putAt,e]
theorem k7[DecidableEq a]:∀{ks:List a}{vs:List c},vs.length=ks.length->(Yn ks vs x=none↔x∉ks)
 | [],_,_=>by simp[Yn]
 | k::ks,[],h=>by simp at h
 | k::ks,v::vs,h=>by
   by_cases e:k=x
   .simp[Yn,e]
   .have b:¬x=k:=λz=>e z.symm
    simp [Yn,e,b];exact k7 (by simpa using h)
section
open Sem (wp)
def DM:typeLookup (.type "list_reverseiterator") "__len__"=pure none:=by kernel_rfl
def DN:typeLookup (.type "list_reverseiterator") "__length_hint__"=pure (some (.builtin "list_reverseiterator.__length_hint__")):=by kernel_rfl
theorem Uh{prog:P7}{w:World}{A:Around}{s:Shared}{R:Result->Shared->Prop}{I:Addr}{o q:List Addr}{G:Array GenState->Array GenState->Prop}{n:Nat}{P:Nat->Value->Prop}{St:Nat->Shared->Prop}(W:WalksS prog w A.in1 I o q G n P St)(j:∀i s,St i s->s.TypeIs (.ref I) "list_reverseiterator")(S:Addr)(c:Value)(g:Nat)(a:St 0 s)(h:S∉o)(t:I∈o)(r:s.heap.get? S=some {cls:=.type "list",data:=.seq #[] g})(u:∀s' b k,Moved (S::q) G s s'->s'.heap.get? S=some {cls:=.type "list",dict:=none,data:=.seq b k,slots:=#[]}->ItemsOf P b n->R (.ok (.ret c)) s')(hn:n<=sizeLine):
 wpAny (mZ prog w) A.in1 (Builtin.List.listExtendWith (.ref S) (.ref I) c)
  (λl s'=>match l with|.done f=>R (.ok f) s'|.again k=>k.quiet=true/\codeAny (mZ prog w) A k R s') (λe s'=>R (.error e) s') s:=by
 have m:S≠I:=λe=>h (e ▸ t)
 have v:Builtin.List.listSameRef (.ref S) (.ref I)=false:=by simp[Builtin.List.listSameRef,m]
 refine wa (wpAny_typeOf (j 0 _ a) ?_);rw[if_neg (by ext)];refine wa (W.self 0 _ _ _ a ?_);refine wa (wc ?_);refine wa (wpAny_specialOf (j 0 _ a) DM ?_);refine wa (wpAny_specialOf (j 0 _ a) DN ?_)
 (generalize d:("list_reverseiterator.__length_hint__")=p;wp_delta;rw[show splitId p=some ("list_reverseiterator","__length_hint__") from by subst d;decide +kernel];subst d)
 refine wa (wpAny_isInstance (b:=true) (j 0 _ a) (by kernel_rfl) ?_);refine wb ?_;exact wb ⟨jb F.plain_extend_loop _,codeAny_extend_loopS W hn _ h _ n 0 _ _ _ rfl (Qh _) a r (.nil P) u⟩
section
variable {w:World}{A:Around}{E:AA}{s:Shared}{I:Addr}{G:Array GenState->Array GenState->Prop}{n:Nat}{P:Nat->Value->Prop}{St:Nat->Shared->Prop}
theorem Ui(W:WalksS prog w A.in1 I fp wr G n P St)(hT:∀i s,St i s->s.TypeIs (.ref I) "list_reverseiterator")(hst:St 0 s)(hfp:∀b∈fp,b< ~~~s)(hI:I∈fp)(hQ:∀s' acc,Moved wr G s s'->ItemsOf P acc n->Q acc.toList s')(hn:n<=sizeLine):wpAny (mZ prog w) A (collect (.ref I)) Q E s:=by
 have hSf:(~~~s)∉fp:=λhm=>Nat.lt_irrefl _ (hfp _ hm);unfold collect;refine wa (wpAny_runValue (wy F.entry_proto_collect ?_));rw[jc F.plain_proto_collect _];show wpAny _ A.in1 (newList []>>=λl=>again (.builtin "list.__iadd__" ⟨[l,.ref I],[]⟩)) _ _ s;refine wa (wg ?_);refine wb ⟨jb F.plain_list_iadd _,wy F.entry_list_iadd ?_⟩;rw[jc F.plain_list_iadd _];have hst₁:=W.frame 0 s (s.heap.push {cls:=.type "list",data:=.seq ([]:AC).toArray}) s.toks hst (qv _) λb _ o e=>qe _ e;have hS₁:(s.heap.push {cls:=.type "list",data:=.seq ([]:AC).toArray}).get? (~~~s)=some {cls:=.type "list",data:=.seq ([]:AC).toArray}:=qp _ rfl;show wpAny _ A.in1 (Builtin.List.listExtendWith (.ref (~~~s)) (.ref I) (.ref (~~~s))) _ _ _
 refine wz (Uh (A:=A) (R:=λr s'=>r=.ok (.ret (.ref (~~~s)))/\∃acc' c',Moved (~~~s::wr) G {s with heap:=s.heap.push {cls:=.type "list",data:=.seq ([]:AC).toArray} } s'/\s'.heap.get? (~~~s)=some {cls:=.type "list",dict:=none,data:=.seq acc' c',slots:=#[]}/\ItemsOf P acc' n)
  W hT _ _ 0 hst₁ hSf hI hS₁ (λs' acc' c' a b c=>⟨rfl,acc',c',a,b,c⟩) hn) (λfin s' h=>?_) (λe s' h=>?_)
 .have fin':∀s' acc' c',Moved (~~~s::wr) G {s with heap:=s.heap.push {cls:=.type "list",data:=.seq ([]:AC).toArray} } s'->s'.heap.get? (~~~s)=some {cls:=.type "list",dict:=none,data:=.seq acc' c',slots:=#[]}->ItemsOf P acc' n->
   wpAny (mZ prog w) A (match Value.ref (~~~s) with
    | Value.ref a=>do
      match (<-load a).data with
       | Data.seq xs _=>pure xs.toList
       | _=>unsupported "internal:collect"
    | _=>unsupported "internal:collect") Q E s':=λs' acc' c' hm hS' hacc=>by
   show wpAny _ A (load (~~~s)>>=_) _ _ s';refine wa (wpAny_load hS' ?_);exact wb (hQ s' acc' (Moved.drop_new (o:={cls:=.type "list",data:=.seq ([]:AC).toArray}) (tk:=s.toks) hm (qv _)) hacc)
  cases fin with
  | done f=>
    obtain⟨e,acc',c',a,b,c⟩:=h;cases e;exact fin' _ acc' c' a b c
  | again c'=>exact⟨h.1,codeAny_mono h.2 λr s'' hr=>by obtain⟨rfl,acc',c',a,b,c⟩:=hr;exact fin' _ acc' c' a b c⟩
 .exact absurd h.1 nofun
theorem Uj{Q₁:AA}(W:WalksS prog w A.in1.in1 I fp wr G n P St)(k:∀i s,St i s->s.TypeIs (.ref I) "list_reverseiterator")(d:St 0 s)(f:∀b∈fp,b< ~~~s)(m:I∈fp)(h:∀s' a,Moved wr G s s'->ItemsOf P a n->Q₁ (.ref s'.heap.objs.size) { s' with heap:=s'.heap.push {cls:=.type "tuple",data:=.seq a} })(hsz:n<=sizeLine):
 codeAny (mZ prog w) A (.call (.builtin "tuple.__new__") ⟨[.type "tuple",.ref I],[]⟩) (wants Q₁ E) s:=by
 refine codeAny_of_tree ?_;refine wa (wpAny_of_eq (F.newCall_tuple_1 _) (wb ⟨jb F.plain_tuple_new _,wy F.entry_tuple_new ?_⟩));rw[jc F.plain_tuple_new _];have j:=sub_tuple_self;have g:=init_tuple_lookup;have l:=madeHere_tuple;have e:=k 0 s d
 wp_walk using wpAny_typeOf e,Ui (hn:=hsz) W k d f m
 intro s' a o c;show wpAny _ _ (Builtin.Tuple.tupleExact a.toList.toArray>>=λv=>ret v) _ _ _;unfold Builtin.Tuple.tupleExact;refine wa (wg ?_ (by show a.toList.toArray.size<=sizeLine;simp only[Array.toArray_toList];rw[c.1];exact hsz));refine wb ?_
 ext
def Uk(W:WalksS prog w A.in1.in1.in1 I fp wr G n P St)(l:∀i s,St i s->s.TypeIs (.ref I) "list_reverseiterator")(g:St 0 s)(h:∀b∈fp,b< ~~~s)(k:I∈fp)(m:∀s' d,Moved wr G s s'->ItemsOf P d n->Q (.ref s'.heap.objs.size) { s' with heap:=s'.heap.push {cls:=.type "tuple",data:=.seq d} })(hsz:n<=sizeLine):
 wpAny (mZ prog w) A (call (.type "tuple") [.ref I]) Q E s:=callType_codes (Q₁:=λe a=>a.TypeIs e _/\Q e a) F.called_tuple (F.typeCall_tuple_1 _) F.entry_object_init
 (Uj (hsz:=hsz) W l g h k λs' d j f=>⟨⟨_,qp _ rfl,rfl⟩,m s' d j f⟩) λe a c=>⟨c.1,F.args_object_init_2 e _,object_init_meets F.called_tuple.init.lookup F.called_tuple.made (by decide) _ w _ _ _ ⟨c.1,rfl,c.2⟩⟩
end
theorem DO{items acc:Array Value}(h:ItemsOf (λi v=>items[items.size-1-i]?=some v) acc items.size):acc.toList=items.toList.reverse:=by
 obtain⟨h1,h2⟩:=h;apply List.ext_getElem?;intro i;by_cases hi:i<items.size
 .have hi2:i<acc.size:=by rw[h1];exact hi
  have e:=h2 i acc[i] (Array.getElem?_eq_getElem hi2);rw[List.getElem?_reverse (by simpa using hi)];rw[Array.getElem?_toList,Array.getElem?_toList,Array.getElem?_eq_getElem hi2,<-e];simp
 .rw[List.getElem?_eq_none (by simp;ac_nf),List.getElem?_eq_none (by simp;ac_nf)]
theorem Ou:∀{xs:AM}{us:AC},Vals xs us->Vals xs.reverse us.reverse
 | _,_,.nil=>.nil
 | _,_,.cons r t=>by
   rw[List.reverse_cons,List.reverse_cons];exact(Ou t).append (.cons r .nil)
section
variable {e:Expr}{p:Pos}
def DP{σ:L2.St}(I:Inv X pins σ H s)(g:Gl X "reversed")(i:X.mg "reversed"=none)(m:PA X [e] ta)(h:ta σ H q)(hs:starEach [e] X.env=[(false,eval e X.env)])(k:∀vs c b,Inv X pins σ c b->q vs c->∃a xs its,vs=[.ref a]/\SqL X.K c a xs/\Vals xs its/\b.heap.IsList a its.toArray/\Q (.ref b.heap.objs.size) {b with heap:=b.heap.push (revObj a ((its.toArray.size:Int)-1))}):
 aah X (eval (.Call (.Name "reversed" p2) [e] [] pos2) X.env) Q X.xe s:=by
 refine Call_ (jv I g i boot_reversed (PyProof.Rows.callWith_type1 (aL (m _ _ s σ H _ I h) λw b f=>?_) hs rfl));obtain⟨vs,c,o,l,n⟩:=f;obtain⟨a,xs,its,rfl,t,v,p,z⟩:=k vs c b o n;obtain⟨u,rfl,j⟩:=d6 l;cases j;exact call_reversed_list p z
def DR(K:W7)(ta:TA):TE:=λd H Q=>ta d H λe b=>∃a c,e=[.ref a]/\SqL K b a c/\∀l,b l=none->Q (.ref l) (upd b l (.tup c.reverse))
theorem DS(R:X.calm=true)(V:Gl X "tuple")(G:X.mg "tuple"=none)(t:Gl X "reversed")(v:X.mg "reversed"=none)(T:PA X [e] ta)(hs:aae X e:=by rfl)(Y:starEach [.Call (.Name "reversed" p2) [e] [] pos2] X.env=[(false,eval (.Call (.Name "reversed" p2) [e] [] pos2) X.env)]:=by rfl):
 PE X (.Call (.Name "tuple" p) [.Call (.Name "reversed" p2) [e] [] pos2] [] pos) (DR X.K ta):=by
 intro j s S H Q I h;refine wpAny_Call_Name_kw (jv I V G boot_tuple ?_ (by decide) (by decide));refine PyProof.Rows.callWith_type1 ?_ Y rfl;refine Calls.spliced_cons (DP I t v T h hs λvs F B y M=>?_);obtain⟨a,J,rfl,C,q⟩:=M;obtain⟨r,n,m,K⟩:=y.list C;refine⟨a,J,r,rfl,C,n,m.isList,Calls.spliced_nil ?_⟩
 have x:a≠B.heap.objs.size:=by
  obtain⟨o,A,_⟩:=m.isList;exact qm (ql A)
 have w:a<B.heap.objs.size:=by
  obtain⟨o,A,_⟩:=m.isList;exact ql A
 have Z:=n.length;refine Uk (Walks.listRev (show X.A.in1.in1.in1.handled=none from y.ok.hd R) _ a x _).toS (λi s st=>st.2.1.typeIs) ⟨Qh _,⟨_,qp _ rfl,rfl,by simp[revObj]⟩,m.isList.push _⟩ (λb f=>?_) nofun (λU c k l=>?_) (by ext)
 .rw[ww]
  rcases qu f with rfl|f
  .exact Qa _
  .rw[List.mem_singleton.mp f];exact qx w
 .have N:∀b u,B.heap.get? b=some u->_:=λb u E=>by
   have f:=ql E;refine k.heap b u (λz=>?_) (qe _ E);rw[List.mem_singleton.mp z]at f;exact absurd f (Nat.lt_irrefl _)
  have L:=by simpa using DO l
  have D:Inv X j S F U:=by
   have e:=Moved.eq_with k;rw[e];exact y.kept N
  refine⟨.ref _,upd F _ _,?_,rfl,q _ (D.hok.fresh (qv _))⟩
  have O:c=c.toList.toArray:=by simp
  exact D.laid (λb o e=>qe _ e) (qv _) (⟨by rw[List.length_reverse];exact K,c.toList,by rw[L];exact Ou n,by rw[<-O];exact IsTup.new _ _⟩)
def k8(f:AU):AV:=λa=>(b1 f fC a).map .reverse
variable {f:AU}
end
end
section
variable {e:Expr}{f fb:AU}
def DT:V->AM->Hp->VK->Prop:=λx d H Q=>∃l b c a,x=.ref l/\d=[.ref b]/\H l=some (.lst c)/\Rd H b (.lst a)/\c.length+a.length<=sizeLine/\Q .non (upd H l (.lst (c++a)))
theorem DU:vM X "list.extend" DT:=by
 intro D s L H x J v K Q I p w h;obtain⟨l,b,G,B,rfl,rfl,j,m,C,q⟩:=h;cases p;obtain⟨u,rfl,o⟩:=w.one;cases o;obtain⟨z,d,n,r,A,e⟩:=I.lstM j;obtain⟨y,a,k,i,E⟩:=m.ok I.hok;have t:=i.length
 have g:d.toArray.size+a.toArray.size<=sizeLine:=by ext
 have c:¬(!d.toArray.isEmpty&&Builtin.List.listTooLong (d.toArray.size+a.toArray.size))=true:=by
  rw[B9 g];symm
 refine call_meets F.slot_list_extend ⟨_,e,rfl⟩ F.entry_list_extend (F.args_list_extend_2 _ _)
  (AutoSeq1.list_extend_list_list_0 l _ n b _ k c (by ext) ∅) ⟨e,E,⟨.non,_,I.lset j e nofun (r.append i) ?_,rfl,q⟩⟩
 symm
def gA(l:AN)(d:D):Option AN:=match d with
 | .lst m=>if l.length+m.length<=aA then some (l++m)else none
 | _=>none
end
def SE(w:World):List DictEntry->List (Str×Str)->Prop:=Paired λe p=>e.hash=PyData.keyHash w.params p.1/\(∃t,e.key=.str p.1 t)/\(∃t,e.val=.str p.2 t)/\PyData.strOk p.2=true
def GD(K:W7)(w:World)(c:AD)(x:Str)(a:List (Str×Str)):Prop:=∃p o b d,c x=some (.ref p)/\K.lookup p=some o/\o.ExactDict/\o.data=.dict b d/\SE w b.toList a
theorem pJ:∀{l:List DictEntry}{c:List (Str×Str)},SE w l c->c.lookup k=some v->∃e t,l.find? (λe=>(PySem.strKind P w).is k e.key)=some e/\e.val=.str v t
 | _,_,.nil,h=>by simp at h
 | _,_,.cons (a:=e) (b:=p) r t,h=>by
   obtain⟨_,⟨o,d⟩,⟨g,j⟩,_⟩:=r;obtain⟨a,b⟩:=p;by_cases q:a=k
   .subst q
    simp at h;subst h;exact⟨e,g,by simp[d,PySem.strKind,Value.isStrOf],j⟩
   .have i:(k==a)=false:=by simpa using (λz=>q z.symm)
    obtain⟨n,f,s,m⟩:=pJ t (by simpa [List.lookup_cons,i]using h);refine⟨n,f,?_,m⟩;rw[List.find?_cons]
    have:(PySem.strKind P w).is k e.key=false:=by
     rw[d];show(a==k)=_;simpa using q
    rwa [this]
theorem pK:∀{l:List DictEntry}{a:List (Str×Str)},SE w l a->∀e∈l,∃k,(PySem.strKind P w).is k e.key=true/\e.hash=(PySem.strKind P w).hash k
 | _,_,.nil,e,h=>by cases h
 | _,_,.cons (b:=p) r t,e,h=>by
   rcases qu h with rfl|h
   .obtain⟨d,⟨c,b⟩,_⟩:=r
    exact⟨p.1,by rw[b];simp[PySem.strKind,Value.isStrOf],d⟩
   .exact pK t e h
theorem pL:∀{l:List DictEntry}{c:List (Str×Str)},SE w l c->c.lookup k=some v->PyData.strOk v=true
 | _,_,.nil,h=>by simp at h
 | _,_,.cons (b:=p) r t,h=>by
   obtain⟨a,b⟩:=p;by_cases q:k=a
   .simp_all
   .have d:(k==a)=false:=by simpa using q
    exact pL t (by simpa [List.lookup_cons,d]using h)
section
variable {x:Str}
noncomputable def iK(a:List (Str×Str)):D->Option D
 | .str k=>(a.lookup k).map .str
 | _=>none
end
def Gr.updHid(g:Gr H G d a)(c:H p=none)(f:a p=none)(o:HO):Gr H G (upd d p o) a:=
 ⟨λb u e=>by rw[Ym (Yk e c)];exact g.h b u e,g.g,λb u e=>by rw[Ym (Yk e f)];exact g.s b u e,g.n⟩
def tK(x:Str):TE:=λ_ H Q=>Q (.str x) H
def DV{X:Cx}{x:Str}{j:Nat}{pos:Pos}:PE X (.Constant (.str x) j pos) (tK x):=oi
structure MP(X:Cx)(pos:Pos)(keys:List (Option Expr))(values:AK)(ks:AJ)(fs:List AU):Prop where
 len:ks.length=fs.length
 pps:mM X pos keys values ((ks.zip fs).map λp=>(tK p.1,tOf X.K p.2))
 all:keys.all (·.isSome)=true
 kv:keys.length=values.length
 kk:keys.length=ks.length
def DW{X:Cx}{pos:Pos}:MP X pos [] [] [] []:=⟨rfl,Ny,rfl,rfl,rfl⟩
noncomputable def vZ:List AU->AV
 | [],_=>some []
 | f::fs,ρ=>(f ρ).bind λd=>(vZ fs ρ).map (d::·)
theorem Ov{q g:Hp}{σ:L2.St}{ρ:Ro}:∀{ks:AJ}{fs:List AU}{ds:AN}{H G:Hp}{Q:List (V×V)->Hp->Prop},ks.length=fs.length->vZ fs ρ=some ds->SR K q g σ H G ρ->
 (∀vs H' b,Gr H G H' b->RpL K b ds vs->Q ((ks.map V.str).zip vs) H')->oH ((ks.zip fs).map λp=>(tK p.1,tOf K p.2)) σ H Q
 | [],[],_,H,G,Q,_,e,s,h=>by
   cases e;exact h [] H G (.refl s.seen) .nil
 | [],_::_,_,_,_,_,a,_,_,_=>by simp at a
 | _::_,[],_,_,_,_,a,_,_,_=>by simp at a
 | x::ks,f::fs,ds,H,G,Q,a,e,s,h=>by
   obtain⟨d,m,e⟩:=qa e;obtain⟨l,r,rfl⟩:=qc e;exact tOf.at m s λv w y t j k=>Ov (by simpa using a) r k λvs n o c i=>h _ n o (t.trans c) (.cons (j.mono c.g) i)
theorem Ow:∀{a b:List (bp×V)},(a.map (·.1)).Nodup->(∀k∈a.map (·.1),bT b k=none)->iA b a=b++a
 | [],b,_,_=>by simp[iA]
 | p::a,b,c,f=>by
   rw[Qd,List.nodup_cons]at c;have g:=f p.1 nofun;show iA (bM b p.1 p.2) _=_;rw[BA _ g,Ow c.2 λk d=>?_]
   .simp
   .rw[Nr _ _ _ _ g]
    have:¬k=p.1:=λe=>c.1 (e ▸ d);rw[if_neg this];exact f k (by simp at d ⊢;exact .inr d)
theorem DX{ks:AJ}(k:Str):∀{vs:AM},bT ((ks.map Sum.inr:List bp).zip vs) (Sum.inr k)=Yn ks vs k:=by
 induction ks with
 | nil=>intro vs;cases vs<;>rfl
 | cons a ks b=>
   intro vs
   cases vs with
   | nil=>rfl
   | cons v vs=>
     rw[Qd,List.zip_cons_cons];by_cases e:a=k
     .rw[iv (by rw[e])]
      simp[Yn,e]
     .rw[iw (λz=>e (Sum.inr.inj z)),b]
      simp[Yn,e]
def k9(ks:AJ)(fs:List AU)(fk:AU):AU:=λa=>(vZ fs a).bind λb=>(fk a).bind fun
 | .str k=>Yn ks b k
 | _=>none
noncomputable def k_:D->Option Int
 | .int i=>some i
 | .bl b=>some (if b then 1 else 0)
 | _=>none
noncomputable def lb:AN->Option AF
 | []=>some []
 | d::l=>(k_ d).bind λi=>(lb l).map (i::·)
def eV:D->Option AF
 | .tup l=>lb l
 | _=>none
noncomputable def fE:AN->Option (List AF)
 | []=>some []
 | d::l=>(eV d).bind λk=>(fE l).map (k::·)
def DY(h:k_ d=some i)(r:Rp K G d v):iD v=some i:=by
 cases d<;>simp[k_]at h
 .subst h r
  rfl
 .subst h r
  rfl
theorem DZ:∀{l:AN}{xs:AM}{k:AF},lb l=some k->RpL K G l xs->d7 xs=some k
 | [],xs,k,h,r=>by
   cases h;subst r;rfl
 | d::l,xs,k,h,r=>by
   obtain⟨i,c,h⟩:=qa h;obtain⟨m,b,rfl⟩:=qc h;obtain⟨x,q,rfl,a,e⟩:=r;rw[d7,DY c a,DZ b e];rfl
def pM(h:eV d=some k)(r:Ct K G H d v):∃b ys,v=.ref b/\H b=some (.tup ys)/\G b=some (.tup ys)/\d7 ys=some k:=by
 cases d with
 | tup l=>
   obtain⟨b,ys,rfl,⟨a,e⟩,c⟩:=r;exact⟨b,ys,rfl,a,e,DZ h c⟩
 | _=>cases h
theorem v5:∀{ks:AN}{b:List AF}{nks:List (List Int×Addr)},fE ks=some b->RpL K G ks (nks.map λp=>V.ref p.2)->(∀p∈nks,∃ys,G p.2=some (.tup ys)/\d7 ys=some p.1)->nks.map (·.1)=b
 | [],b,nks,h,r,_=>by
   cases h;rw[RpL]at r;simpa using r
 | d::ks,b,nks,h,r,f=>by
   obtain⟨k,i,h⟩:=qa h;obtain⟨m,w,rfl⟩:=qc h;obtain⟨x,q,e,v,t⟩:=r
   cases nks with
   | nil=>cases e
   | cons p nks=>
     injection e with s u;subst s u;have A:=v5 w t λp o=>f p (qg _ o);obtain⟨ys,g,n⟩:=f p qh
     cases d with
     | tup l=>
       obtain⟨a,z,c,j,y⟩:=v;injection c with c;subst c;rw[g]at j;cases j;rw[DZ i y]at n;grind
     | _=>cases i
structure pN(H:Hp)(a:Addr)(nks:List (List Int×Addr))(vxs:AM):Prop where
 at':∃ep,H a=some (ej a nks vxs ep)
 len:nks.length=vxs.length
 nd:(nks.map (·.1)).Nodup
 keys:∀p∈nks,∃ys,H p.2=some (.tup ys)/\d7 ys=some p.1
def v7{σ:L2.St}(I:Inv X pins σ H s)(d:pN H a nks vxs):
 (a==sysModules)=false/\∃us,Vals vxs us/\us.length=nks.length/\s.heap.DictOfH (tupleKind (dY X.prog X.w)) a (bF nks us):=by
 obtain⟨b,e⟩:=d.at';exact pH I.hok (.refl H) e d.len d.nd d.keys
def pO:R2:=λx y H Q=>∃a b d c e k v,x=.ref a/\y=.ref b/\pN H a d c/\H b=some (.tup e)/\d7 e=some k/\Yn (d.map (·.1)) c k=some v/\Q v H
def D0(r:Vals vxs us)(b:Yn (nks.map (·.1)) vxs k=some z):∃p,atKey (bF nks us) k=some p/\RelV z p.2:=by
 have a:=Oq k (ks:=nks.map (·.1)) r;rw[b,<-DL k nks us]at a
 cases h:atKey _ k with
 | none=>rw[h]at a;exact a.elim
 | some p=>rw[h]at a;exact⟨p,rfl,a⟩
theorem D1(E:X.A.units+64<cLine):IxR X pO:=by
 intro c e g s G H x y v u Q I A D h w;obtain⟨a,b,n,C,F,k,z,rfl,rfl,o,m,j,t,q⟩:=h;cases A;cases D;obtain⟨l,K,r,J,f⟩:=v7 I o;obtain⟨p,B,i⟩:=D0 r t;exact tail_any f.typeIs PySem.F.slot_dict_getitem.lookup (wpAny_getItem_heap (by show _<_;grind) (kZ I.hok m j) f B ⟨z,H,I.tok _,i,q⟩) w
def lg(e:Bool):R2:=λx y H Q=>∃a b c d f k,x=.ref b/\y=.ref a/\pN H a c d/\H b=some (.tup f)/\d7 f=some k/\Q (.bl (decide (k∈c.map (·.1))!=e)) H
theorem D2(a:us.length=nks.length):(atKey (bF nks us) k).isSome=decide (k∈nks.map (·.1)):=by
 have c:=DL k nks us;have b:=k7 (x:=k) (ks:=nks.map (·.1)) (vs:=us) (by grind)
 cases h:atKey _ k with
 | none=>
   grind
 | some p=>
   grind
theorem pP(p:X.A.units+64<cLine):bX X (compareOp .In) (lg false):=by
 intro d s z H x y v u Q I l e h;obtain⟨a,b,m,o,w,k,rfl,rfl,g,j,i,q⟩:=h;cases l;cases e;obtain⟨c,t,r,f,n⟩:=v7 I g;refine wpAny_in_heap (by show _<_;symm) (kZ I.hok j i) c n ⟨.bl _,H,I.tok _,?_,q⟩;rw[D2 f,Bool.bne_false];rfl
theorem D4(p:X.A.units+64<cLine):bX X (compareOp .NotIn) (lg true):=by
 intro d s z H x y v u Q I l e h;obtain⟨a,b,m,o,w,k,rfl,rfl,g,j,i,q⟩:=h;cases l;cases e;obtain⟨c,t,r,f,n⟩:=v7 I g;refine wpAny_notIn_heap (by show _<_;ac_nf) (kZ I.hok j i) c n ⟨.bl _,H,I.tok _,?_,q⟩;rw[D2 f,Bool.bne_true];rfl
def pQ(d:(a==sysModules)=false)(r:Vals vxs us)(j:h'.DictOfH (tupleKind (dY P w)) a (bF nks us)):
 ∃c,∀H',ObjOk P w H' h' a (ej a nks vxs c):=by
 obtain⟨o,e,c,b,g,m,i,_⟩:=j;refine⟨c,λH'=>⟨⟨d,us,o,e,r,b,g,m,?_⟩,⟨o,b⟩,λb g f k=>?_⟩⟩
 .rw[i,Qf]
  rfl
 .obtain⟨d,us,o,e,r,l,h⟩:=f
  exact⟨d,us,o,e,r,k o l,h⟩
def cQ(nks:List (List Int×Addr))(vxs:AM)(k:AF)(b:Addr)(v:V):List (List Int×Addr)×AM:=
 if k∈nks.map (·.1)then (nks,aQ (nks.map (·.1)) vxs k v)else (nks++[(k,b)],vxs++[v])
def D5:V->V->V->Hp->(Hp->Prop)->Prop:=λo i v H Q=>∃a b d c e k,o=.ref a/\i=.ref b/\pN H a d c/\H b=some (.tup e)/\d7 e=some k/\c.length<aA/\∀f,Q (upd H a (ej a (cQ d c k b v).1 (cQ d c k b v).2 f))
theorem D6(r:Vals xs us)(q:RelV v u):Vals (xs++[v]) (us++[u]):=by
 induction r with
 | nil=>exact .cons q .nil
 | cons a _ b=>exact .cons a b
theorem D7(N:X.A.units+64<cLine):kj X D5:=by
 intro x s T H o i v U R u Q I B L y h;obtain⟨a,b,c,m,O,k,rfl,rfl,p,E,C,V,q⟩:=h;cases B;cases L;obtain⟨l,j,r,f,F⟩:=v7 I p;have t:=kZ I.hok E C
 have K:(bF c j).length<=sizeLine:=by
  have:(bF c j).length<=c.length:=by ext
  have S:=hC (n:=c.length) (by rw[p.len];ac_nf)
  ext
 refine wpAny_setItem_heap (hsz:=K) (by show _<_;symm) t F λJ d same=>?_;have z:=D2 (k:=k) f;obtain⟨G,D⟩:=p.at'
 have g:∃w,∀M,ObjOk X.prog X.w M J a (ej a (cQ c m k b v).1 (cQ c m k b v).2 w):=by
  unfold cQ;by_cases n:k∈c.map (·.1)
  .rw[if_pos n]
   rw[wn n]at z
   have e:storedH (bF c j) k b u=bF c (aQ (c.map (·.1)) j k u):=by
    unfold storedH;rw[if_pos z];exact Ot (b:=b) f p.nd n
   rw[e]at d;exact pQ l (Os k y r) d
  .rw[if_neg n]
   have e:storedH (bF c j) k b u=bF (c++[(k,b)]) (j++[u]):=by
    unfold storedH;rw[if_neg (by ext)];unfold bF;rw[List.zip_append f.symm,wt];rfl
   rw[e]at d;exact pQ l (D6 r y) d
 obtain⟨w,g⟩:=g;exact⟨_,mL I (by rw[D];exact .intro) same (let ⟨q,_,_,A,_⟩:=d;⟨q,A⟩) (g _),q w⟩
def lh(m:Same G H)(d:Dc true G H a kxs vxs):∃nks,pN H a nks vxs/\kxs=nks.map (λp=>V.ref p.2)/\∀p∈nks,∃ys,G p.2=some (.tup ys)/\d7 ys=some p.1:=by
 rcases d with⟨h,_⟩|⟨_,nks,k,j,f,l,e,b⟩
 .cases h
 .exact⟨nks,⟨⟨k,j⟩,f,l,λp c=>let ⟨ys,g,i⟩:=b p c;⟨ys,m _ _ g,i⟩⟩,e,b⟩
def bV:D->D->Option D
 | .dct true b a,k=>(fE b).bind λc=>(eV k).bind λx=>Yn c a x
 | _,_=>none
def D8:el K pO bV:=by
 intro x y F E d H G Q h s C g q;unfold bV at h
 split at h
 .obtain⟨I,m,h⟩:=qa h
  obtain⟨z,w,l⟩:=qa h;obtain⟨a,A,c,rfl,i,k,j⟩:=C;obtain⟨f,t,rfl,o⟩:=lh s i;obtain⟨b,p,rfl,B,D,n⟩:=pM w g;have e:=v5 m k o;subst e;obtain⟨v,r,u⟩:=(m4 z j).1 d l;exact⟨a,b,f,c,p,z,v,rfl,rfl,t,B,n,r,q v H G (.refl s) u⟩
 .cases h
def cZ(a:Bool):D->D->Option Bool
 | k,.dct true c _=>(fE c).bind λb=>(eV k).map λx=>decide (x∈b)!=a
 | _,_=>none
def D9:eN K (lg d) (cZ d):=by
 intro x y A B b H G Q h s r g q;unfold cZ at h
 split at h
 .obtain⟨C,l,h⟩:=qa h
  obtain⟨z,p,rfl⟩:=qc h;obtain⟨a,i,f,rfl,u,k,w⟩:=g;obtain⟨c,o,rfl,m⟩:=lh s u;obtain⟨b,j,rfl,t,v,n⟩:=pM p r;have e:=v5 l k m;subst e;exact⟨a,b,c,f,j,z,rfl,rfl,o,t,n,q⟩
 .cases h
section
variable {a b e:Expr}{fb f:AU}
def lj(ks vs:AN)(k d:D):Option (List D×AN):=(fE ks).bind λa=>(eV k).bind λx=>if vs.length<aA then some (if x∈a then (ks,aQ a vs x d)else (ks++[k],vs++[d]))else none
noncomputable def iL(i:Nat):Ro->Option (List D×AN):=λc=>match c[i]? with
 | some (some (.od true b a))=>some (b,a)
 | _=>none
theorem Ul(h:iL i ρ=some l):ρ[i]?=some (some (B.od true l.1 l.2)):=by
 unfold iL at h;grind
def iM(i:Nat)(c f:AU):AR:=λa=>(f a).bind λd=>(iL i a).bind λl=>(c a).bind λk=>(lj l.1 l.2 k d).map λb=>.nx (a.set i (some (.od true b.1 b.2)))
theorem RpL.snoc(r:Rp K G d y):∀{l:AN}{xs:AM},RpL K G l xs->RpL K G (l++[d]) (xs++[y])
 | [],_,h=>by
   subst h;exact .cons r .nil
 | e::l,_,h=>by
   obtain⟨x,q,rfl,c,g⟩:=h;exact .cons c (.snoc r g)
theorem D_(k:A.units+64<cLine)(h:wpAny (mZ prog w) A (evalPairs (pairTrees [some g] [ve] env pos)) (λvs a=>∃(b:Addr) (n:AF) (u:Value),vs=[(.ref b,u)]/\(tupleKind (dY prog w)).is a.heap n b/\a.heap.DictOfH (tupleKind (dY prog w)) (~~~s) []/\
  ∀h' t,h'.DictOfH (tupleKind (dY prog w)) (~~~s) [(n,b,u)]->Heap.SameBut (~~~s) a.heap h'->Q (.ref (~~~s)) {a with heap:=h',toks:=t}) E
  {s with heap:=s.heap.push {cls:=.type "dict",data:=.dict #[]} }):
 wpAny (mZ prog w) A (eval (.Dict [some g] [ve] pos) env) Q E s:=by
 rw[arm_eval_Dict,(zip_pairTrees [some g] [ve] env pos rfl rfl),dictDisplay_pairs _ (λz=>by cases z) (by show 1<17;lia)];refine wa (wpAny_standAt (wa (wa (wpAny_alloc ?_))));refine wa (wc ?_);refine wa (wz h (λvs a i=>?_) λ_ _ e=>e);obtain⟨b,n,u,rfl,c,j,q⟩:=i;refine wc ?_;rw[List.forIn_cons];refine wa (wa (wa (wpAny_dictSet_heap (hsz:=by ext) (by show _<_;lia) c j λh' d same=>wb ?_)));refine wb (wb (wb (wb ?_)));exact q h' _ d same
def Ea(r:VV [(x,y)] ws):∃kv u,ws=[(kv,u)]/\RelV x kv/\RelV y u:=by
 cases r with
 | cons r t=>
   cases t;exact⟨_,_,rfl,r.1,r.2⟩
def Eb(c:List (TE×TE)):TE:=λh H Q=>∀p f,H p=none->oH c h (upd H p (ej p [] [] f)) λg d=>d p=some (ej p [] [] f)/\∃b e n v,g=[(.ref b,v)]/\d b=some (.tup e)/\d7 e=some n/\∀a,Q (.ref p) (upd d p (ej p [(n,b)] [v] a))
theorem Ec(z:X.A.units+64<cLine)(h:mM X pos [some J] [ve] i):PE X (.Dict [some J] [ve] pos) (Eb i):=by
 intro m s x H Q I q;have l:=beq_eq_false_iff_ne.mpr (.symm (qm I.big));obtain⟨E,d⟩:=pQ (nks:=[]) l .nil (.new _);refine D_ z (aL (h _ _ x _ _ (I.laid (t':=s.toks) (λ_ _ q=>qe _ q) (qv _) (d _)) (q _ _ (I.hok.fresh (qv _)))) λU R j=>?_);obtain⟨S,F,f,g,e,b,M,n,v,w,o,r,D⟩:=j;subst w;obtain⟨T,u,rfl,y,A⟩:=Ea g;obtain rfl:=y;obtain⟨_,O,L,_,C⟩:=pH f.hok (.refl F) e rfl List.nodup_nil (λp G=>by cases G);refine⟨b,n,u,rfl,kZ f.hok o r,by simpa [bF]using C,λN t c same=>?_⟩;obtain⟨k,a⟩:=pQ (nks:=[(n,b)]) l (.cons A .nil) c;exact⟨.ref _,_,mL f (by rw[e];exact .intro) same (let ⟨q,_,_,K,_⟩:=c;⟨q,K⟩) (a _),rfl,D k⟩
def ll(i:Nat)(c b:AU):AR:=λa=>(c a).bind λk=>(b a).bind λv=>(eV k).map λ_=>.nx (a.set i (some (.od true [k] [v])))
end
noncomputable def m5:AK->Option AF
 | []=>some []
 | .Constant (.int i) _ _::es=>(m5 es).map (i::·)
 | _=>none
def hP(ns:AF):AV:=λ_=>if ns.length<=aA then some (ns.map .int)else none
def gB:AF->AV
 | []=>ae
 | n::ns=>Yb (aab n) (gB ns)
theorem Ox(ρ:Ro):∀ns:AF,gB ns ρ=some (ns.map D.int)
 | []=>rfl
 | n::ns=>by rw[gB,Yb,Ox ρ ns];rfl
theorem pR:∀{a:AK}{ns:AF},m5 a=some ns->MA X a (gB ns)
 | [],ns,h=>by
   cases h;exact kQ
 | e::a,ns,h=>by
   unfold m5 at h
   split at h
   .grind
   .rename_i i j p d b
    cases b;obtain⟨m,c,rfl⟩:=qc h;exact CZ oY (pR c)
   .cases h
theorem pS(ns:AF)(h:m5 a=some ns:=by decide +kernel):MF X (.List a pos) (hP ns):=by
 have:=pb (pos:=pos) (pR (X:=X) h)
 have e:bC (gB ns)=hP ns:=by
  funext b
  unfold bC hP;rw[Ox];simp
 grind
section
variable {a b c e:Expr}{fb fc:AU}
noncomputable def v8(fa fb fc:AU)(g b:D->D->Option Bool):AT:=λa=>
 (fa a).bind λx=>(fb a).bind λy=>(g x y).bind λk=>if k=true then (fc a).bind λz=>b y z else some false
theorem Ed(h:v8 fa fb fc g g' ρ=some k):
 ∃x y,fa ρ=some x/\fb ρ=some y/\((g x y=some false/\k=false)\/(g x y=some true/\∃z,fc ρ=some z/\g' y z=some k)):=by
 obtain⟨x,e,h⟩:=qa h;obtain⟨y,d,h⟩:=qa h;obtain⟨q,c,h⟩:=qa h
 cases q with
 | false=>
   ext
 | true=>
   obtain⟨z,b,h⟩:=qa h
   ext
end
section
variable {e:Expr}{f:AU}{fc:AT}
noncomputable def pT:D->Bool
 | .non|.bl _|.int _|.str _=>true
 | _=>false
def scal(d:D):Option D:=if pT d=true then some d else none
def Rp.scal(h:pT d=true)(r:Rp K G d v):Rp K a d v:=by
 cases d<;>first|(exact r)|cases h
def Gr.back(s:Same G H)(g:Gr H a H' c):Gr H G H' G:=⟨g.h,.refl _,s.trans g.h,λ_ h b=>absurd h b⟩
def gC(b:AE)(f:AU):AU:=λa=>(f (frz b a)).bind scal
def iN(is:AE)(f:AT):AT:=λρ=>f (frz is ρ)
mutual
def jF:D->Bool
 | .non=>true
 | .bl _=>true
 | .int _=>true
 | .str _=>true
 | .tup l=>er l
 | .lst _=>false
 | .scr _=>false
 | .dct _ _ _=>false
 | .obj _ _ _=>false
 | .adr _=>false
def er:AN->Bool
 | []=>true
 | d::l=>jF d&&er l
end
mutual
theorem Rp.plain{G G':Hp}(c:∀b ys,G b=some (HO.tup ys)->G' b=some (HO.tup ys)):∀{d:D}{v:V},jF d=true->Rp K G d v->Rp K G' d v
 | .non,_,_,r=>r
 | .bl _,_,_,r=>r
 | .int _,_,_,r=>r
 | .str _,_,_,r=>r
 | .tup l,_,h,r=>by
   obtain⟨a,xs,e,g,q⟩:=r;exact⟨a,xs,e,c _ _ g,RpL.plain c h q⟩
 | .lst _,_,h,_=>by cases h
 | .scr _,_,h,_=>by cases h
 | .dct _ _ _,_,h,_=>by cases h
 | .obj _ _ _,_,h,_=>by cases h
 | .adr _,_,h,_=>by cases h
theorem RpL.plain{G G':Hp}(c:∀b ys,G b=some (HO.tup ys)->G' b=some (HO.tup ys)):∀{l:AN}{xs:AM},er l=true->RpL K G l xs->RpL K G' l xs
 | [],_,_,r=>r
 | d::l,_,h,r=>by
   rw[er,Qe]at h;obtain⟨x,xs,e,g,q⟩:=r;exact⟨x,xs,e,Rp.plain c h.1 g,RpL.plain c h.2 q⟩
end
def hV(b:AE)(f:AU):AU:=λa=>(f (frz b a)).bind λd=>if jF d=true then some d else none
end
noncomputable def zK(ns:AF)(vxs:AM):List (bp×V):=(ns.zip vxs).map λp=>(.inl p.1,p.2)
def lp(n:Int)(v:V)(ns:AF)(vxs:AM):zK (n::ns) (v::vxs)=(Sum.inl n,v)::zK ns vxs:=rfl
theorem pU:∀{a:List (bp×V)}{ns:AF},a.map (λp=>kV p.1)=ns.map V.int->a=zK ns (a.map (·.2))
 | [],ns,h=>by
   cases ns with
   | nil=>rfl
   | cons n ns=>cases h
 | (k,v)::a,[],h=>by cases h
 | (k,v)::a,n::ns,h=>by
   injection h with b c
   cases k with
   | inl i=>
     have:=by simp[kV]at b;exact b
     subst this;rw[Qd,lp,<-pU c]
   | inr x=>cases b
theorem v9(i:Int):∀(ns:AF) (vxs:AM),bT (zK ns vxs) (Sum.inl i)=Yn ns vxs i
 | [],vxs=>by simp[zK,Yn,bT]
 | n::ns,[]=>by simp[zK,Yn,bT]
 | n::ns,v::vxs=>by
   rw[lp,Yn];by_cases h:n=i
   .rw[if_pos h,iv (by simp[h])]
   .rw[if_neg h,iw (by simpa using h)]
    exact v9 i ns vxs
theorem jG:∀(ns:AF) (vxs:AM),ns.length=vxs.length->(zK ns vxs).map (·.1)=ns.map Sum.inl
 | [],vxs,_=>rfl
 | n::ns,[],h=>by simp at h
 | n::ns,v::vxs,h=>by
   rw[lp,Qd,Qd,jG ns vxs (by simpa using h)]
theorem lq(ns:AF)(vxs:AM)(h:ns.length=vxs.length):(zK ns vxs).length=ns.length:=by
 have:=congrArg List.length (jG ns vxs h);grind
theorem pV(i:Int):∀(ns:AF) (vxs:AM),ns.length=vxs.length->((zK ns vxs).any λa=>decide (a.1=Sum.inl i))=decide (i∈ns)
 | [],vxs,_=>by simp[zK]
 | n::ns,[],h=>by simp at h
 | n::ns,v::vxs,h=>by
   rw[lp,List.any_cons,pV i ns vxs (by simpa using h)];grind
theorem pW(i:Int)(y:V):∀(ns:AF) (vxs:AM),ns.length=vxs.length->ns.Nodup->(zK ns vxs).map (λa=>if a.1=Sum.inl i then (a.1,y)else a)=zK ns (aQ ns vxs i y)
 | [],vxs,_,_=>by simp[zK]
 | n::ns,[],h,_=>by simp at h
 | n::ns,v::vxs,h,d=>by
   obtain⟨g,f⟩:=List.nodup_cons.mp d
   have c:=by simpa using h
   rw[lp,Qd,aQ];by_cases e:n=i
   .subst e
    rw[if_pos rfl,if_pos rfl,lp]
    have:(zK ns vxs).map (λa=>if a.1=.inl n then (a.1,y)else a)=zK ns vxs:=by
     refine(Qq λa b=>?_).trans (List.map_id _);rw[if_neg]
     .rfl
     .have:a.1∈_:=Qs b
      rw[jG ns vxs c]at this;grind
    rw[this]
   .rw[if_neg (by simpa using e),if_neg e,lp,pW i y ns vxs c f]
def Ee(i:Int)(y:V):∀(ns:AF) (vxs:AM),ns.length=vxs.length->zK (ns++[i]) (vxs++[y])=zK ns vxs++[(Sum.inl i,y)]:=λns vxs h=>by
 unfold zK;rw[List.zip_append h,wt];rfl
def dM(ns:AF)(vxs:AM)(i:Int)(y:V):List Int×AM:=if i∈ns then (ns,aQ ns vxs i y)else (ns++[i],vxs++[y])
def pX(h:ns.length=vxs.length)(a:ns.Nodup)(i:Int)(y:V):bM (zK ns vxs) (Sum.inl i) y=zK (dM ns vxs i y).1 (dM ns vxs i y).2:=by
 unfold bM dM;rw[pV i ns vxs h];by_cases e:i∈ns
 .rw[if_pos (wn e),if_pos e]
  exact pW i y ns vxs h a
 .rw[if_neg (by simpa using e),if_neg e,Ee i y ns vxs h]
theorem Ef{ns:AF}(h:(ns.map (Sum.inl:Int->bp)).Nodup):ns.Nodup:=by symm
theorem Um{ns:AF}(h:ns.Nodup):(ns.map (Sum.inl:Int->bp)).Nodup:=by symm
def hZ(k:intsD ks=some ns)(d:Dc false G H a b vxs)(r:RpL K G ks b):H a=some (.dK (zK ns vxs))/\ns.Nodup/\ns.length=vxs.length/\b=ns.map V.int:=by
 cases kW k;have e:=kX r;rcases d with⟨_,m,l,i,c,j⟩|⟨h,_⟩
 .rw[e]at c
  have f:=pU c.symm;rw[<-j]at f
  have g:ns.length=vxs.length:=by
   have:=congrArg List.length c;rw[j];simpa using this
  refine⟨by rw[l,<-f],?_,g,e⟩;rw[f,jG ns vxs g]at i;exact Ef i
 .cases h
theorem gE(h:H a=some (.dK (zK ns vxs)))(c:ns.Nodup)(b:ns.length=vxs.length):Dc false G H a (ns.map V.int) vxs:=by
 refine .inl ⟨rfl,zK ns vxs,h,by rw[jG ns vxs b];exact Um c,?_,?_⟩
 .have:=congrArg (List.map kV) (jG ns vxs b)
  rw[Qf,Qf]at this;exact(this.trans (Qq λ_ _=>rfl)).symm
 .unfold zK
  rw[Qf];have:(λp:Int×V=>_)=λp=>p.2:=rfl;clear h c this
  induction ns generalizing vxs with
  | nil=>cases vxs with
    | nil=>rfl
    | cons=>simp at b
  | cons n ns d=>cases vxs with
    | nil=>simp at b
    | cons v vxs=>simp;exact d (by simpa using b)
def cJ:D->D->Option D
 | .dct false c a,.int i=>(intsD c).bind λb=>Yn b a i
 | _,_=>none
def dN(a:Bool):D->D->Option Bool
 | .int i,.dct false b _=>(intsD b).map λc=>decide (i∈c)!=a
 | _,_=>none
def pY:R2:=λx y H Q=>∃a z,x=.ref a/\DGet H a y (some z)/\Q z H
def iO(b:Bool):R2:=λx y H Q=>∃a o,y=.ref a/\DGet H a x o/\Q (.bl (o.isSome != b)) H
def Eg:el K pY cJ:=by
 intro x y o p d H G Q h s k b q;unfold cJ at h
 split at h
 .rename_i w z i
  obtain⟨B,j,h⟩:=qa h;subst b;obtain⟨a,g,t,rfl,e,f,l⟩:=k;obtain⟨u,A,r,n⟩:=hZ j e f;obtain⟨v,m,c⟩:=(m4 i l).1 d h;refine⟨a,v,rfl,?_,q v H G (.refl s) c⟩;have:=DGet.k (k:=.inl i) u
  rwa [v9,m]at this
 .cases h
def Uo{vxs:AM}{i:Int}(b:ns.length=vxs.length):(Yn ns vxs i).isSome=decide (i∈ns):=by
 cases h:Yn ns vxs i with
 | none=>
   have:=(k7 b.symm).mp h;simp[this]
 | some v=>
   have:=Classical.byContradiction λz=>by
    rw[(k7 b.symm).mpr z]at h;cases h
   simp[this]
def Eh:eN K (iO c) (dN c):=by
 intro x y m o b H G Q h s j d q;unfold dN at h
 split at h
 .rename_i i v z
  obtain⟨u,l,rfl⟩:=qc h;subst j;obtain⟨a,e,r,rfl,k,f,n⟩:=d;obtain⟨t,w,g,p⟩:=hZ l k f;refine⟨a,Yn u r i,rfl,?_,?_⟩
  .have:=DGet.k (k:=.inl i) t
   rwa [v9]at this
  .rwa [Uo g]
 .cases h
section
theorem Ei(l:X.A.units+64<cLine):IxR X pY:=by
 intro c b n s p H x y v u Q I f e h o;obtain⟨a,z,rfl,g,q⟩:=h;cases f;exact tail_any (Nw I g) PySem.F.slot_dict_getitem.lookup (Nu (by lia) I g e λj k i d=>⟨z,H,i,d,q⟩) o
theorem pZ(f:X.A.units+64<cLine):bX X (compareOp .In) (iO false):=by
 intro b s i H x y v u Q I e c h;obtain⟨a,o,rfl,g,q⟩:=h;cases c
 exact BC ∅ I g e λj d=>⟨.bl _,H,d,by simp;rfl,q⟩
theorem Oy(f:X.A.units+64<cLine):bX X (compareOp .NotIn) (iO true):=by
 intro i s j H x y v u Q I c b h;obtain⟨a,o,rfl,g,q⟩:=h;cases b
 exact BD ∅ I g c λe d=>⟨.bl _,H,d,by simp;rfl,q⟩
def Ej:V->V->V->Hp->(Hp->Prop)->Prop:=λo i v H Q=>∃a b,o=.ref a/\DPut H a i v b/\Q b
theorem Ek(k:X.A.units+64<cLine):kj X Ej:=by
 intro b s l H o i v p j u Q I d c f h;obtain⟨a,n,rfl,g,q⟩:=h;cases d
 exact Tj ∅ I g c f λm e=>⟨_,e,q⟩
variable {a b e:Expr}{fb f:AU}
noncomputable def m6(i:Nat):AR:=λa=>some (.nx (a.set i (some (.od false [] []))))
noncomputable def fZ(i:Nat):Ro->Option (List D×AN):=λc=>match c[i]? with
 | some (some (.od false b a))=>some (b,a)
 | _=>none
theorem Oz(h:fZ i ρ=some l):ρ[i]?=some (some (B.od false l.1 l.2)):=by
 unfold fZ at h
 split at h
 .cases h;assumption
 .cases h
def m7(ks vs:AN)(k d:D):Option (List D×AN):=(intsD ks).bind λa=>match k with
 | .int i=>if vs.length<aA then some (if i∈a then (ks,aQ a vs i d)else (ks++[k],vs++[d]))else none
 | _=>none
def gF(i:Nat)(c f:AU):AR:=λa=>(f a).bind λd=>(fZ i a).bind λl=>(c a).bind λk=>(m7 l.1 l.2 k d).map λb=>.nx (a.set i (some (.od false b.1 b.2)))
def jH:D->D->D->Option D
 | .dct false c a,.int i,z=>(intsD c).map λb=>(Yn b a i).getD z
 | _,_,_=>none
noncomputable def b3{c:Type}(fa fb fc:AU)(g:D->D->D->Option c):Ro->Option c:=λa=>(fa a).bind λx=>(fb a).bind λy=>(fc a).bind λz=>g x y z
def Up(h:jH x y z=some d):∃ks vs i ns,x=.dct false ks vs/\y=.int i/\intsD ks=some ns/\d=(Yn ns vs i).getD z:=by
 unfold jH at h
 split at h
 .obtain⟨ns,a,b⟩:=qc h
  exact⟨_,_,_,ns,rfl,rfl,a,b.symm⟩
 .cases h
end
section
variable {w:World}{A:Around}{E:AA}{s:Shared}{e:Expr}{f:AU}{p:Pos}
def Uq:isSubtype (.type "dict") (.type "dict")=pure true:=by kernel_rfl
def Ur(a:AF)(i:Nat)(v:Value):Prop:=∃k t,a[i]?=some k/\v=.int k t
theorem El:∀{a:AC},a.length=b.length->(∀(j:Nat) v,a[j]?=some v->Ur b j v)->IntsAre a b:=by
 induction b with
 | nil=>
   intro a h _;rw[List.length_eq_zero_iff.mp h];exact .nil
 | cons k r g=>
   intro a h e
   match a,h with
   | v::a,h=>
     obtain⟨f,t,c,d⟩:=e 0 v rfl;simp at c;subst c d;refine .cons _ t (g (by simpa using h) λj v i=>?_);obtain⟨f,t,c,d⟩:=e (j+1) v (by ext);exact⟨f,t,by ext,d⟩
theorem Us{ns:AF}(hh:A.handled=none)(hd:(a==sysModules)=false)(hS:s.heap.DictOf (cH prog w) a c)(hk:c.map (·.1)=ns.map Sum.inl)(hl:ns.length<=1000)(hQ:∀(h':Heap) (tk:Nat) (S:AC),~~~s<=h'.objs.size->(∀b o,s.heap.get? b=some o->h'.get? b=some o)->IntsAre S ns->Q S {s with heap:=h',toks:=tk}):
 wpAny (mZ prog w) A (collect (.ref a)) Q E s:=by
 obtain⟨o,es,R,ho,D,N,C⟩:=id hS;have hlt:a< ~~~s:=ql ho
 have r:c.length=ns.length:=by have:=congrArg List.length hk;symm
 unfold collect;refine wa (wpAny_runValue (wy F.entry_proto_collect ?_));rw[jc F.plain_proto_collect _];show wpAny _ A.in1 (newList []>>=λl=>again (.builtin "list.__iadd__" ⟨[l,.ref a],[]⟩)) _ _ s;refine wa (wg ?_);refine wb ⟨jb F.plain_list_iadd _,wy F.entry_list_iadd ?_⟩;rw[jc F.plain_list_iadd _];generalize Z:s.heap.push {cls:=.type "list",data:=.seq ([]:AC).toArray}=H
 have hHs:H.objs.size= ~~~s+1:=by rw[<-Z,ww]
 have f:∀b o,s.heap.get? b=some o->H.get? b=some o:=λb o e=>by rw[<-Z];exact qe _ e
 have hL:H.get? (~~~s)=some {cls:=.type "list",data:=.seq ([]:AC).toArray}:=by rw[<-Z];exact qp _ rfl
 have B:=f a o ho
 have hT:Shared.TypeIs {s with heap:=H} (.ref a) "dict":=⟨o,B,D.1⟩
 have hSI:(~~~s)≠a:=λz=>by symm
 have y:Builtin.List.listSameRef (.ref (~~~s)) (.ref a)=false:=by simp[Builtin.List.listSameRef,hSI]
 show wpAny _ A.in1 (Builtin.List.listExtendWith (.ref (~~~s)) (.ref a) (.ref (~~~s))) _ _ _;unfold Builtin.List.listExtendWith;refine wa (wpAny_typeOf hT ?_)
 have V:(Value.type "dict"==Value.type "list")=false:=by decide
 have h3:(Value.type "dict"==Value.type "tuple")=false:=by decide
 simp only[y,V,h3,Bool.or_false,Qo,if_false]
 have T:H.DictAt (cH prog w) a c R:=⟨o,es,B,D,N,C⟩
 refine wa (wpAny_pyIter_dict (s:={s with heap:=H}) hd T ?_);generalize hO:({cls:=.type "dict_keyiterator",data:=.fields #[.ref a,.int 0 0,.int c.length 0,.int R 0]}:Obj)=d;have hoI:(H.push d).get? a=some o:=qe _ B
 have G:Shared.TypeIs {s with heap:=H.push d} (.ref a) "dict":=⟨o,hoI,D.1⟩
 refine wa (wc ?_);unfold Builtin.List.listLengthHint;refine wa (wpAny_specialOf G F.slot_dict_len.lookup ?_);refine wa (wpAny_isInstance (b:=true) G Uq ?_);show wpAny _ A.in1 (typeOf (Value.ref a)>>=_) _ _ _;refine wa (wpAny_typeOf G ?_);refine wb ?_;rw[if_pos (by decide)];refine wa (wpAny_rule ?_)
 have Y:a≠H.objs.size:=λz=>by symm
 have O:(~~~s)∉[H.objs.size,a]:=λL=>by
  ext
 have m:(H.push d).get? (~~~s)=some {cls:=.type "list",data:=.seq ([]:AC).toArray}:=qe _ hL;refine wa ?_;show wpAny _ A.in1 (updateSeq (~~~s) (·.push .none)>>=λ_=>updateSeq (~~~s) (·.pop)) _ _ _;refine wa (wpAny_updateSeq m rfl ?_);have g:=wx (Obj.mapSeq (·.push Value.none)) m rfl;refine wpAny_updateSeq g rfl ?_;have u:=wx (Obj.mapSeq (·.pop)) g rfl
 have K:∀b o,b≠(~~~s)->(H.push d).get? b=some o->
  (((H.push d).update (~~~s) (Obj.mapSeq (·.push Value.none))).update (~~~s) (Obj.mapSeq (·.pop))).get? b=some o:=
  λb o I e=>(Heap.get?_update_other _ _ (Ne.symm I)).trans ((Heap.get?_update_other _ _ (Ne.symm I)).trans e)
 have W:=(Walks.dictKeys (prog:=prog) (w:=w) (knd:=cH prog w) (A:=A.in1) hh H.objs.size a Y c R).toS
 have hst:(H.push d).IsKeyIter H.objs.size a 0 c.length R/\(H.push d).DictAt (cH prog w) a c R:=⟨⟨_,qp _ (by rw[<-hO];rfl),by rw[<-hO],by symm⟩,T.at' λo e=>qe _ e⟩
 refine wb ⟨jb F.plain_extend_loop _,codeAny_extend_loopS W (by rw[jg,r];ac_nf) _ O _ c.length 0 _ _ _ rfl (Qh _)
  (W.frame 0 ({s with heap:=H.push d}:Shared) _ s.toks hst (qv _) λb I o e=>K b o (λh=>O (h ▸ I)) e) u (ItemsOf.nil _) λp M c' L J q=>?_⟩
 show wpAny _ A (load (~~~s)>>=_) _ _ p;refine wa (wpAny_load J ?_);have eg:p.gens=s.gens:=L.gens;have ed:p.drawn=s.drawn:=L.drawn;have eo:p.os=s.os:=L.os
 have es':p={s with heap:=p.heap,toks:=p.toks}:=by
  obtain⟨a1,a2,a3,a4,a5⟩:=p;symm
 rw[es'];refine wb (hQ p.heap p.toks M.toList (Nat.le_of_lt (ql J)) (λb ob e=>?_) (El (by rw[qj,q.1,r]) λj v hj=>?_))
 .have I:b< ~~~s:=ql e
  refine L.heap b ob (λhm'=>?_) (K b ob (qm I) (qe _ (f b ob e)));symm
 .obtain⟨k,x,e1,e2⟩:=q.2 j v ⋯
  have U:(c.map (·.1))[j]?=some k:=by symm
  rw[hk,Qm]at U;obtain⟨n,hn,rfl⟩:=qc U;have e2':kg (Sum.inl n) v=true:=e2;rcases gZ e2' with⟨i,t,y,V⟩|⟨x,t,y,V⟩
  .injection y with y
   exact⟨n,t,hn,by rw[V,y]⟩
  .cases y
theorem Ut{ns:AF}(q:A.handled=none)(u:(a==sysModules)=false)(z:s.heap.DictOf (cH prog w) a k)(v:k.map (·.1)=ns.map Sum.inl)(B:ns.length<64)(y:∀(h':Heap) (tk e:Nat) (p:Addr) (out:Array Value) (c:AF),(∀b o,s.heap.get? b=some o->h'.get? b=some o)->(~~~s)<=p->h'.get? p=some (seqObj "list" out e)->IntsAre out.toList c->c.Perm ns->c.Pairwise (·<=·)->
  Q (.ref p) {s with heap:=h',toks:=tk}):wpAny (mZ prog w) A (call (.builtin "sorted") [.ref a]) Q E s:=by
 refine Calls.call_function_entry kind_sorted plain_sorted entry_sorted (args_sorted1 _) (wa (wb (wa (Us q u z v (by lia) λh' tk h i d m=>?_))));have D:=IntsAre.length m
 have g:h.length<64:=by ext
 refine wa (wpAny_newList ?_ (by rw[jg];lia));have f:(h'.push (seqObj "list" h.toArray 0)).get? _=_:=qp _ rfl;refine wa (wc (we slot_list_sort ⟨_,f,rfl⟩ entry_list_sort (list_sort_tree (s:={s with heap:=h'.push (seqObj "list" _ 0),toks:=tk}) f m g λout c r n t=>⟨_,rfl,?_⟩) (args_list_sort _)));obtain⟨e,C⟩:=sortedHeap_at f;refine wb ⟨_,rfl,y _ tk e _ out c (λb o l=>?_) i C r n t⟩;have x:=ql (d b o l);rw[sortedHeap_old (qm x) (by rw[size_push'];grind)];exact qe _ (d b o l)
def p_:AM->Hp->VK->Prop:=λd H Q=>∃a b c,d=[.ref a]/\Rd H a (.dK b)/\b.map (·.1)=c.map .inl/\c.length<64/\∀p,H p=none->Q (.ref p) (upd H p (.lst ((dy c).map .int)))
theorem Uu(y:X.calm=true):dD X (.builtin "sorted") p_:=by
 intro l s K H F G Q I r h;obtain⟨a,D,c,rfl,k,m,w,q⟩:=h;obtain⟨u,rfl,C⟩:=d6 r;cases C;obtain⟨z,A,E,f,n⟩:=jz I.hok k
 have i:E.map (·.1)=c.map .inl:=by
  rw[<-m];clear m n z k
  induction f with
  | nil=>rfl
  | cons r _ O=>ext
 refine Ut (I.ok.hd y) A n i w λJ N e p d B b o L t g x=>?_;have v:=W.ksm_same (g.trans (fo c).symm) x (hE c);subst v;have M:=(fo c).length_eq;exact⟨.ref p,_,.laid I b o (show ObjOk _ X.w _ _ _ (.lst _) from⟨by rw[qf,jg];ac_nf,d.toList,e,oN t,by ext⟩),rfl,q _ (I.hok.fresh o)⟩
def lr:AN->Option AN
 | [.dct false b _]=>(intsD b).bind λa=>if a.length<64 then some ((dy a).map .int)else none
 | _=>none
def Uv:eO K p_ lr:=by
 intro o t l H G Q h s r q;unfold lr at h
 split at h
 .obtain⟨v,rfl,f⟩:=eC r
  obtain⟨e,j,h⟩:=qa h
  split at h
  .rename_i d
   cases h;obtain⟨a,g,b,rfl,n,m,f⟩:=f;obtain⟨i,u,k,w⟩:=hZ j n m;exact⟨a,_,e,rfl,.inl i,jG e b k,d,λp c=>q p _ _ G (.hid s c _) c (s.free c) Yh (.ints _)⟩
  .cases h
 .cases h
def c6{c:Sort _}{a b:c}(h:a=b):a=b:=h
@[simp] theorem OA(a fb fc:AU)(g:D->D->D->Option b):b3 a fb fc g ρ=(a ρ).bind λx=>(fb ρ).bind λy=>(fc ρ).bind λz=>g x y z:=c6 rfl
@[simp] theorem qb(i:Nat):m6 i ρ=some (.nx (ρ.set i (some (.od false [] [])))):=c6 rfl
@[simp] theorem qq(i:Nat)(a f:AU):gF i a f ρ=(f ρ).bind λd=>(fZ i ρ).bind λl=>(a ρ).bind λk=>(m7 l.1 l.2 k d).map λb=>.nx (ρ.set i (some (.od false b.1 b.2))):=c6 rfl
@[simp] theorem jI(ks vs:AN)(i:Int):cJ (.dct false ks vs) (.int i)=(intsD ks).bind λns=>Yn ns vs i:=c6 rfl
@[simp] theorem Em(a:Bool)(ks vs:AN)(i:Int):dN a (.int i) (.dct false ks vs)=(intsD ks).map λns=>decide (i∈ns)!=a:=c6 rfl
@[simp] theorem En(ks vs:AN)(i:Int)(z:D):jH (.dct false ks vs) (.int i) z=(intsD ks).map λns=>(Yn ns vs i).getD z:=c6 rfl
@[simp] theorem m8(ks vs:AN)(i:Int)(d:D):m7 ks vs (.int i) d=(intsD ks).bind λns=>if vs.length<aA then some (if i∈ns then (ks,aQ ns vs i d)else (ks++[.int i],vs++[d]))else none:=c6 rfl
@[simp] theorem OB(ks vs:AN):lr [.dct false ks vs]=(intsD ks).bind λns=>if ns.length<64 then some ((dy ns).map D.int)else none:=c6 rfl
@[simp] theorem Uw(ks vs:AN)(r:Ro):fZ 0 (some (.od false ks vs)::r)=some (ks,vs):=c6 rfl
@[simp] theorem Ux(n:Nat)(b:AQ)(r:Ro):fZ (n+1) (b::r)=fZ n r:=by simp[fZ]
@[simp] theorem Uy(t:Bool)(ks vs:AN)(r:Ro):aa 0 (some (.od t ks vs)::r)=some (.dct t ks vs):=c6 rfl
end
section
variable {a b e:Expr}{fb f:AU}
def gG:D->D->Option D:=i2 (λ_ j=>decide (0<=j)) λi j=>i/2^j.toNat
def Uz{M:Model}{A:Around}{E:AA}{s:Shared}{Q:AA}{v:Value}{k:Bool}(hb:∀id,v≠.builtin id)(h:Q (.bool (v==.bool k)) s):wpAny M A (compareOp .Is v (.bool k)) Q E s:=by
 cases v<;>first|exact wb h|exact absurd rfl (hb _)
noncomputable def cB(k:Bool):D->Bool
 | .bl j=>j==k
 | _=>false
def qA(c:Bool):D->D->Option Bool
 | d,.bl k=>some (cB k d != c)
 | _,_=>none
def UA{x:V}{v:Value}(r:RelV x v)(k:Bool):(v==.bool k)=decide (x=.bl k):=by
 cases x with
 | bl j=>
   cases (r);by_cases h:j=k
   .subst h;simp
   .simp[h]
 | non=>cases (r);rfl
 | int i=>obtain⟨t,rfl⟩:=r;rfl
 | str i=>obtain⟨t,rfl⟩:=r;rfl
 | ref i=>cases (r);rfl
 | _=>first|(obtain⟨t,rfl⟩:=r;rfl)|(rfl)
def Eo{x:V}{v:Value}(r:RelV x v):∀id,v≠.builtin id:=λid z=>by
 subst z
 cases x<;>first|(obtain⟨t,h⟩:=r;cases h)|(cases r)
def Ep:bX X (compareOp .Is) (λx y H Q=>∃k,y=.bl k/\Q (.bl (decide (x=.bl k)!=false)) H):=by
 intro pins s σ H x y v u Q I c d h;obtain⟨k,rfl,q⟩:=h;cases d;refine Uz (Eo c) ⟨_,H,I,?_,q⟩;rw[UA c];simp;rfl
def Er{G H:Hp}{d:D}{v:V}(r:Ct K G H d v)(k:Bool):decide (v=.bl k)=cB k d:=by
 cases d with
 | bl j=>
   subst r;by_cases h:j=k
   .subst h;simp[cB]
   .simp[cB,h]
 | non=>subst r;simp[cB]
 | int i=>subst r;simp[cB]
 | str i=>obtain⟨rfl,_⟩:=r;simp[cB]
 | tup l=>obtain⟨a,b,rfl,_⟩:=r;simp[cB]
 | lst l=>obtain⟨a,b,rfl,_⟩:=r;simp[cB]
 | scr l=>obtain⟨a,rfl,_⟩:=r;simp[cB]
 | dct t l m=>obtain⟨a,b,e,rfl,_⟩:=r;simp[cB]
 | obj t l m=>obtain⟨a,C,c,b,rfl,_⟩:=r;simp[cB]
 | adr a=>subst r;simp[cB]
def Es{d:Bool}:eN K (λx y H Q=>∃k,y=.bl k/\Q (.bl (decide (x=.bl k)!=d)) H) (qA d):=by
 intro x y j l c H G Q h s i g q;unfold qA at h
 split at h
 .rename_i k
  cases h;subst g;exact⟨k,rfl,by rwa [Er i k]⟩
 .cases h
noncomputable def gH:AN->Option D
 | [.int i,.int j]=>some (.int (if j<i then j else i))
 | _=>none
def Et(r:kJ K G H [.int i,.int j] vs):vs=[.int i,.int j]:=by
 obtain⟨x,r,rfl,a,d⟩:=r;obtain⟨y,r,rfl,c,b⟩:=d;cases (b);rw[a,c]
def qB:dH K (λxs H Q=>∃i j,xs=[.int i,.int j]/\Q (.int (if j<i then j else i)) H) gH:=by
 intro a b d H G Q h s r q;unfold gH at h
 split at h
 .rename_i i j
  cases h;exact⟨i,j,Et r,q _ H G (.refl s) (by rw[Rp])⟩
 .cases h
def OC{c:Sort _}{a b:c}(h:a=b):a=b:=h
@[simp] theorem Eu(c:Bool)(d:D)(k:Bool):qA c d (.bl k)=some (cB k d != c):=OC rfl
@[simp] theorem m9(i j:Int):gH [.int i,.int j]=some (.int (if j<i then j else i)):=OC rfl
def qC(i:Int)(j:Nat):gG (.int i) (.int (j:Int))=some (.int (i/2^j)):=by
 simp[gG,i2]
end
section
variable {w:World}{A:Around}{E:AA}{s:Shared}
def Ew:typeLookup (.type "list") "keys"=pure none:=by kernel_rfl
theorem qD(i:s.heap.get? a=some o)(m:o.cls=.type "list")(j:o.dict=none)(p:o.data=.seq its n)(q:A.handled=none)(x:∀J tk,(∀b k,s.heap.get? b=some k->J.get? b=some k)->Q none {s with heap:=J,toks:=tk}):
 wpAny (mZ prog w) A (getAttr? (.ref a) "keys") Q E s:=by
 obtain⟨c,z,v,r⟩:=o;simp only at m j p;subst m j p;obtain⟨y,g,d,tk,os⟩:=s
 have l:∀f,(⟨y,g,d,f,os⟩:Shared).TypeIs (.ref a) "list":=λ_=>⟨_,i,rfl⟩
 have I:=sub_AttributeError;have H:=F.slot_list_getattribute.lookup;have G:=F.slot_list_getattribute.bind (.ref a);have D:=am_list_getattr_none;have u:∀t,Meets (Builtin.«object.__getattribute__» ⟨[.ref a,.str "keys" t],[]⟩) _:=λt=>meets_getattribute_miss_list a its n r "keys" t Ew (by decide);unfold getAttr? getAttrBy? getAttrBy
 repeat (any_goals (first
  | assumption
  | exact l _
  | ((with_reducible show wpAny _ _ (call (.builtin "list.__getattribute__") _ _) _ _ _)
     refine call_meets F.slot_list_getattribute (l _) am_entry_list_getattribute (F.args_list_getattribute_2 _ _) (u _) ⟨i,q,λJ f e h=>?_⟩)
  | wp_step))
 obtain⟨K,C,B⟩:=h.there;show wpAny _ _ (getattributeRaised _ _ _ _ _ _ _) _ _ _;unfold getattributeRaised
 repeat (any_goals (first
  | assumption
  | wp_step))
 exact x _ _ h.keeps
def Ex(h:Heap)(u:Value)(p:Int×Value):Prop:=∃t a o n,u=.ref t/\h.get? t=some o/\o.cls=.type "tuple"/\o.data=.seq #[.int p.1 a,p.2] n
def iP(h:Heap):AC->List (Int×Value)->Prop
 | [],[]=>True
 | u::us,p::ps=>Ex h u p/\iP h us ps
 | _,_=>False
noncomputable def qE(a:List (bp×Value)):List (Int×Value)->List (bp×Value)
 | []=>a
 | p::ps=>qE (stored a (Sum.inl p.1) p.2) ps
theorem UB(a:List (bp×Value))(k:bp)(v:Value):(stored a k v).length<=a.length+1:=by
 unfold stored
 split<;>ext
def v_:entryFor table "dict.update.loop"=some Builtin.«dict.update.loop»:=entryFor_of_tree (by kernel_rfl)
def m_:plainId "dict.update.loop"=true:=by decide +kernel
def OldH(h0 h:Heap):Prop:=∀b o,h0.get? b=some o->h.get? b=some o
theorem OldH.but(c:h0.get? d=none)(o:OldH h0 h)(e:Heap.SameBut d h f):OldH h0 f:=λb a q=>by
 rw[e.2 b λz=>by grind];exact o b a q
def IsListIter.but(x:h.IsListIter a L i)(e:Heap.SameBut d h f)(c:a≠d):f.IsListIter a L i:=by
 obtain⟨o,b,r⟩:=x;exact⟨o,by rwa [e.2 a c],r⟩
theorem UC{a:AC}(T:A.handled=none)(O:h0.get? d=none)(N:h0.get? H=none)(m:d≠H)(S:h0.IsList L a.toArray):
 ∀(ps:List (Int×Value)) (i:Nat) (c:Int) (g:List (bp×Value)) (s:Shared),iP h0 (a.drop i) ps->g.length+ps.length<=sizeLine->s.heap.IsListIter H L i->OldH h0 s.heap->s.heap.DictOf (cH prog w) d g->
 (∀E tk,OldH h0 E->E.DictOf (cH prog w) d (qE g ps)->R (.ok (.ret .none)) {s with heap:=E,toks:=tk})->
 codeAny (mZ prog w) A (.builtin "dict.update.loop" ⟨[.ref d,.ref H,.int c 0,.none],[]⟩) R s:=by
 intro ps
 induction ps with
 | nil=>
   intro i c g s h U k y I P;have l:s.heap.IsList L a.toArray:=let ⟨o,e,r⟩:=S;⟨o,y _ _ e,r⟩
   have Q:a.toArray[i]?=none:=by
    cases f:a.drop i with
    | nil=>simpa using f
    | cons u us=>rw[f]at h;exact h.elim
   refine wy v_ ?_;refine wa (wpAny_pyNext_list_end (A:=A.in1) T k l Q λE hs=>?_);refine wa (wb (wb (P E s.toks (λb F q=>hs b F (λz=>by grind) (y b F q)) (I.extBut hs m))))
 | cons p ps Z=>
   intro i c g s h U k y I P;have l:s.heap.IsList L a.toArray:=let ⟨o,e,r⟩:=S;⟨o,y _ _ e,r⟩
   cases f:a.drop i with
   | nil=>rw[f]at h;exact h.elim
   | cons u us=>
     rw[f]at h;obtain⟨⟨t,tk,F,n,rfl,W,X,x⟩,h⟩:=h
     have Q:a.toArray[i]?=some (.ref t):=by
      have:=congrArg List.head? f;simpa [List.head?_drop]using this
     have hus:=by
      have:=congrArg List.tail f;simpa using this.symm
     refine wy v_ ?_;refine wa (wpAny_pyNext_list_item k l Q λV G B=>?_);have v:=OldH.but N y B;have J:=I.sameBut B m;have D:=v _ _ W
     have hT:(Shared.TypeIs {s with heap:=V} (.ref t) "tuple"):=⟨F,D,X⟩
     refine wa (wc (wa (wpAny_tryCatch ?_)));refine wa (wpAny_typeOf hT ?_);refine wa (wpAny_seqItems D x (wb ?_));refine wc (wpAny_dictSet_pairs (jy (k:=.inl p.1) ⟨tk,rfl⟩) J (λh2 M C=>?_) (by grind));refine wb ⟨jb m_ _,?_⟩;refine Z (i+1) (c+1) _ _ (by grind) ?_ (IsListIter.but G C (Ne.symm m)) (OldH.but O v C) M λE K Y d'=>P E K Y d';have:=UB g (Sum.inl p.1) p.2;grind
theorem UD(z:A.handled=none)(H:PlainL s.heap L its.toArray)(P:iP s.heap its S)(N:S.length<=sizeLine)(O:∀R tk,OldH s.heap R->R.DictOf (cH prog w) (~~~s) (qE [] S)->Q (.ref (~~~s)) {s with heap:=R,toks:=tk}):
 wpAny (mZ prog w) A (call (.type "dict") [.ref L]) Q E s:=by
 generalize v:({cls:=.type "dict",data:=.dict #[]}:Obj)=k;refine callType_codes (Q₁:=λj d=>j=.ref _/\d={s with heap:=s.heap.push k}) F.kt_called_dict (F.kt_typeCall_dict_1 _) F.entry_dict_init (kt_code_dict_new _ ⟨rfl,by rw[v]⟩) ?_;rintro j d ⟨rfl,rfl⟩
 have a:(s.heap.push k).DictOf (cH prog w) (~~~s) []:=by rw[<-v];exact .new s.heap
 refine⟨a.typeIs,F.args_dict_init_2 _ _,?_⟩;refine wa ?_;refine wa (wpAny_notOrdered_dict a.typeIs ?_);refine wb ?_;obtain⟨o,n,e,l,y,r⟩:=H;have t:(s.heap.push k).get? L=some o:=qe _ e
 have D:Shared.TypeIs {s with heap:=s.heap.push k} (.ref L) "list":=⟨o,t,l⟩
 refine wa (wpAny_typeOf D ?_);refine wa (qD t l y r (by simp[z]) λR tk c=>?_);refine wa (wpAny_rule (wa ?_))
 have m:R.IsList L its.toArray:=⟨o,c _ _ t,l,n,r⟩
 refine wpAny_pyIter_list (s:={s with heap:=R,toks:=tk}) m ?_;have i:OldH s.heap R:=λb u q=>c _ _ (qe _ q);obtain⟨B,I,J,p,f⟩:=id a;have g:=c _ _ p;have h:=ql g;generalize x:({cls:=.type "list_iterator",data:=.fields _}:Obj)=C;refine wb ⟨jb m_ _,?_⟩;refine UC (by simp[z]) (Heap.get?_none_of_le (qv _)) (Heap.get?_none_of_le (Nat.le_of_lt h)) (qm h) ⟨o,e,l,n,r⟩ S 0 0 [] _ (by grind) (by ext) ?_ (λb u q=>qe _ (i b u q)) ⟨B,I,J,qe _ g,f⟩ λy G K M=>?_
 .exact⟨C,qp _ (by rw[<-x];rfl),by rw[<-x],by grind⟩
 grind
end
def wA(H:Hp):AM->List (Int×V)->Prop
 | [],[]=>True
 | x::xs,q::a=>(∃b,x=.ref b/\H b=some (.tup [.int q.1,q.2]))/\wA H xs a
 | _,_=>False
noncomputable def fF(a:List (bp×V)):List (Int×V)->List (bp×V)
 | []=>a
 | q::b=>fF (bM a (Sum.inl q.1) q.2) b
def QP:List (Int×V)->List (Int×Value)->Prop
 | [],[]=>True
 | q::a,p::ps=>(q.1=p.1/\RelV q.2 p.2)/\QP a ps
 | _,_=>False
theorem QP.length:∀{a:List (Int×V)}{b:List (Int×Value)},QP a b->b.length=a.length
 | [],[],_=>rfl
 | q::a,p::b,h=>by rw[qt,qt,QP.length h.2]
 | [],_::_,h=>h.elim
 | _::_,[],h=>h.elim
theorem OD:∀{b:List (Int×V)}{e:List (Int×Value)}{a:List (bp×V)}{vs:List (bp×Value)},QP b e->KV a vs->KV (fF a b) (qE vs e)
 | [],[],_,_,_,r=>r
 | q::b,p::e,a,vs,h,r=>by
   obtain⟨⟨d,c⟩,h⟩:=h;rw[fF,qE,<-d];exact OD h (r.put _ c)
 | [],_::_,_,_,h,_=>h.elim
 | _::_,[],_,_,h,_=>h.elim
theorem Ey:∀(b:List (Int×V)) (a:List (bp×V)),(fF a b).length<=a.length+b.length
 | [],a=>by rw[fF];simp
 | q::b,a=>by
   rw[fF,qt];have d:=Ey b (bM a (.inl q.1) q.2);have c:=vJ a (.inl q.1) q.2;lia
theorem OE{σ:L2.St}(I:Inv X pins σ H s):∀{ys:AM}{its:AC}{a:List (Int×V)},wA H ys a->Vals ys its->∃w,iP s.heap its w/\QP a w
 | [],its,[],_,r=>by
   cases r;exact⟨[],trivial,trivial⟩
 | y::ys,its,q::a,h,r=>by
   obtain⟨⟨b,rfl,x⟩,h⟩:=h
   cases r with
   | cons p i=>
     cases p;obtain⟨w,d,m⟩:=OE I h i;obtain⟨c,g,⟨o,e,k,n,f⟩,_⟩:=I.tuple (.of x)
     cases g with
     | cons l u=>
       cases u with
       | cons v j=>
         cases j;obtain⟨t,rfl⟩:=l;exact⟨(q.1,_)::w,⟨⟨b,t,o,n,rfl,e,k,f⟩,d⟩,⟨⟨rfl,v⟩,m⟩⟩
 | [],_,_::_,h,_=>h.elim
 | _::_,_,[],h,_=>h.elim
def Ez(K:W7):AM->Hp->VK->Prop:=λe H Q=>∃a d c,e=[.ref a]/\SqL K H a d/\wA H d c/\c.length<aA/\∀p,H p=none->Q (.ref p) (upd H p (.dK (fF [] c)))
theorem OF(p:X.calm=true):dD X (.type "dict") (Ez X.K):=by
 intro x s F H C D Q I r h;obtain⟨a,E,n,rfl,i,j,w,q⟩:=h;obtain⟨u,rfl,k⟩:=d6 r;cases k;obtain⟨A,m,z,v⟩:=I.list i;obtain⟨y,t,g⟩:=OE I j m;have f:aA=1000000:=rfl
 have d:y.length<=sizeLine:=by rw[g.length,jg];lia
 refine UD (I.ok.hd p) z t d λG B c l=>⟨.ref _,_,I.laid (λb o e=>c b o e) (qv _) (vK ?_ (beq_eq_false_iff_ne.mpr (.symm (qm I.big))) (OD g .nil) l),rfl,q _ (I.hok.fresh (qv _))⟩
 have:=Ey n [];rw[jg]
 ext<;>lia
noncomputable def eu:AN->Option (List (Int×D))
 | []=>some []
 | .tup [.int i,v]::l=>(eu l).map ((i,v)::·)
 | _=>none
def bL:D->Option (List (Int×D))
 | .lst l=>eu l
 | _=>none
def bx{a:Type}(ns:AF)(vs:List a)(i:Int)(y:a):List Int×List a:=if i∈ns then (ns,aQ ns vs i y)else (ns++[i],vs++[y])
noncomputable def aC{a:Type}(ns:AF)(vs:List a):List (Int×a)->List Int×List a
 | []=>(ns,vs)
 | p::ps=>aC (bx ns vs p.1 p.2).1 (bx ns vs p.1 p.2).2 ps
def OG(h:ns.Nodup):(bx ns vs i y).1.Nodup:=by
 unfold bx
 split
 .exact h
 .rename_i hm
  rw[List.nodup_append];refine⟨h,by simp,λx hx z hz e=>?_⟩;simp at hz;subst hz e;exact hm hx
def EA(h:ns.length=vs.length):(bx ns vs i y).1.length=(bx ns vs i y).2.length:=by
 unfold bx
 split
 .rwa [pI]
 .simp[h]
def DQ(K:W7)(G:Hp):List (Int×D)->List (Int×V)->Prop
 | [],[]=>True
 | d::ds,q::a=>(d.1=q.1/\Rp K G d.2 q.2)/\DQ K G ds a
 | _,_=>False
theorem DQ.length:∀{b:List (Int×D)}{a:List (Int×V)},DQ K G b a->a.length=b.length
 | [],[],_=>rfl
 | q::a,p::c,h=>by rw[qt,qt,DQ.length h.2]
 | [],_::_,h=>h.elim
 | _::_,[],h=>h.elim
theorem EB(s:Same G H):∀{l:AN}{y:List (Int×D)}{xs:AM},eu l=some y->RpL K G l xs->∃c,wA H xs c/\DQ K G y c
 | [],y,xs,e,r=>by
   cases e;subst r;exact⟨[],trivial,trivial⟩
 | d::l,y,xs,e,r=>by
   unfold eu at e
   split at e
   case h_1 he=>cases he
   case h_2 i v l' he=>
    injection he with f g;subst f g;obtain⟨h,u,rfl⟩:=qc e;obtain⟨x,v,rfl,p,m⟩:=r;obtain⟨c,q,j⟩:=EB s u m;obtain⟨b,A,rfl,z,a⟩:=p;obtain⟨w,n,rfl,o,a⟩:=a;obtain⟨t,n,rfl,k,a⟩:=a;subst a o;exact⟨(i,t)::c,⟨⟨b,rfl,s _ _ z⟩,q⟩,⟨⟨rfl,k⟩,j⟩⟩
   grind
theorem wB:∀{j:List (Int×D)}{g:List (Int×V)}{ns:AF}{i:AN}{vxs:AM},DQ K G j g->ns.Nodup->ns.length=vxs.length->RpL K G i vxs->
 ∃a,fF (zK ns vxs) g=zK (aC ns i j).1 a/\(aC ns i j).1.Nodup/\(aC ns i j).1.length=a.length/\RpL K G (aC ns i j).2 a
 | [],[],ns,i,vxs,_,b,c,f=>⟨vxs,rfl,b,c,f⟩
 | d::j,q::g,ns,i,vxs,h,b,c,f=>by
   obtain⟨⟨e,r⟩,h⟩:=h;rw[fF,pX c b]
   have k:(dM ns vxs q.1 q.2).1=(bx ns i d.1 d.2).1:=by
    unfold dM bx
    split<;>ext
   rw[k];refine wB h (OG b) ?_ ?_
   .rw[<-k]
    exact EA c
   .unfold dM bx
    rw[e]
    split
    .exact vY q.1 r f
    .exact .snoc r f
 | [],_::_,_,_,_,h,_,_,_=>h.elim
 | _::_,[],_,_,_,h,_,_,_=>h.elim
section
variable {e:Expr}{f:AU}{w:World}{A:Around}{E:AA}{s:Shared}
def fG(i:Nat)(f:AU):AR:=λb=>((f b).bind bL).bind λa=>if a.length<aA then some (.nx (b.set i (some (.od false ((aC [] [] a).1.map .int) (aC [] [] a).2))))else none
@[simp] theorem qF(i:Nat):fG i f ρ=((f ρ).bind bL).bind λps=>if ps.length<aA then some (.nx (ρ.set i (some (.od false ((aC [] [] ps).1.map D.int) (aC [] [] ps).2))))else none:=c6 rfl
@[simp] theorem jJ(l:AN):bL (.lst l)=eu l:=c6 rfl
def gI:Int:=4238894112
def EC(h:Q gI {s with toks:=s.toks+1}):wpAny (mZ prog w) A (pyHash .none) Q E s:=by
 have a:s.TypeIs .none _:=rfl
 exact wa (wb (wa (wpAny_specialOf a F.slot_NoneType_hash.lookup (wa (wpAny_specialOf a F.slot_NoneType_hash.lookup (wa (wpAny_callSpecialIfBoundUnlessNone?_slot a F.slot_NoneType_hash
  (we F.slot_NoneType_hash a F.entry_NoneType_hash
   (wpAny_ret_mkInt (wb h)) (F.args_NoneType_hash_1 _)))))))))
theorem ED(f:s.heap.get? d=some o)(c:o.data=.dict b j)(g:∀e∈b,e.hash≠gI)(h:Q none {s with toks:=s.toks+1}):
 wpAny (mZ prog w) A (dictGet d .none) Q E s:=by
 have a:placesWithHash b.size (λi=>b[i]?.map (·.hash)) gI=[]:=by
  unfold placesWithHash
  ext
 refine wc (wa (EC (wa (wc (wa (wpAny_dictEntries f c ?_))))));rw[a];exact wb (wb h)
noncomputable def nc(ns:AF):Bool:=ns.all λn=>decide (-1000000000<n/\n<1000000000)
theorem EE:∀{b:List DictEntry},Pairs (cH prog w) b a->∀e∈b,∃c∈a,(cH prog w).is c.1 e.key=true:=by
 intro b h
 induction h with
 | nil=>simp
 | cons f _ _ d=>
   grind
theorem EF{ns:AF}(hm:s.heap.DictOf (cH prog w) d kvs)(hk:kvs.map (·.1)=ns.map Sum.inl)(hs:nc ns=true)(h:Q none {s with toks:=s.toks+1}):
 wpAny (mZ prog w) A (dictGet d .none) Q E s:=by
 obtain⟨o,es,ep,ho,_,hd,hk1,hp,_⟩:=hm;refine ED ho hd (λe he=>?_) h;obtain⟨k,k1,k2⟩:=hk1 e he;obtain⟨kv,k3,k4⟩:=EE hp e (by simpa using he);have ek:k=kv.1:=(cH prog w).inj _ _ _ k1 k4;have hmem:kv.1∈kvs.map (·.1):=Qs k3;rw[hk]at hmem;obtain⟨n,hn,en⟩:=qy hmem;have hsm:=List.all_eq_true.mp hs n hn;simp only[wm]at hsm;rw[k2,ek,<-en];show hashInt n≠gI;intro z
 have:hashInt n=n\/hashInt n=-2:=by
  have e0:((2^61-1:Nat):Int)=2305843009213693951:=by decide
  have e:(n.natAbs:Int)%((2^61-1:Nat):Int)=(n.natAbs:Int):=Int.emod_eq_of_lt ∅ (by rw[e0];ac_nf)
  have e2:(if n<0 then -(n.natAbs:Int)else (n.natAbs:Int))=n:=by split<;>ac_nf
  have e3:rawHash n=if (n==-1)=true then -2 else n:=by
   unfold rawHash;simp only[e,e2]
  unfold hashInt;rw[e3];by_cases h1:n=-1
  .subst h1;right;decide
  .left
   have h2:(n==-1)=false:=by simpa using h1
   simp[h2]
 unfold gI at z;ac_nf
def OH{ns:AF}(f:(d==sysModules)=false)(c:s.heap.DictOf (cH prog w) d a)(e:a.map (·.1)=ns.map Sum.inl)(hs:nc ns=true)(h:Q false {s with toks:=s.toks+1}):wpAny (mZ prog w) A (contains (.ref d) .none) Q E s:=by
 have b:=c.typeIs;refine wc (wa (wpAny_specialOf b slot_dict_contains.lookup (wa (wpAny_callSpecialUnlessNone?_slot b slot_dict_contains (we slot_dict_contains b entry_dict_contains ?_ (args_dict_contains _ _))))));show wpAny _ _ (dictGet d _>>=_) _ _ s;exact wa (EF c e hs (wa (wpAny_pendingKey_other f (wb ⟨_,rfl,wpAny_truthy_bool h⟩))))
end
def cK(a:Bool):D->D->Option Bool
 | .int i,.dct false b c=>dN a (.int i) (.dct false b c)
 | .non,.dct false b _=>(intsD b).bind λd=>if nc d=true then some (false != a)else none
 | _,_=>none
def lu(b:Bool):R2:=λx y H Q=>iO b x y H Q\/(x=.non/\∃a c d,y=.ref a/\H a=some (.dK c)/\c.map (·.1)=d.map .inl/\nc d=true/\Q (.bl (false != b)) H)
def OI:eN K (lu c) (cK c):=by
 intro x y n o b H G Q h s f e q;unfold cK at h
 split at h
 .exact .inl (Eh x y _ _ b H G Q h s f e q)
 .obtain⟨t,j,h⟩:=qa h
  split at h
  case isFalse=>cases h
  rename_i d;injection h with h;subst h f;obtain⟨a,i,r,rfl,g,k,p⟩:=e;obtain⟨u,v,l,m⟩:=hZ j g k;exact .inr ⟨rfl,a,_,t,rfl,u,jG t r l,d,q⟩
 .cases h
section
theorem qG{vs:List (bp×Value)}(b:KV a vs):vs.map (·.1)=a.map (·.1):=by
 induction b with
 | nil=>rfl
 | cons r _ c=>grind
def EG(i:X.A.units+64<cLine):bX X (compareOp .In) (lu false):=by
 intro c s m H x y v u Q I e d h;rcases h with h|⟨rfl,a,n,p,rfl,k,l,g,q⟩
 .exact pZ i _ s m H x y v u Q I e d h
 .cases e
  cases d;obtain⟨z,j,o,b,f⟩:=ix I.hok k;exact wa (OH j f ((qG b).trans l) g (wb (⟨.bl _,H,I.tok _,rfl,q⟩)))
def EH(i:X.A.units+64<cLine):bX X (compareOp .NotIn) (lu true):=by
 intro l s n H x y v u Q I c d h;rcases h with h|⟨rfl,a,f,o,rfl,e,g,m,q⟩
 .exact Oy i _ s n H x y v u Q I c d h
 .cases c
  cases d;obtain⟨z,j,p,b,k⟩:=ix I.hok e;exact wa (OH j k ((qG b).trans g) m (wb (⟨.bl _,H,I.tok _,rfl,q⟩)))
variable {a b e:Expr}{fb f:AU}
@[simp] theorem qH(c:Bool)(ks vs:AN)(i:Int):cK c (.int i) (.dct false ks vs)=(intsD ks).map λns=>decide (i∈ns)!=c:=c6 rfl
@[simp] theorem EI(a:Bool)(ks vs:AN):cK a .non (.dct false ks vs)=(intsD ks).bind λns=>if nc ns=true then some (false != a)else none:=c6 rfl
end
section
variable {w:World}{A:Around}{E:AA}{s:Shared}
theorem UE{lo f:Option Int}(c:IsTup s.heap t a)(hs:s.heap.IsSliceOf k i l .none)(j:IsPart i lo)(n:IsPart l f)(h0:HT.sIx a.size 0 lo=0)(o:HT.sIx a.size a.size f=a.size)(h:Q (.ref t) s):wpAny (mZ prog w) A (getItem (.ref t) (.ref k)) Q E s:=by
 obtain⟨os,e,d,m⟩:=id hs;unfold getItem
 try with_reducible refine wc ?_
 refine wa (wpAny_sequenceKey c.typeIs (by decide) (wa (wpAny_callSpecial?_slot c.typeIs PyProof.Rows.slot_tuple_getitem (we PyProof.Rows.slot_tuple_getitem c.typeIs entry_tuple_getitem ?_ (args_tuple_getitem _ _)))));show wpAny _ _ (Builtin.Tuple.tupleItemsOf _>>=_) _ _ s;refine wa (tupleItemsOf_ c (wa (wpAny_typeOf (⟨os,e,d⟩) (wa (HT.sliceApplied_gen hs j n ?_)))));show wpAny _ _ (if _ then _ else _) _ _ s;rw[if_pos (by ext)];exact wa (wa (wpAny_typeOf c.typeIs (wb (wa (wpAny_rule (wb ⟨_,rfl,wb h⟩))))))
end
section
def EJ(K:W7):V->Option Int->Option Int->Hp->VK->Prop:=λx lo e H Q=>∃a b,x=.ref a/\SqT K H a b/\HT.sIx b.length 0 lo=0/\HT.sIx b.length b.length e=b.length/\Q (.ref a) H
theorem EL:SlR X (EJ X.K):=by
 intro c s u H x v o z lo w y Q I k g i f h;obtain⟨a,p,rfl,l,n,t,q⟩:=h;cases k;obtain⟨j,r,d,m⟩:=I.tuple l;have e:=r.length.symm;exact⟨"tuple",_,PyProof.Rows.slot_tuple_getitem.lookup,d.typeIs,UE d g i f (by grind) (by grind) (⟨.ref a,H,I,rfl,q⟩)⟩
def iQ(i j:Option Int):D->Option D
 | .lst l=>some (.lst (bN l i j))
 | .tup l=>some (.tup (bN l i j))
 | _=>none
def jK(c:AU)(lo b:Option AU):AU:=λa=>(c a).bind λd=>(da lo a).bind λi=>(da b a).bind λj=>iQ i j d
variable {a e:Expr}{f:AU}
@[simp] theorem EM(lo a:Option AU):jK fa lo a ρ=(fa ρ).bind λd=>(da lo ρ).bind λi=>(da a ρ).bind λj=>iQ i j d:=c6 rfl
@[simp] theorem qI(i j:Option Int)(l:AN):iQ i j (.tup l)=some (.tup (bN l i j)):=c6 rfl
end
section
variable {w:World}{A:Around}{E:AA}{s:Shared}
def EN:isSubtype (.type "set") (.type "set")=pure true:=by kernel_rfl
theorem EO:∀{a:AC},a.length=b.length->(∀(j:Nat) v,a[j]?=some v->kI b j v)->IntsAre a b:=by
 induction b with
 | nil=>
   intro a h _;rw[List.length_eq_zero_iff.mp h];exact .nil
 | cons k r e=>
   intro a h c
   match a,h with
   | v::a,h=>
     obtain⟨d,t,g,i⟩:=c 0 v rfl;simp at g;subst g i;refine .cons _ t (e (by simpa using h) λj v f=>?_);obtain⟨d,t,g,i⟩:=c (j+1) v (by grind);exact⟨d,t,by grind,i⟩
theorem UF(T:A.handled=none)(G:SetI prog w s.heap a ns)(hQ:∀(h':Heap) (d':Drawn) (tk:Nat) (q:AC) (d:AF),~~~s<=h'.objs.size->(∀b o,s.heap.get? b=some o->h'.get? b=some o)->IntsAre q d->d.Perm ns->Q q {s with heap:=h',drawn:=d',toks:=tk}):
 wpAny (mZ prog w) A (collect (.ref a)) Q E s:=by
 obtain⟨o,es,ep,t,O,u,hd,_⟩:=id G;have hlt:a< ~~~s:=ql O;have B:=G.len;unfold collect;refine wa (wpAny_runValue (wy F.entry_proto_collect ?_));rw[jc F.plain_proto_collect _];refine wa (wg ?_);refine wb ⟨jb F.plain_list_iadd _,wy F.entry_list_iadd ?_⟩;rw[jc F.plain_list_iadd _];generalize L:s.heap.push {cls:=.type "list",data:=.seq ([]:AC).toArray}=H
 have Z:H.objs.size= ~~~s+1:=by rw[<-L,ww]
 have c:∀b o,s.heap.get? b=some o->H.get? b=some o:=λb o e=>by rw[<-L];exact qe _ e
 have hL:H.get? (~~~s)=some {cls:=.type "list",data:=.seq ([]:AC).toArray}:=by rw[<-L];exact qp _ rfl
 have x:=c a o O
 have V:Shared.TypeIs {s with heap:=H} (.ref a) "set":=⟨o,x,u.1⟩
 have M:(~~~s)≠a:=λz=>by grind
 have h1:Builtin.List.listSameRef (.ref (~~~s)) (.ref a)=false:=by simp[Builtin.List.listSameRef,M]
 show wpAny _ A.in1 (Builtin.List.listExtendWith (.ref (~~~s)) (.ref a) (.ref (~~~s))) _ _ _;unfold Builtin.List.listExtendWith;refine wa (wpAny_typeOf V ?_)
 have h2:(Value.type "set"==Value.type "list")=false:=by decide
 have U:(Value.type "set"==Value.type "tuple")=false:=by decide
 simp only[h1,h2,U,Bool.or_false,Qo,if_false];refine wa (CA (s:={s with heap:=H}) (G.at λo e=>c a o e) λh' d' I Y d St i hI R hfp ua S N hty=>?_);have K:=i a o x
 have m:Shared.TypeIs {s with heap:=h',drawn:=d' } (.ref a) "set":=⟨o,K,u.1⟩
 refine wa (wc ?_);unfold Builtin.List.listLengthHint;refine wa (wpAny_specialOf m F.slot_set_len.lookup ?_);refine wa (wpAny_isInstance (b:=true) m EN ?_);show wpAny _ A.in1 (typeOf (Value.ref a)>>=_) _ _ _;refine wa (wpAny_typeOf m ?_);refine wb ?_;rw[if_pos (by decide)];refine wa (wpAny_rule ?_)
 have C:(~~~s)∉Y:=λp=>by
  grind
 have f:=i _ _ hL;refine wa ?_;refine wa (wpAny_updateSeq f rfl ?_);have g:=wx (Obj.mapSeq (·.push Value.none)) f rfl;refine wpAny_updateSeq g rfl ?_;have l:=wx (Obj.mapSeq (·.pop)) g rfl
 have y:∀b o,b≠(~~~s)->h'.get? b=some o->
  ((h'.update (~~~s) (Obj.mapSeq (·.push Value.none))).update (~~~s) (Obj.mapSeq (·.pop))).get? b=some o:=
  λb o hb e=>(Heap.get?_update_other _ _ (Ne.symm hb)).trans ((Heap.get?_update_other _ _ (Ne.symm hb)).trans e)
 have W:=(S A.in1 T).toS
 refine wb ⟨jb F.plain_extend_loop _,codeAny_extend_loopS W (fits_of_scanBound B) _ C _ ns.length 0 _ _ _ rfl (Qh _)
  (W.frame 0 ({s with heap:=h',drawn:=d' }:Shared) _ s.toks N (qv _) λb hb o e=>y b o (λh=>C (h ▸ hb)) e) l (ItemsOf.nil _) λs' n c' p r k=>?_⟩
 show wpAny _ A (load (~~~s)>>=_) _ _ s';refine wa (wpAny_load r ?_);have eg:s'.gens=s.gens:=p.gens;have ed:s'.drawn=d':=p.drawn;have eo:s'.os=s.os:=p.os
 have J:s'={s with heap:=s'.heap,drawn:=d',toks:=s'.toks}:=by
  obtain⟨a1,a2,a3,a4,a5⟩:=s';grind
 rw[J];refine wb (hQ s'.heap d' s'.toks n.toList d (Nat.le_of_lt (ql r)) (λb D e=>?_) (EO (by rw[qj,k.1,ua.length_eq]) λj v hj=>k.2 j v (by grind)) ua);have hb:b< ~~~s:=ql e;refine p.heap b D (λX=>?_) (y b D (qm hb) (i b D (c b D e)));grind
theorem UG(r:A.handled=none)(y:SetI prog w s.heap a ns)(i:ns.length<64)(v:∀(B:Heap) (D:Drawn) (tk e:Nat) (p:Addr) (k:Array Value) (c:AF),(∀b o,s.heap.get? b=some o->B.get? b=some o)->(~~~s)<=p->B.get? p=some (seqObj "list" k e)->IntsAre k.toList c->c.Perm ns->c.Pairwise (·<=·)->
  Q (.ref p) {s with heap:=B,drawn:=D,toks:=tk}):wpAny (mZ prog w) A (call (.builtin "sorted") [.ref a]) Q E s:=by
 refine Calls.call_function_entry kind_sorted plain_sorted entry_sorted (args_sorted1 _) (wa (wb (wa (UF r y λB D tk f q j d m n=>?_))))
 have h:f.length<64:=by rwa [IntsAre.length m,n.length_eq]
 refine wa (wpAny_newList ?_ (by rw[jg];ac_nf));have g:(B.push (seqObj "list" f.toArray 0)).get? _=_:=qp _ rfl;refine wa (wc (we slot_list_sort ⟨_,g,rfl⟩ entry_list_sort (list_sort_tree g m h λk c z u t=>⟨_,rfl,?_⟩) (args_list_sort _)));obtain⟨e,x⟩:=sortedHeap_at g;refine wb ⟨_,rfl,v _ D tk e _ k c (λb o l=>?_) j x z (u.trans n) t⟩;have F:=ql (d b o l);rw[sortedHeap_old (qm F) (by rw[size_push'];ext<;>ac_nf)];exact qe _ (d b o l)
end
noncomputable def dO(P:P7)(w:World)(p:Addr)(a:AF):HO:=.ext λh=>SetI P w h p a
theorem ER(x:SetI P w h p a):ObjOk P w H h p (dO P w p a):=by
 refine⟨x,?_,λd c e k=>e.at k⟩;obtain⟨o,_,_,_,b,_⟩:=x;grind
section
variable {σ:L2.St}{H:Hp}{s:Shared}{e:Expr}{f:AU}{p:Pos}
def _root_.L2.Inv.dr(I:Inv X pins σ H s)(d':Drawn):Inv X pins σ H {s with drawn:=d' }:=⟨I.ok,I.os,I.bare,I.base,I.loc,I.cell,I.free,I.freeC,I.pin,I.hok,I.len⟩
def OJ(r:Vals (ns.map V.int) us):IntsAre us ns:=vL r
def ES(K:W7)(P:P7)(w:World):AM->Hp->VK->Prop:=λe H Q=>∃a b,e=[.ref a]/\(SqL K H a (b.map .int)\/SqT K H a (b.map .int))/\b.length<4000/\∀p c,H p=none->c.Perm (aY [] b)->Q (.ref p) (upd H p (dO P w p c))
theorem ET(v:X.calm=true):dD X (.type "set") (ES X.K X.prog X.w):=by
 intro y s C H B E Q I r h;obtain⟨a,D,rfl,c,x,q⟩:=h;obtain⟨u,rfl,w⟩:=d6 r;cases w;have m:=I.ok.hd v;have n:scanBound=4096:=rfl;rcases c with c|c
 .obtain⟨f,d,p,t⟩:=I.list c
  have g:=d.length
  exact TR m p.isList (by simpa using OJ d) (by ext<;>ac_nf) λz A j i l k=>⟨.ref _,_,I.laid (λb o e=>k b o (ql e) e) (qv _) (ER i),rfl,q _ j (I.hok.fresh (qv _)) l⟩
 .obtain⟨f,d,p,t⟩:=I.tuple c
  have g:=d.length
  exact TU m p (by simpa using OJ d) (by ext<;>ac_nf) λz A j i l k=>⟨.ref _,_,I.laid (λb o e=>k b o (ql e) e) (qv _) (ER i),rfl,q _ j (I.hok.fresh (qv _)) l⟩
def EU(P:P7)(w:World):AM->Hp->VK->Prop:=λc H Q=>∃a b,c=[.ref a]/\H a=some (dO P w a b)/\b.length<64/\∀p,H p=none->Q (.ref p) (upd H p (.lst ((dy b).map .int)))
theorem OK(j:X.calm=true):dD X (.builtin "sorted") (EU X.prog X.w):=by
 intro x s C H E B Q I r h;obtain⟨a,c,rfl,l,n,q⟩:=h;obtain⟨u,rfl,k⟩:=d6 r;cases k;refine UG (I.ok.hd j) ((I.hok a _ l).1) n λD z A e p g m b i v t d y=>?_;have o:=W.ksm_same (d.trans (fo c).symm) y (hE c);subst o;have w:=(fo c).length_eq;refine⟨.ref p,_,.laid (I.dr z) b i (show ObjOk _ X.w _ _ _ (.lst _) from⟨by rw[qf,jg];ac_nf,g.toList,e,oN t,by ext⟩),rfl,q _ (I.hok.fresh i)⟩
def ng(l:AN):Option AN:=match intsD l with
 | some a=>if a.length<4000/\(aY [] a).length<64 then some ((dy (aY [] a)).map .int)else none
 | none=>none
def OL(h:a.Perm b):dy a=dy b:=W.ksm_same (((fo a).trans h).trans (fo b).symm) (hE a) (hE b)
def wC(f:AU):AV:=λa=>(b1 f Yc a).bind ng
def EV{c:Sort _}{a b:c}(h:a=b):a=b:=h
@[simp] theorem jL{ρ:Ro}:wC f ρ=((f ρ).bind Yc).bind ng:=EV rfl
end
noncomputable def dP(m:Nat):Nat->Nat->Nat
 | 0,i=>i
 | k+1,i=>dP m k ((i*5+1)%m)
theorem wD(m:Nat):∀(a b i:Nat),dP m (a+b) i=dP m b (dP m a i)
 | 0,b,i=>by rw[Nat.zero_add];rfl
 | a+1,b,i=>by rw[Nat.succ_add];exact wD m a b _
noncomputable def lx(m:Nat):Nat->Nat->AE
 | 0,_=>[]
 | k+1,i=>i::lx m k ((i*5+1)%m)
theorem OM:∀{k i:Nat},j∈lx m k i->∃a,a<k/\dP m a i=j
 | 0,_,h=>nomatch h
 | k+1,i,h=>by
   rcases qu h with rfl|h
   .exact⟨0,by lia,rfl⟩
   .obtain⟨a,b,e⟩:=OM h
    exact⟨a+1,by ext,e⟩
def qJ(m:Nat):Bool:=(List.range m).all (λj=>(lx m m 0).contains j)&&dP m m 0==0
noncomputable def sizes:AE:=[8,16,32,64,128]
def EW:sizes.all qJ=true:=by decide +kernel
theorem EX(o:m∈sizes)(l:i<m)(n:j<m):∃k,k<m/\dP m k i=j:=by
 have h:=List.all_eq_true.mp EW m o;unfold qJ at h;rw[Qe]at h;obtain⟨g,q⟩:=h
 have e:dP m m 0=0:=by grind
 have c:∀x,x<m->∃a,a<m/\dP m a 0=x:=λx f=>by
  have:=List.all_eq_true.mp g x (List.mem_range.mpr f);exact OM (by grind)
 obtain⟨a,p,rfl⟩:=c i l;obtain⟨b,r,rfl⟩:=c j n;by_cases d:a<=b
 .refine⟨b-a,by grind,?_⟩
  rw[<-wD,Nat.add_sub_cancel' d]
 .refine⟨m-a+b,by lia,?_⟩
  rw[<-wD,show a+(m-a+b)=m+b by lia,wD,e]
section
variable {mask:Nat}{owner:Array AL}
theorem EY(a i p:Nat):(∃j,SetTable.layClean.free mask owner (a+1) i p=some j/\owner.getD j (some 0)=none)\/
 (owner.getD i (some 0)≠none/\SetTable.layClean.free mask owner (a+1) i p=SetTable.layClean.free mask owner a ((i*5+1+p/32)%(mask+1)) (p/32)):=by
 rw[SetTable.layClean.free]
 cases e:(List.range _).find? _ with
 | some k=>
   ext
 | none=>
   right;refine⟨λz=>?_,rfl⟩;have:=List.find?_eq_none.mp e 0 (List.mem_range.mpr (by unfold SetTable.runEnd;split<;>lia))
   ext
theorem ON:∀(k a i:Nat),k<a->owner.getD (dP (mask+1) k i) (some 0)=none->∃j,SetTable.layClean.free mask owner a i 0=some j/\owner.getD j (some 0)=none
 | k,0,_,h,_=>absurd h (Nat.not_lt_zero _)
 | k,a+1,i,h,c=>by
   rcases EY a i 0 with b|⟨b,d⟩
   .exact b
   .cases k with
    | zero=>exact absurd c b
    | succ k=>
      rw[d];exact ON k a _ (by ext) c
theorem EZ(h:mask+1∈sizes)(n:i<mask+1)(o:p<1024)(g:∃j,j<mask+1/\owner.getD j (some 0)=none):∃j,SetTable.layClean.free mask owner (SetTable.turns mask) i p=some j/\owner.getD j (some 0)=none:=by
 obtain⟨j,f,l⟩:=g;have e:SetTable.turns mask=_+1+1:=rfl;rw[e];rcases EY (mask+13+1) i p with a|⟨_,d⟩
 .exact a
 .rw[d]
  generalize (i*5+1+p/32)%(mask+1)=b;rcases EY _ b _ with a|⟨_,c⟩
  .exact a
  .rw[c,show p/32/32=0 by ext<;>lia]
   obtain⟨k,m,q⟩:=EX h (i:=(b*5+1+0)%(mask+1)) (Nat.mod_lt _ (by lia)) f;exact ON k _ _ (by lia) (by ext)
end
theorem wG{a c:Type}{f g:a->Option c}:∀{l:List a},(∀x∈l,f x=g x)->l.filterMap f=l.filterMap g
 | [],_=>rfl
 | x::l,h=>by
   have d:=wG λy b=>h y (qg _ b);symm
theorem qK{f g:Nat->AL}(hf:f j=none)(hg:g j=some k):∀{l:AE},l.Nodup->j∈l->(∀x∈l,x≠j->g x=f x)->(l.filterMap g).Perm (k::l.filterMap f)
 | [],_,hj,_=>(nomatch hj)
 | x::l,hn,hj,he=>by
   obtain⟨hx,hn⟩:=List.nodup_cons.mp hn;by_cases e:x=j
   .subst e
    have:l.filterMap g=l.filterMap f:=wG λy hy=>he y (qg _ hy) λz=>hx (z ▸ hy);rw[List.filterMap_cons_some hg,List.filterMap_cons_none hf,this]
   .have hj':j∈l:=by
     rcases qu hj with z|z
     .exact absurd z.symm e
     .exact z
    have ih:=qK hf hg hn hj' λy hy=>he y (qg _ hy);have hxe:=he x qh e
    cases h:f x with
    | none=>rw[List.filterMap_cons_none (hxe.trans h),List.filterMap_cons_none h];exact ih
    | some v=>
      rw[List.filterMap_cons_some (hxe.trans h),List.filterMap_cons_some h];exact(ih.cons v).trans (.swap _ _ _)
theorem OO(y:mask+1∈sizes):∀(hs:AF) (owner:Array AL) (k:Nat),owner.size=mask+1->((List.range (mask+1)).filterMap λj=>owner.getD j none).Perm (List.range k)->k+hs.length<=mask->(∀h∈hs,0<=h/\h<1024)->
 ∃c,(hs.foldl (init:=some (owner,k)) λm h=>do
  let (owner,k) <-m
  let j <-SetTable.layClean.free mask owner (SetTable.turns mask) (SetTable.bits h%(mask+1)) (SetTable.bits h)
  pure (owner.setIfInBounds j (some k),k+1))=some (c,k+hs.length)/\c.size=mask+1/\((List.range (mask+1)).filterMap λj=>c.getD j none).Perm (List.range (k+hs.length))
 | [],owner,k,u,s,_,_=>⟨owner,rfl,u,s⟩
 | h::hs,owner,k,u,s,G,w=>by
   have H:SetTable.bits h<1024:=by
    obtain⟨a,b⟩:=w h qh;unfold SetTable.bits
    ext<;>lia
   have f:∃j,j<mask+1/\owner.getD j (some 0)=none:=Classical.byContradiction λr=>by
    have A:=s.length_eq;rw[List.length_range]at A
    have n:∀j∈List.range (mask+1),(owner.getD j none).isSome=true:=λj v=>by
     have t:=Qb v;have:owner.getD j (some 0)≠none:=λz=>r ⟨j,t,z⟩
     have p:j<owner.size:=by ext
     simp only[Array.getD,p,dif_pos]at this ⊢;exact Option.isSome_iff_ne_none.mpr this
    have:((List.range (mask+1)).filterMap λj=>owner.getD j none).length=(List.range (mask+1)).length:=by
     generalize List.range (mask+1)=l at n
     ext
    ext<;>lia
   obtain⟨j,v,E⟩:=EZ y (owner:=owner) (i:=SetTable.bits h%(mask+1)) (p:=SetTable.bits h) (Nat.mod_lt _ (by lia)) H f
   have B:j<owner.size:=Classical.byContradiction λz=>by
    ext
   have e:owner.getD j none=none:=by
    ext
   have F:=qK (f:=λx=>owner.getD x none) (g:=λx=>(owner.setIfInBounds j (some k)).getD x none) (j:=j) (k:=k) e (by ext) (l:=List.range (mask+1)) List.nodup_range (List.mem_range.mpr (by ext)) λx q i=>by
    have C:=Qb q
    have o:x<owner.size:=by ext
    simp[Array.getD,o,Array.getElem_setIfInBounds,Ne.symm i]
   have g:((List.range (mask+1)).filterMap λx=>(owner.setIfInBounds j (some k)).getD x none).Perm (List.range (k+1)):=by
    grind
   obtain⟨c,J,I,D⟩:=OO y hs (owner.setIfInBounds j (some k)) (k+1) (by grind) g (by grind) λx q=>w x (qg _ q);refine⟨c,?_,I,?_⟩
   .simp_all<;>lia
   ext<;>lia
theorem OP{led plain:Bool}(d:mask+1∈sizes)(hs:Array Int)(g:hs.size<=mask)(b:∀h∈hs.toList,0<=h/\h<1024):∃t o,SetTable.laid mask finger moves led plain hs=some (t,o)/\o.toList.Perm (List.range hs.size)/\t.place.size=hs.size/\t.dummies=#[]/\t.mask=mask/\t.plain=plain:=by
 have a:((List.range (mask+1)).filterMap λj=>(Array.replicate (mask+1) (none:AL)).getD j none)=[]:=by
  ext
 obtain⟨i,k,l,e⟩:=OO d hs.toList (Array.replicate (mask+1) none) 0 nofun (by ext) (by ext) b
 have c:SetTable.layClean mask hs=some i:=by
  unfold SetTable.layClean
  ext
 have f:((List.range (mask+1)).filterMap λj=>(i.getD j none).map (j,·)).map (·.2)=(List.range (mask+1)).filterMap λj=>i.getD j none:=by
  rw[List.map_filterMap];refine wG λj _=>?_;cases i.getD j none<;>rfl
 refine⟨_,_,by unfold SetTable.laid;rw[c];rfl,?_,?_,rfl,rfl,rfl⟩
 .simp_all
 .have:=e.length_eq
  symm
def wH(xs:Array a)(p:Nat):(SetTable.eraseAt xs p).toList=xs.toList.eraseIdx p:=by
 unfold SetTable.eraseAt;rw[List.eraseIdx_eq_take_drop_succ];simp[Array.toList_extract];exact List.take_of_length_le nofun
theorem UH(h:cI xs)(p:Nat):cI (SetTable.eraseAt xs p):=by
 unfold cI at h ⊢;rw[wH];grind
def E1(h:p<xs.size):(SetTable.eraseAt xs p).size=xs.size-1:=by
 rw[<-qj,wH,List.length_eraseIdx_of_lt (by simpa using h)];simp
theorem UI(xs:Array a)(p:Nat)(x:a):(SetTable.insertAt xs p x).size=xs.size+1:=by
 rw[<-qj,NT];simp;lia
section
variable {w:World}{A:Around}{E:AA}{s:Shared}
theorem UJ(hS:SetI prog w s.heap a ns)(h:∀h' ns',Heap.SameBut a s.heap h'->SetI prog w h' a ns'->ns'.Perm (ns.erase k)->Q (decide (k∈ns)) {s with heap:=h' }):
 wpAny (mZ prog w) A (setDiscardHashed a (.int k u) (hashInt k)) Q E s:=by
 have hS0:=hS;obtain⟨o,es,ep,t,ho,hex,hd,hel,hns,hnd,hb,hf,ht⟩:=hS;have hkey:(intKind prog w).is k (.int k u)=true:=intKind_is _ _ _ _;have hsc:(Value.int k u).scannable=true:=rfl;unfold setDiscardHashed setFind setFindIn;refine wa ?_;refine wa (wj ho hd hf ?_);dsimp only;rw[byScan_of hsc hb hel];simp only[↓reduceIte];refine wa (wpAny_rule ?_);refine wa (wpAny_setScan_of (knd:=intKind prog w) (k:=k) hkey ho hd hf hel ?_)
 cases hr:List.findIdx? (λe=>(intKind prog w).is k e.2) es.toList with
 | none=>
   dsimp only
   have hk:k∉ns:=λhk=>by
    rw[<-hns]at hk;obtain⟨e,he,hke⟩:=qy hk;have h1:=List.findIdx?_eq_none_iff.mp hr e he;obtain⟨t',ht'⟩:=mO hel he;rw[ht',hke]at h1;have h2:(intKind prog w).is k (.int k t')=true:=intKind_is _ _ _ _;rw[h2]at h1;exact Bool.noConfusion h1
   refine wb (wb ?_)
   have e:s={s with heap:=s.heap}:=by cases s;rfl
   have:=h s.heap ns (Heap.SameBut.refl a s.heap) hS0 (by rw[List.erase_of_not_mem hk]);rw[wo hk]at this;rw[e];exact this
 | some j=>
   dsimp only;obtain⟨hj,hpj,_⟩:=List.findIdx?_eq_some_iff_getElem.mp hr
   have hjs:j<es.size:=by simpa using hj
   have hkj:cX es.toList[j]=k:=Cp hpj
   have hk:k∈ns:=by
    rw[<-hns,<-hkj];exact Qs (List.getElem_mem hj)
   refine wb ?_;dsimp only;refine wa (wj ho hd hf ?_);dsimp only;rw[Nat.zero_add]
   have hb':(SetTable.eraseAt es j).size<scanBound:=by rw[E1 hjs];lia
   refine wa (wpAny_storeSet_of ho hd ?_ (fits_of_scanBound hb'));have ho1:=kG ho hd (SetTable.eraseAt es j) (t.drop j);have hsb1:=wv s.heap a (Obj.putSet (SetTable.eraseAt es j) (t.drop j));refine wa (wpAny_point (wb ?_));have hf':=hf;unfold SetTable.fits at hf';simp only[Qe,beq_iff_eq,wm]at hf'
   have hpl:j<t.place.size:=by lia
   have hdrop:t.drop j={t with place:=SetTable.eraseAt t.place j,dummies:=SetTable.insertAt t.dummies (SetTable.below t.dummies t.place[j]) t.place[j]}:=by
    unfold SetTable.drop;rw[Array.getElem?_eq_getElem hpl]
   have hlen:j<ns.length:=by rw[<-hns,qf];exact hj
   have hnj:ns[j]=k:=by
    have:ns[j]?=some k:=by rw[<-hns,Qm,qr hj,Option.map_some,hkj]
    rw[qr hlen]at this;exact w4 this
   have hperm:(ns.eraseIdx j).Perm (ns.erase k):=by
    have p1:=Cq hlen;rw[hnj]at p1;have p2:=List.perm_cons_erase hk;exact(p1.trans p2).cons_inv
   have hnew:SetI prog w (s.heap.update a (Obj.putSet (SetTable.eraseAt es j) (t.drop j))) a (ns.eraseIdx j):=by
    refine⟨_,SetTable.eraseAt es j,_,t.drop j,ho1,hex,rfl,λe he=>?_,?_,hnd.sublist (List.eraseIdx_sublist _ _),hb',?_,?_⟩
    .rw[wH]at he
     exact hel e (List.mem_of_mem_eraseIdx he)
    .rw[wH,<-hns,List.eraseIdx_eq_take_drop_succ,List.eraseIdx_eq_take_drop_succ,wt,List.map_take,List.map_drop]
    .rw[hdrop]
     unfold SetTable.fits;unfold SetTable.fill at hf' ⊢;simp only[Qe,beq_iff_eq,wm,E1 hpl,E1 hjs,UI]at hf' ⊢;lia
    .rw[hdrop]
     exact⟨ht.1,λz=>UH (ht.2 z) j⟩
   have:=h _ _ hsb1 hnew hperm;rw[wn hk]at this;exact this
theorem E3(g:s.heap.get? a=some o)(f:o.data=.set b j t)(e:t.fits b.size=true)(i:Tab (eM w) t)(h:∀(r:Array (Int×Value)) (m:Drawn),r.toList.Perm b.toList->Q r {s with drawn:=m}):wpAny (mZ prog w) A (setWalk a) Q E s:=by
 refine wa (wj g f e (wa (kH ?_)));by_cases l:eM w=true
 .rw[if_pos l]
  exact wa (wpAny_askSetting (wb (h _ _ (N3 _ _))))
 .rw[if_neg l]
  have d:eM w=false:=by grind
  show wpAny _ _ (if (_&&_)=true then _ else _) _ _ _;by_cases c:(!t.plain&&decide (b.size > 1))=true
  .rw[if_pos c]
   refine wa (Cr _ _ _ _ nofun λn m k=>wb ?_);grind
  .rw[if_neg c]
   show wpAny _ _ ((if _ then _ else _)>>=_) _ _ _;rw[if_neg (by rw[i.1 d];simp)];exact wa (wb (wb (h b _ (.refl _))))
def UK(h:∀a∈q,∃ns,SetI prog w s.heap a ns)(C:Q true s):wpAny (mZ prog w) A (setsQuiet q) Q E s:=by
 refine wa (wpAny_forIn_list _ (λc b L=>b.1=none/\L=s/\∀a∈c,∃ns,SetI _ w _ a ns) _ ?_ ?_ q _ ⟨rfl,rfl,h⟩)
 .rintro a c b L ⟨M,rfl,p⟩
  obtain⟨ns,o,r,I,t,v,D,z,i,_,_,_,y,_⟩:=p a qh;refine wa (wa (wj v z y (wb (wa (MeetsSeq2.wpAny_forIn_array _ (λc b l=>b.1=none/\l=L/\∀e∈c,e∈r.toList) _ ?_ ?_ r _ ⟨rfl,rfl,λe m=>m⟩)))))
  .rintro⟨K,x⟩ j b2 F ⟨f,rfl,g⟩
   obtain⟨N,k⟩:=mO i (g _ qh);have n:=congrArg Prod.snd k;dsimp only at n;rw[n];exact wb ⟨rfl,rfl,λe m=>g e (qg _ m)⟩
  .rintro b2 F ⟨f,rfl,_⟩
   obtain⟨G,B⟩:=b2;subst f;exact wb ⟨rfl,rfl,λa u=>p a (qg _ u)⟩
 .rintro b L ⟨M,rfl,_⟩
  obtain⟨J,H⟩:=b;subst M;exact wb C
theorem UL(v:SetI prog w s.heap o ns)(q:SetI prog w s.heap f H)(h:∀(r:Array (Int×Value)) (T:Heap) (S:Drawn),Heap.SameBut f s.heap T->SetI prog w T f H->ElemsOf (intKind prog w) r.toList->(r.toList.map cX).Perm ns->Q r {s with heap:=T,drawn:=S}):
 wpAny (mZ prog w) A (setWalkUnseen o [f] (some f)) Q E s:=by
 have K:=v;obtain⟨O,G,R,t,x,I,y,d,k,J,U,F,D⟩:=v;refine wa (wj x y F (wa (kH ?_)))
 split
 .exact(E3 x y F D λr S M=>h r _ S (.refl f _) q (d.perm M) ⋯)
 .refine wa (UK (λa N=>?_) ?_)
  .grind
  .refine wa (wpAny_rule ?_)
   have p:=q;obtain⟨P,B,L,u,c,i,b,l,j,n,m,e,g⟩:=q;refine wa (wj c b e ?_);dsimp only
   split
   .refine wa (wpAny_storeSet_of c b (wb (h G _ _ (.update _ f _) ⟨_,B,_,_,kG c b B _,i,rfl,l,j,n,m,e,⟨λz=>?_,λz=>?_⟩⟩ d (by rw[k]))) (fits_of_scanBound m))
    .rw[g.1 z,D.1 z]
     rfl
    .have C:=z
     rw[Qe]at C;exact g.2 C.1
   .exact wb (h G _ _ (.refl f _) p d (by rw[k]))
def SetI.nodup(x:SetI prog w h a ns):ns.Nodup:=by
 obtain⟨_,_,_,_,_,_,_,_,_,b,_⟩:=x;exact b
def SetI.type(x:SetI prog w s.heap a ns):s.TypeIs (.ref a) "set":=by
 obtain⟨o,_,_,_,c,b,_⟩:=x;exact⟨o,c,b.1⟩
def SetI.but(x:SetI prog w h a ns)(b:a≠f)(c:Heap.SameBut f h d):SetI prog w d a ns:=x.at λo e=>(c.2 a b).trans e
theorem E4(p:SetI prog w s.heap f i)(b:i.length+1<scanBound)(h:∀v c,Heap.SameBut f s.heap v->SetI prog w v f c->(∀x,x∈c↔¬(x∈i↔x=k))->c.length<=i.length+1->Q () {s with heap:=v}):
 wpAny (mZ prog w) A (holding [.int k u] (do
  if !(<-setDiscardHashed f (.int k u) (hashInt k))then
   let _ <-setAddHashed f (.int k u) (hashInt k))) Q E s:=by
 have q:=p.nodup;refine wc (wa (UJ p λr l g e a=>?_));by_cases j:k∈i
 .rw[wn j]
  refine wb (h r l g e (λx=>?_) ?_)
  .grind
  .rw[a.length_eq]
   ext<;>lia
 .rw[wo j]
  rw[List.erase_of_not_mem j]at a;refine wa (NV e (by rwa [a.length_eq]) λt o m n d=>?_);rw[if_neg (λz=>j (a.mem_iff.mp z))]at d;refine wb (h t o (g.trans m) n (λx=>?_) ?_)
  .grind
  .rw[d.length_eq,qz,a.length_eq]
   ext
def wI(a:SetI prog w s.heap o ns)(h:Q true s):wpAny (mZ prog w) A (Builtin.Frozenset.isAnySet (.ref o)) Q E s:=wa (wpAny_isInstance a.type EN (wb h))
theorem E5{id:String}(I:o≠f)(v:SetI prog w s.heap o ns)(hF:SetI prog w s.heap f k)(K:k.length+ns.length+1<scanBound)(h:∀h' d' n,Heap.SameBut f s.heap h'->SetI prog w h' f n->(∀x,x∈n↔¬(x∈k↔x∈ns))->Q () {s with heap:=h',drawn:=d' }):
 wpAny (mZ prog w) A (Builtin.Frozenset.symmetricDifferenceUpdate id f (.ref o)) Q E s:=by
 unfold Builtin.Frozenset.symmetricDifferenceUpdate;rw[if_neg (by grind)];refine wa (wpAny_typeOf v.type ?_)
 have c:(.type "set"==Value.type "dict")=false:=by decide
 refine wa (wI v ?_);refine wa (wb ?_);have J:=v;obtain⟨oo,es,ep,t,N,Z,M,X,S,Y,hb,L,ht⟩:=J;refine wa (m:=setEpoch o) ?_;refine wa (wj N M L (wb ?_));dsimp only;refine wc ?_;refine wa (UL v hF λr h' d' U F p C=>?_)
 refine wa (wz (MeetsSeq2.wpAny_forIn_array _ (λd _ s'=>∃b c a,s'={s with heap:=c,drawn:=d' }/\Heap.SameBut f _ c/\SetI _ w c f a/\(∀x,x∈a↔¬(x∈k↔x∈b))/\r.toList.map cX=b++d.map cX/\a.length<=k.length+b.length/\∀e∈d,e∈r.toList)
  (λ_ s'=>∃c a,s'={s with heap:=c,drawn:=d' }/\Heap.SameBut f s.heap c/\SetI prog w c f a/\(∀x,x∈a↔¬(x∈k↔x∈ns))) ?_ ?_ r _ ⟨[],h',k,rfl,U,F,by simp,by simp,by simp,λe H=>H⟩) (λ_ s' hs=>?_) λ_ _ e=>e)
 .rintro x d _ s' ⟨b,c,a,rfl,g,i,l,R,T,u⟩
  have W:=u x qh;obtain⟨tk,D⟩:=mO p W
  have q:a.length+1<scanBound:=by
   have e2:=C.length_eq;grind
  rw[D];refine wa (E4 i q λP z m B O V=>?_);have G:=((g.trans m).2 o I).trans N;refine wa ?_;refine wa (wa (wj G M L (wb ?_)));rw[if_neg nofun];refine wb (wb ⟨b++[cX x],P,z,rfl,g.trans m,B,λy=>?_,?_,?_,λe H=>u e (qg _ H)⟩)
  .grind
  ·(simp at*;lia)
  (simp;lia)
 .grind
 .obtain⟨c,a,rfl,g,i,l⟩:=hs
  exact wb (h c d' a g i l)
theorem UM(h:0<=k/\k<1024):0<=hashInt k/\hashInt k<1024:=by
 have e:rawHash k=k:=by
  unfold rawHash;grind
 unfold hashInt
 split<;>ext
def E6:(List.range 64).all (λn=>decide (SetTable.sizeAbove (n*2)∈sizes)&&decide (n<SetTable.sizeAbove (n*2))&&decide (SetTable.sizeAbove (n*2)<=128))=true:=by decide +kernel
theorem E7{a:Array (Int×Value)}{o:Array Nat}(d:o.toList.Perm (List.range a.size)):(o.filterMap (a[·]?)).toList.Perm a.toList:=by
 have c:(o.filterMap (a[·]?)).toList=o.toList.filterMap (a.toList[·]?):=by simp
 have b:(List.range a.size).filterMap (a.toList[·]?)=a.toList:=by
  have:∀l:List (Int×Value),(List.range l.length).filterMap (l[·]?)=l:=λl=>by
   rw[wG λi e=>?_]
   .show List.filterMap (some ∘ λi=>l.getD i (0,.none)) _=_
    refine List.ext_getElem nofun λi c b=>?_;simp[b]
   ext
  grind
 grind
noncomputable abbrev OQ(a:Nat)(t:SetTable):Obj:={cls:=.type "set",dict:=none,data:=.set #[] a t}
theorem E8(b:s.heap.get? f=some (OQ q (.fresh 0 0 led)))(x:n<64)(h:∀h' d t',Heap.SameBut f s.heap h'->h'.get? f=some (OQ d t')->t'.mask+1∈sizes->n<=t'.mask->t'.place=#[]->t'.dummies=#[]->t'.led=led->t'.plain=true->Q () {s with heap:=h' }):wpAny (mZ prog w) A (setRoomFor f n) Q E s:=by
 have a:_=true:=rfl;refine wa (wj b rfl a ?_);dsimp only;by_cases B:21<=n*5
 .have e:(SetTable.fresh 0 0 led).roomFor n=some (n*2):=by
   unfold SetTable.roomFor SetTable.fresh SetTable.fill;simp only[Array.size_empty,Nat.zero_add];rw[if_pos (by omega)]
  rw[e];dsimp only;have c:=List.all_eq_true.mp E6 n (List.mem_range.mpr x);simp only[Qe,wm]at c;obtain⟨⟨m,D⟩,C⟩:=c;refine wa (wj b rfl a ?_);dsimp only;rw[if_neg (by rw[jg];lia)]
  have j:SetTable.sizeAbove (n*2)-1+1=SetTable.sizeAbove (n*2):=by lia
  obtain⟨t',o,l,u,r,v,k,p⟩:=OP (finger:=0) (led:=led) (plain:=true) (by rw[j];exact m) #[] (Qh _) (λh y=>by simp at y)
  have g:(SetTable.fresh 0 0 led).relaid ((#[]:Array (Int×Value)).map (·.1)) (n*2)=some (t',o):=by
   rw[show(#[]:Array (Int×Value)).map (·.1)=#[] by simp];exact l
  rw[g]
  have i:o=#[]:=by
   have:=u.length_eq;simpa using this
  subst i;have t:=Co l;refine wpAny_storeSet_of b rfl ?_ nofun;have z:=kG b rfl (#[]) t';exact h _ _ t' (.update s.heap f _) z (by rw[k,j];exact m) (by rw[k];lia) (by simpa using r) v t.2.1 p
 .have e:(SetTable.fresh 0 0 led).roomFor n=none:=by
   unfold SetTable.roomFor SetTable.fresh SetTable.fill;simp only[Array.size_empty,Nat.zero_add];rw[if_neg (by omega)]
  rw[e];refine wb ?_
  have e:s={s with heap:=s.heap}:=by cases s;rfl
  rw[e];exact h s.heap q _ (.refl f s.heap) b (show 8∈sizes by decide) (show n<=7 by lia) rfl rfl rfl rfl
theorem E9{id:String}(T:SetI prog w s.heap o ns)(hk:∀k∈ns,0<=k/\k<1024)(hl:ns.length<64)(h:∀h' V,(∀b x,s.heap.get? b=some x->h'.get? b=some x)->SetI prog w h' (~~~s) V->V.Perm ns->Q (.ref (~~~s)) {s with heap:=h' }):
 wpAny (mZ prog w) A (Builtin.Frozenset.newFrom id (.type "set") (.ref o)) Q E s:=by
 unfold Builtin.Frozenset.newFrom newSet;refine wa (wa (kH ?_));dsimp only;simp only[newObj];refine wa (wpAny_alloc (wb ?_))
 have J:o< ~~~s:=by
  obtain⟨oo,_,_,_,G,_⟩:=T;exact ql G
 generalize W:s.heap.push _=H
 have c:∀b x,s.heap.get? b=some x->H.get? b=some x:=λb x e=>by rw[<-W];exact qe _ e
 have D:H.get? (~~~s)=some {cls:=.type "set",dict:=none,data:=.set #[] 0 (.fresh 0 0 (!eM w))}:=by rw[<-W];exact qp _ rfl
 generalize hf:(~~~s)=f at *;have hne:o≠f:=qm J;have C:SetI prog w H o ns:=T.at λx e=>c o x e;refine wa (m:=Builtin.Frozenset.addrOf (.ref f)) (wb ?_);refine wa (wc ?_);unfold Builtin.Frozenset.updateFrom;refine wa (wI (s:={s with heap:=H}) C ?_);rw[if_pos rfl];unfold Builtin.Frozenset.merge;have O:=C;obtain⟨oo,a,ep,t,G,hex,U,p,K,r,hb,l,R⟩:=O
 have hsz:a.size=ns.length:=by grind
 refine wa (m:=setEpoch o) ?_;unfold setEpoch;refine wa (wj (s:={s with heap:=H}) G U l (wb ?_));dsimp only;unfold setMerge
 have h1:(f==o)=false:=by grind
 rw[if_neg (by ext)];refine wa (wj (s:={s with heap:=H}) G U l ?_);dsimp only;by_cases i:a.isEmpty=true
 .rw[if_pos i]
  refine wb (wb (h H [] c ⟨_,#[],_,_,D,⟨rfl,rfl,rfl⟩,rfl,λe P=>by simp at P,rfl,.nil,by decide,rfl,.fresh⟩ ?_))
  ext
 .rw[if_neg i]
  refine wa (E8 (s:={s with heap:=H}) D (by ext) λh' ep' t' sb g m1 m2 p1 p2 l1 l2=>?_)
  have j:t'.fits (#[]:Array (Int×Value)).size=true:=by
   unfold SetTable.fits SetTable.fill
   ext
  refine wa (wj (s:={s with heap:=h' }) g rfl j ?_);dsimp only
  have m:∀b x,s.heap.get? b=some x->h'.get? b=some x:=λb x e=>by
   have hb:b≠f:=λz=>by
    have:=ql e
    ext
   exact(sb.2 b hb).trans (c b x e)
  have d:∀(y:Array (Int×Value)) (B:SetTable) b x,s.heap.get? b=some x->(h'.update f (Obj.putSet y B)).get? b=some x:=λy B b x e=>by
   have hb:b≠f:=λz=>by
    have:=ql e
    ext
   exact((wv h' f _).2 b hb).trans (m b x e)
  have n:t'.fill=0:=by
   unfold SetTable.fill
   ext
  unfold SetTable.road;rw[n,if_neg nofun]
  have v:eM w=false->(t'.led&&t.led)=true:=λz=>by
   rw[l1,R.1 z,z];rfl
  by_cases Y:(t'.mask==t.mask&&t.dummies.isEmpty)=true
  .rw[if_pos Y]
   dsimp only;refine wpAny_storeSet_of (s:={s with heap:=h' }) g rfl ?_ (fits_of_scanBound hb);have M:=kG g rfl a {t with finger:=t'.finger,led:=t'.led&&t.led,moves:=t'.moves,plain:=t'.plain&&t.plain};refine wb (h _ ns (d _ _) ⟨_,a,_,_,M,⟨rfl,rfl,rfl⟩,rfl,p,K,r,hb,l,v,λz=>?_⟩ (.refl _));have X:(t'.plain&&t.plain)=true:=z;rw[Qe]at X;exact R.2 X.2
  .rw[if_neg Y]
   dsimp only
   obtain⟨B,q,e1,e2,e3,e4,e5,e6⟩:=OP (mask:=t'.mask) (finger:=t'.finger) (moves:=t'.moves) (led:=t'.led&&t.led) (plain:=t'.plain&&t.plain) m1 (a.map (·.1)) (by ext) (λx S=>by
    rw[Array.toList_map]at S;obtain⟨e,P,rfl⟩:=qy S;obtain⟨tk,het⟩:=mO p P
    have I:cX e∈ns:=by grind
    have:=UM (hk _ I)
    grind)
   rw[e1];have L:=Co e1
   have N:q.toList.Perm (List.range a.size):=by grind
   have Z:=E7 N
   have hsz2:(q.filterMap (a[·]?)).size=a.size:=by rw[<-qj,Z.length_eq,qj]
   refine wa ?_;show wpAny _ _ (if ((q.filterMap (a[·]?)).size != a.size)=true then _ else _) _ _ _;rw[if_neg (by ext)];refine wb ?_;dsimp only
   have u:(q.filterMap (a[·]?)).size<scanBound:=by ext
   refine wpAny_storeSet_of (s:={s with heap:=h' }) g rfl ?_ (fits_of_scanBound u);have M:=kG g rfl (q.filterMap (a[·]?)) B
   have F:((q.filterMap (a[·]?)).toList.map cX).Perm ns:=by grind
   refine wb (h _ _ (d _ _) ⟨_,_,_,B,M,⟨rfl,rfl,rfl⟩,rfl,p.perm Z,rfl,F.nodup_iff.mpr r,u,?_,⟨λz=>by ext,λ_=>L.1⟩⟩ F);unfold SetTable.fits SetTable.fill
   ext
theorem UN:entryFor table "set.__xor__"=some Builtin.«frozenset.__xor__»:=
 entryFor_alias (id':="frozenset.__xor__") (by kernel_rfl) (by first|rfl|decide +kernel|(unfold String.splitOn)) (by decide +kernel) (by kernel_rfl)
theorem E_(G:SetI prog w s.heap a ns)(j:SetI prog w s.heap b g)(q:∀k∈g,0<=k/\k<1024)(t:g.length<64)(u:ns.length<64)(h:∀I H f,(∀c x,s.heap.get? c=some x->I.get? c=some x)->SetI prog w I (~~~s) f->(∀x,x∈f↔¬(x∈g↔x∈ns))->Q (.ref (~~~s)) {s with heap:=I,drawn:=H}):
 wpAny (mZ prog w) A (binaryOp .BitXor (.ref a) (.ref b)) Q E s:=by
 refine wpAny_binaryOp_same G.type j.type F.fills_set_xor F.slot_set_xor (we F.slot_set_xor G.type UN (wa (wpAny_of_eq rfl (wa (wa (wI G (wI j (wa (wb (wa (wa (wa (wpAny_isInstance G.type EN (wb (wa (E9 j q t λD f m p v=>?_))))))))))))))) (F.args_set_xor_2 _ _))
 have d:a< ~~~s:=by
  obtain⟨C,_,_,_,y,_⟩:=G;exact ql y
 have r:scanBound=4096:=rfl;refine wa (wb (wa (wc (E5 (qm d) (G.at λx e=>m a x e) p (by rw[v.length_eq];lia) λo H i n l B=>wb (wb ⟨_,rfl,(λz=>nomatch z),h o H i (λc x e=>?_) l λx=>?_⟩)))))
 .exact(n.2 c (qm (ql e))).trans (m c x e)
 grind
end
section
variable {σ:L2.St}{H:Hp}{s:Shared}
def Fb(P:P7)(w:World):V->V->Hp->VK->Prop:=λx y H Q=>∃a b e c,x=.ref a/\y=.ref b/\H a=some (dO P w a e)/\H b=some (dO P w b c)/\(∀k∈c,0<=k/\k<1024)/\c.length<64/\e.length<64/\
 ∀p d,H p=none->d.Nodup->(∀x,x∈d↔¬(x∈c↔x∈e))->Q (.ref p) (upd H p (dO P w p d))
def op_xor:bX X (binaryOp .BitXor) (Fb X.prog X.w):=by
 intro o s w H x y v u Q I j m h;obtain⟨a,b,t,n,rfl,rfl,p,g,f,k,d,q⟩:=h;cases j;cases m
 exact E_ ((I.hok a _ p).1) ((I.hok b _ g).1) f k d λz r i c e l=>⟨.ref _,_,.laid (I.dr r) c (qv _) (ER e),rfl,q _ i (I.hok.fresh (qv _)) e.nodup l⟩
end
theorem eW:∀(l a:AF) (x:Int),x∈aY a l↔x∈a\/x∈l
 | [],a,x=>by simp[aY]
 | k::l,a,x=>by
   rw[aY,eW];grind
theorem ly:∀(l a:AF),a.Nodup->(aY a l).Nodup
 | [],_,h=>h
 | k::l,a,h=>by
   refine ly l _ ?_;symm
def dZ(a b:AF):AF:=(aY [] b).filter (λx=>!(a.contains x))++(aY [] a).filter (λx=>!(b.contains x))
def OR:x∈dZ a b↔¬(x∈b↔x∈a):=by
 unfold dZ;rw[List.mem_append,Ql,Ql,eW,eW];by_cases c:x∈a<;>by_cases d:x∈b<;>simp[c]
theorem Fc(a b:AF):(dZ a b).Nodup:=by
 unfold dZ;rw[List.nodup_append];refine⟨(ly b [] .nil).filter _,(ly a [] .nil).filter _,λx e y d z=>?_⟩;have c:=Qc d;rw[eW]at c;grind
def iR(l m:AN):Option AN:=(intsD l).bind λa=>(intsD m).bind λb=>
 if a.length<4000/\b.length<4000/\(aY [] a).length<64/\(aY [] b).length<64/\(b.all λk=>decide (0<=k/\k<1024))=true/\(dZ a b).length<64 then some ((dy (dZ a b)).map .int)else none
section
variable {e e2:Expr}{f:AU}{p:Pos}
def wJ(f f2:AU):AV:=λa=>(b1 f Yc a).bind λl=>(b1 f2 Yc a).bind λm=>iR l m
@[simp] theorem lz:wJ f f2 ρ=((f ρ).bind Yc).bind λl=>((f2 ρ).bind Yc).bind λm=>iR l m:=EV rfl
end
section
variable {w:World}{A:Around}{E:AA}{s:Shared}
structure UO(w:World)(h:Heap)(a:Addr)(us:List (Int×Addr)):Prop where
 ex:∃o es ep t,h.get? a=some o/\o.ExactSet/\o.data=.set es ep t/\es.toList=us.map (λu=>(u.1,Value.ref u.2))/\t.fits es.size=true/\t.mask=7/\t.dummies=#[]/\t.place.toList=us.map (λu=>SetTable.bits u.1%8)/\Tab (eM w) t
end
noncomputable def Fd(mask:Nat)(p:SetTable.Probe):SetTable.Probe:=SetTable.advance {mask:=mask,place:=#[],dummies:=#[],finger:=0,led:=false,moves:=0,plain:=false} p
noncomputable def Fe(mask:Nat):Nat->SetTable.Probe->SetTable.Probe
 | 0,p=>p
 | k+1,p=>Fe mask k (Fd mask p)
noncomputable def UP(mask i perturb:Nat):SetTable.Probe:={j:=i,more:=SetTable.runEnd mask i-i,i,perturb,dummy:=none}
def UQ(mask:Nat)(a:Nat->Prop)(p:SetTable.Probe)(j:Nat):Prop:=∃k,(Fe mask k p).j=j/\∀m,m<k->a (Fe mask m p).j
abbrev UR(mask:Nat)(h:Int):SetTable.Probe:=UP mask (SetTable.bits h%(mask+1)) (SetTable.bits h)
section
variable {t:SetTable}{hA:Nat->Int}{h:Int}
structure qL(t:SetTable)(n:Nat):Prop where
 hs:t.mask+1∈sizes
 dm:t.dummies=#[]
 rise:cI t.place
 le:∀j∈t.place.toList,j<=t.mask
 sz:t.place.size=n
 room:n<=t.mask
end
def bI(b:Bool):Int:=if b then 1 else 0
def bH(a:AG):Int:=oV (a.map bI)
def Ff(h:Heap)(u:Addr)(a:AG):Prop:=a.length<=4/\∃o n,h.get? u=some o/\o.cls=.type "tuple"/\o.data=.seq (a.map .bool).toArray n
structure US(w:World)(h:Heap)(S:Addr)(us:List (Addr×AG)):Prop where
 ex:∃o es ep t,h.get? S=some o/\o.ExactSet/\o.data=.set es ep t/\es.toList.Perm (us.map λu=>(bH u.2,Value.ref u.1))/\t.fits es.size=true/\qL t es.size/\Tab (eM w) t/\es.size*5<t.mask*3/\∀q∈es.toList.zip t.place.toList,UQ t.mask (·∈t.place.toList) (UR t.mask q.1.1) q.2
 keys:(us.map (·.2)).Nodup
 tups:∀u∈us,Ff h u.1 u.2
 few:us.length<=24
section
variable {n:Nat}{key:Nat->Nat}{cmp:Nat->Nat->(Bool->Shared->Prop)->Shared->Prop}{s:Shared}
variable (hinj:∀i j,i<n->j<n->key i=key j->i=j)(hc:∀i j (C:Bool->Shared->Prop),i<n->j<n->C (decide (key i<key j)) s->cmp i j C s)
include hinj hc
omit hinj hc in
omit hinj hc in
omit hinj hc in
end
section
variable {e:Expr}{f:AU}{p:Pos}
def gJ:D->D->Option D
 | .tup a,.tup b=>if a.length+b.length<=aA then some (.tup (a++b))else none
 | _,_=>none
def Fg(K:W7):R2:=λx y H Q=>∃a b c d,x=.ref a/\y=.ref b/\SqT K H a c/\SqT K H b d/\c.length+d.length<=sizeLine/\
 (c=[]->Q (.ref b) H)/\(c≠[]->d=[]->Q (.ref a) H)/\(c≠[]->d≠[]->∀p,H p=none->Q (.ref p) (upd H p (.tup (c++d))))
def Fh:bX X (binaryOp .Add) (Fg X.K):=by
 intro t s J H x y v u Q I A k h;obtain⟨a,b,o,G,rfl,rfl,z,B,R,D,F,M⟩:=h;by_cases d:o=[]
 .cases A
  cases k;obtain⟨L,C,S,_⟩:=I.tuple z;obtain⟨r,U,O,_⟩:=I.tuple B;obtain⟨⟨K,E,m,N⟩,q,l,n,w⟩:=S;obtain⟨⟨p,i,data2,j⟩,f,g,T,e⟩:=O;simp at l w g e;subst l w g e
  exact concat_meets ⟨_,q,rfl⟩ ⟨_,f,rfl⟩ noFill_tuple_add seq_tuple_add PySem.F.slot_tuple_add PySem.F.entry_tuple_add (PySem.F.args_tuple_add_2 _ _)
   (tuple_addW0 a b _ _ n T E i N j (by simp[C.nil_iff.mpr d])) ⟨q,f,⟨.ref b,H,I,rfl,D d⟩⟩
 .exact BX _ s J H _ _ _ _ Q I A k ⟨a,b,o,G,rfl,rfl,z,B,d,R,F d,M d⟩
@[simp] theorem nh(a b:AN):gJ (.tup a) (.tup b)=if a.length+b.length<=aA then some (.tup (a++b))else none:=EV rfl
end
structure ZE(X:Cx)(e:Expr)(f:AU):Prop where
 un:ME X e f
structure ZC(X:Cx)(e:Expr)(f:AU):Prop where
 un:MC X e f
structure jM(X:Cx)(es:AK)(f:AV):Prop where
 un:vT X es f
structure ZF(X:Cx)(e:Expr)(f:AV):Prop where
 un:MF X e f
structure ZT(X:Cx)(e:Expr)(f:AT):Prop where
 un:MT X e f
structure ZW(X:Cx)(e:Expr)(f:AT):Prop where
 un:MW X e f
structure ZA(X:Cx)(es:AK)(f:AV):Prop where
 un:MA X es f
structure ZI(X:Cx)(tg iter:Expr)(f:AV):Prop where
 un:MI X tg iter f
structure ZS(X:Cx)(st:Stmt)(f:AR):Prop where
 un:MS X st f
structure ZB(X:Cx)(sts:List Stmt)(f:AR):Prop where
 un:MB X sts f
structure ZG(X:Cx)(tg:Expr)(gt:AS):Prop where
 un:MG X tg gt
structure gK(X:Cx)(K:W7)(ifs:AK)(f:AT):Prop where
 un:ef X ifs (tTof K f)
structure ZO(X:Cx)(e:Option Expr)(f:Option AU):Prop where
 un:PO X e (tO X.K f)
structure ZP(X:Cx)(pos:Pos)(keys:List (Option Expr))(values:AK)(ks:AJ)(fs:List AU):Prop where
 un:MP X pos keys values ks fs
section
variable {H0 G0 H G:Hp}{σ:L2.St}{ρ:Ro}{a b c e:Expr}{fb fc f:AU}
def Yp(h:ZE X e f):ZC X e f:=⟨ME.mc h.un⟩
theorem h6(i:Nat)(n:X.N[i]?=some x:=by rfl)(k:g0 X.env.scope x:=by trivial)(l:du x:=by decide)(g:ju x:=by decide):ZE X (.Name x pos) (ab i):=⟨
 PE.imp (kh n k l g) λc H Q j=>by
  obtain⟨f,d,b,a,G,e,s,h⟩:=j;obtain⟨v,o,m⟩:=s.sh i d (N9 e)
  exact⟨v,o,h v H G (.refl s.seen) m⟩⟩
theorem Yo(i:Nat)(r:X.N[i]?=some x:=by rfl)(w:g0 X.env.scope x:=by trivial)(z:du x:=by decide)(m:ju x:=by decide):ZC X (.Name x pos) (aa i):=⟨
 PE.imp (kh r w z m) λD H Q o=>by
  obtain⟨E,d,F,B,G,e,s,h⟩:=o;unfold aa at e
  split at e
  .rename_i C k
   cases e;obtain⟨v,g,j⟩:=s.sh i _ k;exact⟨v,g,h v H G (.refl s.seen) (.of s.seen j)⟩
  .rename_i l n
   cases e;obtain⟨a,c,g,j,y,p,q⟩:=s.ow i l n;exact⟨_,g,h _ H G (.refl s.seen) (⟨a,c,rfl,.inl p,q⟩)⟩
  .rename_i t f b n
   cases e;obtain⟨a,u,A,g,j,y,p,q⟩:=s.od i t f b n;exact⟨_,g,h _ H G (.refl s.seen) (by rw[Ct];grind)⟩
  .cases e⟩
def dz{j}:ZE X (.Constant (.int i) j pos) (aab i):=⟨oY⟩
def Fi{j}:ZE X (.Constant (.bool k) j pos) (kD (.bl k)):=⟨CG⟩
def qM{j}:ZE X (.Constant .none j pos) (kD .non):=⟨CH⟩
theorem jN{j}(g:PyData.strOk x=true:=by decide +kernel):ZE X (.Constant (.str x) j pos) (kD (.str x)):=⟨vU oi (λ_ _ _ q=>q) λ_=>by rw[Rp];grind⟩
def qN(d:ZC X a fa)(c:ZC X b fb):ZE X (.BinOp a .Sub b pos) (b2 fa fb eP):=⟨have d:=d.un;have c:=c.un;mP A8 o4 d c⟩
def Fj(d:ZC X a fa)(c:ZC X b fb):ZE X (.BinOp a .Mult b pos) (b2 fa fb gn):=⟨have d:=d.un;have c:=c.un;mP A9 (vV λi j h=>by
 simp only[Bool.or_eq_true,Qe,wm]at h
 exact h) d c⟩
def wK(d:ZC X a fa)(c:ZC X b fb):ZE X (.BinOp a .FloorDiv b pos) (b2 fa fb c9):=⟨have d:=d.un;have c:=c.un;mP A_ (vV λi j h=>by
 simp [wm]at h
 exact h) d c⟩
def h7(d:ZC X a fa)(c:ZC X b fb):ZE X (.BinOp a .Mod b pos) (b2 fa fb bb):=⟨have d:=d.un;have c:=c.un;mP Ba (vV λi j h=>wq h) d c⟩
def Fl(d:ZC X a fa)(hb:ZC X b fb):ZE X (.Compare a [.Lt] [b] pos) (mB (b2 fa fb eQ)):=⟨have d:=d.un;have hb:=hb.un;g9 ku o5 d hb (fU _)⟩
def Fm(ha:ZC X a fa)(hb:ZC X b fb):ZE X (.Compare a [.Gt] [b] pos) (mB (b2 fa fb CL)):=⟨have ha:=ha.un;have hb:=hb.un;g9 Be o5 ha hb (fU _)⟩
def Fn(d:ZC X a fa)(c:ZC X b fb):ZT X (.Compare a [.Lt] [b] pos) (b2 fa fb eQ):=⟨have d:=d.un;have c:=c.un;fX ku o5 d c (fU _)⟩
def wL(g:X.A.units+64<cLine)(d:ZC X a fa)(c:ZC X b fb):ZE X (.Compare a [.Eq] [b] pos) (mB (b2 fa fb (az false))):=⟨have d:=d.un;have c:=c.un;g9 (o7 g) vW d c (fU _)⟩
def qO(g:X.A.units+64<cLine)(d:ZC X a fa)(c:ZC X b fb):ZE X (.Compare a [.NotEq] [b] pos) (mB (b2 fa fb (az true))):=⟨have d:=d.un;have c:=c.un;g9 (o8 g) vW d c (fU _)⟩
def jO(g:X.A.units+64<cLine)(d:ZC X a fa)(c:ZC X b fb):ZT X (.Compare a [.Eq] [b] pos) (b2 fa fb (az false)):=⟨have d:=d.un;have c:=c.un;fX (o7 g) vW d c (fU _)⟩
def Fo(g:X.A.units+64<cLine)(d:ZC X a fa)(c:ZC X b fb):ZT X (.Compare a [.NotEq] [b] pos) (b2 fa fb (az true)):=⟨have d:=d.un;have c:=c.un;fX (o8 g) vW d c (fU _)⟩
def Fp(g:X.A.units+64<cLine)(d:ZC X a fa)(c:ZC X b fb)(h:behindInMarks .In b=false:=by with_unfolding_all rfl):ZE X (.Compare a [.In] [b] pos) (mB (b2 fa fb (b7 false))):=⟨have d:=d.un;have c:=c.un;g9 (o9 g) CQ d c h⟩
def Ft(g:X.A.units+64<cLine)(d:ZC X a fa)(c:ZC X b fb)(h:behindInMarks .In b=false:=by with_unfolding_all rfl):ZT X (.Compare a [.In] [b] pos) (b2 fa fb (b7 false)):=⟨have d:=d.un;have c:=c.un;fX (o9 g) CQ d c h⟩
def qP(g:X.A.units+64<cLine)(d:ZC X a fa)(c:ZC X b fb)(h:behindInMarks .NotIn b=false:=by with_unfolding_all rfl):ZT X (.Compare a [.NotIn] [b] pos) (b2 fa fb (b7 true)):=⟨have d:=d.un;have c:=c.un;fX (CP g) CQ d c h⟩
end
section
variable {a b c e:Expr}{fb f fe:AU}{fc fd:AT}{p:Pos}{x:Str}{id T:String}{r:AM->Hp->VK->Prop}{g:AN->Option D}{gf:AN->Option AN}{N:AJ}{src:List AL}{gt:AS}{P:P7}{w:World}{x1:Nat}
def Fu(j:ZC X a fa)(o:∀i,isTrue a X.env i=(do let v <-i;standAt a.pos;holding [v] (truthy v)):=by intro _;rfl):ZT X a (b1 fa aD):=⟨have j:=j.un;
 PT.imp (Bm j o) λc H Q l=>by
  obtain⟨b,k,A,B,G,e,s,h⟩:=l;obtain⟨d,t,u⟩:=eB e
  exact tCof.at t s λv y m n q z=>⟨k,CS u q,h y m n⟩⟩
def Fv(d:ZT X a fc):ZW X (.BoolOp .And [a] pos) fc:=⟨have d:=d.un;zX d⟩
def Fw(d:ZT X a fc):ZW X (.BoolOp .Or [a] pos) fc:=⟨have d:=d.un;zY d⟩
def Fx(d:ZT X a fc)(c:ZW X (.BoolOp .And (b::rest) pos) fd):ZW X (.BoolOp .And (a::b::rest) pos) (bU fc fd):=⟨have d:=d.un;have c:=c.un;PW.imp (zZ d c) λ_ _ _ h=>CT h⟩
def Fy(d:ZT X a fc)(c:ZW X (.BoolOp .Or (b::rest) pos) fd):ZW X (.BoolOp .Or (a::b::rest) pos) (c_ fc fd):=⟨have d:=d.un;have c:=c.un;PW.imp (z0 d c) λ_ _ _ h=>CU h⟩
def Fz(i:ZT X a fc):ZT X (.UnaryOp .Not a pos) (aZ fc):=⟨have i:=i.un;PT.imp (z1 i) λc H Q d=>by
 obtain⟨b,k,t,q,G,e,s,h⟩:=d;obtain⟨o,j,rfl⟩:=qc e
 exact tTof.at j s λm n l _=>h m n l⟩
def FC(d:ZE X a fa):ZE X (.BoolOp .And [a] pos) fa:=⟨have d:=d.un;om d⟩
def FD(d:ZE X a fa):ZE X (.BoolOp .Or [a] pos) fa:=⟨have d:=d.un;om d⟩
def FE(j:ZE X a fa)(c:ZE X (.BoolOp .And (b::rest) pos) fb):ZE X (.BoolOp .And (a::b::rest) pos) (b_ fa fb):=⟨have j:=j.un;have c:=c.un;PE.imp (z9 j c) λg H Q i=>by
 obtain⟨f,d,F,I,G,e,s,h⟩:=i;obtain⟨k,A,e⟩:=qa e;obtain⟨E,y,q⟩:=eB A;cases CV q
 refine tOf.at y s λv C m l t n=>⟨k,t,?_⟩
 cases k with
 | true=>
   exact tOf.at e n λw u B z o _=>h w u B (l.trans z) o
 | false=>
   cases e
   exact h _ C m l (by rw[Rp])⟩
def FG(j:ZE X a fa)(hb:ZE X (.BoolOp .Or (b::rest) pos) fb):ZE X (.BoolOp .Or (a::b::rest) pos) (kO fa fb):=⟨have j:=j.un;have hb:=hb.un;PE.imp (z_ j hb) λσ H Q i=>by
 obtain⟨ρ,d,F,I,G,e,s,h⟩:=i;obtain⟨k,A,e⟩:=qa e;obtain⟨E,y,q⟩:=eB A;cases CV q
 refine tOf.at y s λv C m l t n=>⟨k,t,?_⟩
 cases k with
 | false=>
   exact tOf.at e n λw u B z o _=>h w u B (l.trans z) o
 | true=>
   cases e
   exact h _ C m l (by rw[Rp])⟩
def qQ(j:ZE X a fa):ZE X (.UnaryOp .Not a pos) (gq fa):=⟨have j:=j.un;PE.imp (Aa j) λc H Q i=>by
 obtain⟨b,d,y,B,G,e,s,h⟩:=i;obtain⟨k,u,rfl⟩:=qc e;obtain⟨A,q,m⟩:=eB u;cases CV m
 exact tOf.at q s λv t l n o z=>⟨k,o,h _ t l n (by rw[Rp])⟩⟩
def FH(m:ZT X c fc)(i:ZE X a fa)(f:ZE X b fb):ZE X (.IfExp c a b pos) (mR fc fa fb):=⟨have m:=m.un;have i:=i.un;have f:=f.un;PE.imp (Ab m i f) λp H Q q=>by
 obtain⟨g,d,y,B,G,e,s,h⟩:=q;obtain⟨k,v,e⟩:=qa e;refine tTof.at v s λz A u t=>?_
 cases k with
 | true=>
   exact tOf.at e t λw j n o l _=>h w j n (u.trans o) l
 | false=>
   exact tOf.at e t λw j n o l _=>h w j n (u.trans o) l⟩
def FI(d:ZC X a fa)(hb:ZC X b fb):ZE X (.Compare a [.Is] [b] pos) (mB (b2 fa fb (cc false))):=⟨have d:=d.un;have hb:=hb.un;g9 oz o_ d hb (fU _)⟩
def FJ(d:ZC X a fa)(c:ZC X b fb):ZE X (.Compare a [.IsNot] [b] pos) (mB (b2 fa fb (cc true))):=⟨have d:=d.un;have c:=c.un;g9 Nh Ob d c (fU _)⟩
def FK(d:ZC X a fa)(c:ZC X b fb):ZT X (.Compare a [.Is] [b] pos) (b2 fa fb (cc false)):=⟨have d:=d.un;have c:=c.un;fX oz o_ d c (fU _)⟩
def FL(d:ZC X a fa)(c:ZC X b fb):ZT X (.Compare a [.IsNot] [b] pos) (b2 fa fb (cc true)):=⟨have d:=d.un;have c:=c.un;fX Nh Ob d c (fU _)⟩
def lA(c:ZC X a fa)(d:ZC X b fb)(hs:kB b:=by intro _ _;rfl):ZE X (.Subscript a b pos) (b2 fa fb ai):=⟨pa c.un d.un hs⟩
def OS{lo A:Option Expr}(y:ZC X a fa)(k:ZO X lo fl)(o:ZO X A fh):ZF X (.Subscript a (.Slice lo A none p2) pos) (vX fa fl fh):=⟨have y:=y.un;have k:=k.un;have o:=o.un;
 PE.imp (NH NK y k o) λD H Q m=>by
  obtain⟨c,l,f,U,G,e,s,h⟩:=m;obtain⟨W,L,e⟩:=qa e;obtain⟨i,O,e⟩:=qa e;obtain⟨j,F,e⟩:=qa e;cases e;obtain⟨d,J,S⟩:=eB L;refine tCof.at J s λv w Y B R E=>iJ O E λZ r t M=>iJ F M λx I u C=>?_;obtain⟨p,b,rfl,g,z⟩:=Oc S ((R.grow t).grow u);refine⟨p,b,rfl,g,λq n=>h q _ _ I (((B.trans t).trans u).trans (.hid C.seen n _)) (B.h.free (t.h.free (u.h.free n))) (C.seen.free n) Yh ?_⟩;unfold bN eL;rw[z.length]
  exact(z.drop _).take _⟩
def qR :ZO X none none:=⟨CY⟩
def qS(h:ZC X e f):ZO X (some e) (some f):=⟨have h:=h.un;BS h⟩
def gL{g:AV}(h:ZF X e g):ZE X e (lF g):=⟨MF.me h.un⟩
def fv :ZA X [] ae:=⟨kQ⟩
def dj(d:ZE X e f)(h:ZA X es ga)(hs:aac X e es:=by rfl):ZA X (e::es) (Yb f ga):=⟨CZ d.un h.un hs⟩
def eE :jM X [] ae:=⟨jC⟩
def ew(d:ZC X e f)(h:jM X es ga)(hs:aac X e es:=by rfl):jM X (e::es) (Yb f ga):=⟨jD d.un h.un hs⟩
theorem h8{x1}(h:ZA X es ga):ZE X (.Tuple es x1 pos) (av ga):=⟨have h:=h.un;PE.imp (Bt h) λb H Q i=>by
 obtain⟨c,d,u,t,G,e,s,h⟩:=i;obtain⟨l,n,e⟩:=qa e
 split at e
 .cases e
  exact tAof.at n s λa q v o j k=>⟨by rw[j.length];exact hC (by assumption),λp m=>h _ _ _ (o.trans (.new k.seen m _)) (⟨p,a,rfl,Yh,j.mono (Gr.new k.seen m _).g⟩)⟩
 .cases e⟩
def qT(h:ZA X es ga):ZF X (.List es pos) (bC ga):=⟨pb h.un⟩
theorem lB(l:dD X (.builtin id) r)(q:dH X.K r g)(m:Gl X x)(n:X.mg x=none)(k:bootBuiltins x=some (.builtin id))(j:jM X (e::es) ga)(o:x≠"__name__":=by decide)(d:du x:=by decide)(s:aac X e es:=by rfl)(i:aad X pos es:=by rfl):ZE X (.Call (.Name x p) (e::es) [] pos) (cC ga g):=⟨have j:=j.un;
 PE.imp (oE l m n k j o d s i) λ_ _ _ h=>pd q h⟩
theorem lC(l:dD X (.builtin id) r)(q:eO X.K r gf)(m:Gl X x)(n:X.mg x=none)(k:bootBuiltins x=some (.builtin id))(j:jM X (e::es) ga)(o:x≠"__name__":=by decide)(d:du x:=by decide)(s:aac X e es:=by rfl)(i:aad X pos es:=by rfl):ZF X (.Call (.Name x p) (e::es) [] pos) (cF ga gf):=⟨have j:=j.un;
 PE.imp (oE l m n k j o d s i) λ_ _ _ h=>pe q h⟩
theorem iS(l:dD X (.type T) r)(q:dH X.K r g)(m:Gl X x)(n:X.mg x=none)(k:bootBuiltins x=some (.type T))(j:jM X (e::es) ga)(o:x≠"__name__":=by decide)(d:du x:=by decide)(s:aac X e es:=by rfl)(i:aad X pos es:=by rfl):ZE X (.Call (.Name x p) (e::es) [] pos) (cC ga g):=⟨have j:=j.un;
 PE.imp (jx l m n k j o d s i) λ_ _ _ h=>pd q h⟩
theorem OT(l:dD X (.type T) r)(q:eO X.K r gf)(m:Gl X x)(n:X.mg x=none)(k:bootBuiltins x=some (.type T))(j:jM X (e::es) ga)(o:x≠"__name__":=by decide)(d:du x:=by decide)(s:aac X e es:=by rfl)(i:aad X pos es:=by rfl):ZF X (.Call (.Name x p) (e::es) [] pos) (cF ga gf):=⟨have j:=j.un;
 PE.imp (jx l m n k j o d s i) λ_ _ _ h=>pe q h⟩
def iT :ZB X [] au:=⟨C5⟩
def eX(l:ZS X st fs)(m:ZB X sts gs):ZB X (st::sts) (ag fs gs):=⟨have l:=l.un;have m:=m.un;PSs.imp (Ag l m) λF r H n=>by
 obtain⟨b,c,i,j,G,e,s,h⟩:=n;obtain⟨o,k,e⟩:=qa e
 cases o with
 | nx a=>exact⟨b,.nx a,i,j,G,k,s,λf q p g=>⟨a,c,i,j,p,e,g,h⟩⟩
 | rt d=>cases e;exact⟨b,.rt d,i,j,G,k,s,h⟩
 | bk a=>cases e;exact⟨b,.bk a,i,j,G,k,s,h⟩
 | ct a=>cases e;exact⟨b,.ct a,i,j,G,k,s,h⟩⟩
def f6(d:ZS X st fs):ZB X [st] fs:=⟨have d:=d.un;Ah d⟩
def qU(i:AE)(h:ZS X st fs):ZS X st (wF i fs):=⟨have h:=h.un;PS.imp h λF g H d=>by
 obtain⟨b,a,k,j,G,e,s,h⟩:=d;obtain⟨f,c⟩:=SR.frz i s
 exact⟨frz i b,a,k,j,f,e,c,h⟩⟩
theorem qV(i:Nat)(a:X.N.Nodup)(g:ZE X e f)(c:X.N[i]?=some x:=by rfl)(b:c8 X.env.scope x:=by trivial)(hs:swapsWith e (some (.Name x pos')) pos.line X.env=pure false:=by rfl)(d:aaf X x:=by trivial):ZS X (.Assign [.Name x pos'] e pos) (ar i f):=⟨pj i a g.un c b hs d⟩
theorem FM(i:Nat)(j:X.N.Nodup)(d:ZF X e gl)(k:X.N[i]?=some x:=by rfl)(m:c8 X.env.scope x:=by trivial)(hs:swapsWith e (some (.Name x pos')) pos.line X.env=pure false:=by rfl)(l:aaf X x:=by trivial):ZS X (.Assign [.Name x pos'] e pos) (bf i gl):=⟨have d:=d.un;PS.imp (mJ j k m d hs l) λ_ _ _ h=>C7 h⟩
def jP(j:ZE X e f):ZS X (.Return (some e) pos) (ah f):=⟨have j:=j.un;PS.imp (Al j) λF c H i=>by
 obtain⟨b,a,q,u,G,e,s,h⟩:=i;obtain⟨d,l,rfl⟩:=qc e
 exact tOf.at l s λv o k t n m=>h v o k m.gr n⟩
def iU{a b:List Stmt}(d:ZT X c fc)(i:ZB X a fs)(g:ZB X b gs):ZS X (.If c a b pos) (aM fc fs gs):=⟨have d:=d.un;have i:=i.un;have g:=g.un;PS.imp (An d i g) λF r H j=>by
 obtain⟨p,f,l,n,G,e,s,h⟩:=j;obtain⟨k,q,e⟩:=qa e;refine tTof.at q s λt o u m=>?_
 cases k with
 | true=>
   exact⟨p,f,l,n,o,e,m,h⟩
 | false=>
   exact⟨p,f,l,n,o,e,m,h⟩⟩
theorem FN(i:Nat)(d:X.N.Nodup)(a:ZC X e f)(m:X.N[i]?=some x:=by rfl)(w:c8 X.env.scope x:=by trivial)(I:X.fn x=true\/X.env.scope.names.lookup x=some .local:=by trivial):ZS X (.AugAssign (.Name x pos') .Add e pos) (kU i f):=⟨have a:=a.un;PS.imp (Ax d m w a Ay) λF E H b=>by
 obtain⟨K,A,D,L,G,e,s,h⟩:=b;obtain⟨c,n,e⟩:=qa e;obtain⟨o,C,e⟩:=qa e;obtain⟨y,g,rfl⟩:=qc e;obtain⟨v,j,B⟩:=s.sh i c (N9 n);refine⟨v,j,tCof.at C s λu z t J k r=>?_⟩
 have l:∃p q,c=.int p/\o=.int q/\y=.int (p+q):=by
  unfold i2 at g;grind
 obtain⟨p,q,rfl,rfl,rfl⟩:=l
 exact⟨p,q,B,k,h _ z t (r.set_sh i (by rw[Rp]))⟩⟩
abbrev wM(X:Cx)(c:Pos)(l:AK):Prop:=((backTo c (starEach l X.env)).all (λx=>!x.1)&&(backToKw c (keywordEach [] X.env)).all (λx=>x.1.isSome)&&decide (l.length+([]:List Keyword).length+(if ([]:List Keyword).isEmpty then 0 else 1)<30))=true
theorem OU(i:Nat){o k j:Pos}(y:ZE X e f)(W:X.N[i]?=some x:=by rfl)(S:g0 X.env.scope x:=by trivial)(Q:du x:=by decide)(A:ju x:=by decide)(z:swapsWith (.Call (.Attribute (.Name x o) "append" k) [e] [] j) none pos.line X.env=pure false:=by rfl)(hs:aae X e:=by rfl)(q:wM X j [e]:=by rfl)(n:(k.endLine==j.line)=true:=by rfl)(m:attributeBase (.Name x o) "append" X.env (eval (.Name x o) X.env)=eval (.Name x o) X.env:=by rfl):ZS X (.Expr (.Call (.Attribute (.Name x o) "append" k) [e] [] j) pos) (dg i f cf):=⟨have y:=y.un;
 PS.imp (Aj (iB PySem.F.plainAttrs_list PySem.F.slot_list_append PySem.F.type_list_append NM (kh W S Q A) (g8 y ir hs) m q n hs rfl) z) λF g H u=>by
  obtain⟨K,p,D,r,G,e,s,h⟩:=u;obtain⟨l,C,e⟩:=qa e;obtain⟨d,R,e⟩:=qa e;obtain⟨w,t,rfl⟩:=qc e;unfold cf at t
  split at t
  .rename_i U
   cases t;obtain⟨a,c,E,I,B,Y⟩:=pk s C;refine⟨_,E,.inl ⟨rfl,c,.of I⟩,tOf.at R s λv Z O J M L=>⟨a,c,v,rfl,rfl,J.h _ _ I,?_,h g _ O (L.mut (CF C) E ((B.mono J.g).append (.one M)))⟩⟩;rw[B.length];exact Qi U (hC (qv _))
  .cases t⟩
theorem wN(C:ZE X l f):ZI X tg l (b1 f Yc):=⟨have C:=C.un;PI.imp (C9 C) λK H R F=>by
 obtain⟨D,N,Q,S,G,e,s,h⟩:=F;obtain⟨c,M,O⟩:=eB e;refine tOf.at M s λv B o z A E=>?_;rcases iG O with rfl|rfl|⟨w,rfl,rfl⟩
 .obtain⟨p,r,rfl,g,j⟩:=A
  refine⟨p,r,rfl,.inr ⟨.inl (.inl (E.seen _ _ g)),λu=>h _ B o z (gu (by rwa [<-j.length]) λi L J a b=>⟨λd n=>?_,λt=>⟨r,.inl (.inl (b _ _ (a _ _ g))),by rwa [j.length]⟩⟩)⟩⟩;obtain⟨x,k,m⟩:=j.get n;refine⟨⟨r,x,.inl (.inl (b _ _ (a _ _ g))),k⟩,λy I q=>⟨q.1,?_⟩⟩;have:=q.2 r (.inl (.inl (b _ _ (a _ _ g))));rw[k]at this;cases this;exact m.mono a
 .obtain⟨p,r,rfl,g,j⟩:=A
  refine⟨p,r,rfl,.inl ⟨.inl (dW E.seen g),λu=>h _ B o z (gu (by rwa [<-j.length]) λi L J a b=>⟨λd n=>?_,λt=>⟨r,.inl (dW b (dW a g)),by rwa [j.length]⟩⟩)⟩⟩;obtain⟨x,k,m⟩:=j.get n;refine⟨⟨r,x,.inl (dW b (dW a g)),k⟩,λy I q=>⟨q.1,?_⟩⟩;have:=q.2 r (.inl (dW b (dW a g)));rw[k]at this;cases this;exact m.mono a
 .obtain⟨p,rfl,g⟩:=A
  have j:RpL X.K o _ _:=.ints w;refine⟨p,_,rfl,.inl ⟨E.seen.seq g,λu=>h _ B o z (gu (by ext) λi L J a b=>⟨λd n=>?_,λt=>⟨_,b.seq (a.seq g),by ext⟩⟩)⟩⟩;obtain⟨x,k,m⟩:=j.get n;refine⟨⟨_,x,b.seq (a.seq g),k⟩,λy I q=>⟨q.1,?_⟩⟩;have:=q.2 _ (b.seq (a.seq g));rw[k]at this;cases this
  exact m.mono a⟩
theorem FO(q:Gl X "range")(z:X.mg "range"=none)(i:ZA X [a] ga)(hs:aae X a:=by rfl):ZI X tg (.Call (.Name "range" p) [a] [] pos) (cF ga di):=⟨have i:=i.un;
 PI.imp (S7 q z i hs) λg H R d=>by
  obtain⟨b,c,F,E,G,e,s,h⟩:=d;obtain⟨l,t,y⟩:=qa e;refine tAof.at t s λf k j o u C=>?_;obtain⟨n,rfl,A,B,rfl⟩:=C_ y;obtain⟨v,rfl,m⟩:=kR u;subst m;have:=h _ k j o (pq (hC (by unfold aA;ext)))
  ext<;>ac_nf⟩
theorem UT(v:Gl X "range")(A:X.mg "range"=none)(i:ZA X [a,b] ga)(hs:starEach [a,b] X.env=[(false,eval a X.env),(false,eval b X.env)]:=by rfl)(d:aae X b:=by rfl):ZI X tg (.Call (.Name "range" p) [a,b] [] pos) (cF ga eS):=⟨have i:=i.un;
 PI.imp (S8 v A i hs d) λw H R k=>by
  obtain⟨c,f,J,I,G,e,s,h⟩:=k;obtain⟨l,u,m⟩:=qa e;refine tAof.at u s λg o z t j L=>?_;obtain⟨a,n,rfl,E,M,F,C,rfl⟩:=Da m;obtain⟨x,r,rfl,q,j⟩:=j;obtain⟨y,rfl,B⟩:=kR j;subst q B
  exact⟨a,n,rfl,⟨by ac_nf,by ac_nf,by ac_nf,by ac_nf⟩,h _ o z t (pq (Qg (by ext<;>lia:(n-a).toNat<=2000000) (by decide)))⟩⟩
theorem ni(i:Nat)(m:X.N.Nodup)(l:X.N[i]?=some x:=by rfl)(n:c8 X.env.scope x:=by trivial)(k:aaf X x:=by trivial):ZG X (.Name x pos) (aj i):=⟨
 PG.imp (mI m l n k) λv c H Q j=>by
  obtain⟨d,b,a,q,o,G,e,s,r,h⟩:=j;cases e
  exact h _ (s.set_sh i r)⟩
theorem OV(i j:Nat){x y:Str}{px B:Pos}{k:Nat}(E:X.calm=true)(q:X.N.Nodup)(I:X.N[i]?=some x:=by rfl)(C:X.N[j]?=some y:=by rfl)(z:c8 X.env.scope x:=by trivial)(t:c8 X.env.scope y:=by trivial)(A:aaf X x:=by trivial)(n:aaf X y:=by trivial):ZG X (.Tuple [.Name x px,.Name y B] k pos) (fD i j):=⟨
 PG.imp (As (n:=2) E (ou (mI q I z A) (ou (mI q C t n) Nb))) λv M H Q o=>by
  obtain⟨d,f,c,J,L,G,e,s,r,h⟩:=o
  match d,e,r with
  | .tup [a,b],e,r=>
    cases e;obtain⟨p,D,rfl,g,l⟩:=r;obtain⟨u,K,rfl,F,l⟩:=l;obtain⟨w,rfl,m⟩:=kR l
    exact⟨p,[u,w],rfl,.inl (.inl (s.seen _ _ g)),rfl,u,[w],rfl,w,[],rfl,rfl,h _ ((s.set_sh i F).set_sh j m)⟩⟩
theorem qW(K:PassesOwn (mZ X.prog X.w) X.A X.env X.xe)(hc:X.calm=true)(O:ZI X tg iter gl)(R:ZG X tg gt)(w:ZB X C fs)(hs:∀x,foldedSetIterable iter X.env x=pure x:=by intro _;rfl):ZS X (.For tg iter C [] pos) (bq gl gt fs):=⟨have O:=O.un;have R:=R.un;have w:=w.un;
 PS.imp (A0 K hc O R w hs) λF σ H Q=>by
  obtain⟨D,p,H0,G0,G,e,s,h⟩:=Q;obtain⟨c,N,h2⟩:=qa e;refine⟨D,c,H0,G0,G,N,s,λJ H1 E g1 wk=>?_⟩;obtain⟨M,Z,k⟩:=(s.grow g1).rebase;refine⟨λi m b f=>m=c.length-i/\i<=c.length/\∃a g,SR X.K M E b f g a/\forM gt fs (c.drop i) a=some p,⟨_,rfl,Qh _,D,E,Z,h2⟩,?_⟩;rintro i m b f ⟨rfl,O,a,g,r,j⟩;have W:=wk.2 i f g r.gr.g r.seen;by_cases u:i<c.length
  .obtain⟨go,T⟩:=W.1 _ (qr u)
   rw[List.drop_eq_getElem_cons u]at j;obtain⟨L,e1,j⟩:=qa j;obtain⟨o,e2,j⟩:=qa j;refine .inr ⟨go,λb f=>i+1<=c.length/\∃a g,SR X.K M E b f g a/\forM gt fs _ a=some p,λY U q=>⟨c.length-(i+1),by symm,rfl,q.1,q.2⟩,λx U y=>?_⟩;obtain⟨S,g2,r2⟩:=T x U y;refine⟨_,a,L,M,E,S,e1,r.grow g2,r2,λσ3 s3=>⟨L,o,M,E,S,e2,s3,?_⟩⟩
   cases o with
   | nx n=>exact λA B z I=>⟨u,n,z,I,j⟩
   | ct n=>exact λA B z I=>⟨u,n,z,I,j⟩
   | bk n=>
     cases j;exact λA B z I=>h A B z (k _ _ _ _ I)
   | rt d=>
     cases j;refine λv B z g4 V=>h v B z ?_ V;have:=(k [] B z [] (.mkSh g4 rfl (λi d e=>by simp at e) (λi l e=>by simp at e) (λi t ks vs e=>by simp at e))).gr;exact this
  .have ei:i=c.length:=by ac_nf
   subst ei;rw[List.drop_length]at j;cases j
   exact .inl ⟨W.2 (qv _),h b f g (k _ _ _ _ r)⟩⟩
def FP(n:Nat)(M:PassesOwn (mZ X.prog X.w) X.A X.env X.xe)(u:ZT X c fc)(y:ZB X j fs):ZS X (.While c j [] pos) (dw fc fs n):=⟨have u:=u.un;have y:=y.un;
 PS.imp (AI M u y) λF N H w=>by
  obtain⟨D,i,t,z,G,e,s,h⟩:=w;refine⟨λm b p=>∃a l,SR X.K t z b p l a/\dw fc fs m a=some i,⟨n,D,G,s,e⟩,?_⟩;rintro m b p ⟨a,l,K,f⟩
  cases m with
  | zero=>cases f
  | succ m=>
    obtain⟨k,C,f⟩:=qa f;refine tTof.at C K λJ B O A=>?_
    cases k with
    | false=>
      cases f;exact h b J B A
    | true=>
      obtain⟨o,L,f⟩:=qa f;refine⟨λb p=>∃a l,SR X.K t z b p l a/\dw fc fs m a=some i,λE Q q=>⟨m,Qa m,q⟩,⟨a,o,t,z,B,L,A,?_⟩⟩
      cases o with
      | nx g=>exact λr I x v=>⟨g,x,v,f⟩
      | ct g=>exact λr I x v=>⟨g,x,v,f⟩
      | bk g=>cases f;exact h
      | rt d=>cases f;exact h⟩
def qX :gK X X.K [] tY:=⟨Df⟩
def qY(S:fW X.N X.env.scope N src scope)(o:X.calm=true)(l:ZI X tg iter gl)(m:∀h C i s H,ZG (cN X scope N h C i s H) tg gt)(q:∀h C i s H,gK (cN X scope N h C i s H) X.K ifs fc)(n:∀h C i s H,ZE (cN X scope N h C i s H) elt fe)(k:∀ρ d j,gt d (ao src ρ)=some j->Le (ao src ρ) j)(hs:∀x,foldedSetIterable iter X.env x=pure x:=by intro _;rfl):ZF X (.ListComp elt [⟨tg,iter,ifs,0⟩] scope pos) (Yw gl src gt fc fe):=⟨Dh S o l.un (λh C i s H=>(m h C i s H).un) (λh C i s H=>(q h C i s H).un) (λh C i s H=>(n h C i s H).un) k hs⟩
theorem FQ(i:Nat){q k:Pos}(F:X.N.Nodup)(S:fW X.N X.env.scope N src scope)(v:X.calm=true)(n:ZI X tg iter gl)(z:∀j C h s H,ZG (cN X scope N j C h s H) tg gt)(B:∀j C h s H,gK (cN X scope N j C h s H) X.K ifs fc)(A:∀j C h s H,ZE (cN X scope N j C h s H) elt fe)(o:∀ρ d l,gt d (ao src ρ)=some l->Le (ao src ρ) l)(m:swapsWith (.ListComp elt [⟨tg,iter,ifs,0⟩] scope pos) (some (.Name y q)) k.line X.env=pure true:=by rfl)(u:X.N[i]?=some y:=by rfl)(t:c8 X.env.scope y:=by trivial)(E:aaf X y:=by trivial)(hs:∀x,foldedSetIterable iter X.env x=pure x:=by intro _;rfl):ZS X (.Assign [.Name y q] (.ListComp elt [⟨tg,iter,ifs,0⟩] scope pos) k) (bf i (Yw gl src gt fc fe)):=⟨Di i F S v n.un (λj C h s H=>(z j C h s H).un) (λj C h s H=>(B j C h s H).un) (λj C h s H=>(A j C h s H).un) o m u t E hs⟩
def OW{f:Addr}{fd:FuncData}{fb:AR}(F:Fun K x i st f fd)(S:fV N ps (aFa st))(l:N.length=n)(o:ps.length=m)(b:∀(h:Value) (A:Around) (d:List Env) (s:Shared) (H:Hp) (E:XK),Room k (A.deeper (envOfC i (aFa st) (~~~s) f h))->ZB (cW dS P w K mg base N i (aFa st) f h A d s H E).nox (aHa st) fb):cA P w K mg base dS (k+1) f fd ps (de K m (ak m n fb)):=Dj F S l o (λh A d s H E j=>(b h A d s H E j).un)
theorem FR(c:aB X.prog X.w X.K X.mg X.base j n x ps v)(s:Room k X.A)(q:Gl X x)(h:ZA X (e::es) ga)(u:∀ρ l,ga ρ=some l->l.length=n)(o:j<=k:=by first|exact qv _|ac_nf)(d:du x:=by decide)(m:aac X e es:=by rfl)(i:aad X pos es:=by rfl):ZE X (.Call (.Name x p) (e::es) [] pos) (cC ga v):=⟨have h:=h.un;by
 obtain⟨a,g,F,b,t,y⟩:=c
 exact C0 F (s.mono o) q y t b h d m i u⟩
def wO(d:ZC X a fa)(c:ZC X b fb):ZE X (.BinOp a .Add b pos) (b2 fa fb dJ):=⟨have d:=d.un;have c:=c.un;mP A7 o4 d c⟩
def FS(j:ZC X a fa):ZE X (.UnaryOp .USub a pos) (b1 fa bE):=⟨have j:=j.un;PE.imp (A5 Bc j) λc H Q i=>by
 obtain⟨b,d,u,y,G,e,s,h⟩:=i;obtain⟨x,o,k⟩:=eB e;refine tCof.at o s λv n l q m t=>?_;cases x<;>simp[bE]at k;subst k
 exact⟨_,m,h _ n l q (by rw[Rp])⟩⟩
def FT(n:ZC X a fa)(c:ZC X b fb):ZF X (.BinOp a .Add b pos) (b2 fa fb cu):=⟨have n:=n.un;have c:=c.un;PE.imp (iq Dm n c) λr H Q k=>by
 obtain⟨g,l,W,Z,G,e,s,h⟩:=k;obtain⟨R,S,L,J,d⟩:=oX e;refine tCof.at L s λv w Y z E A=>tCof.at J A λu U M j B y=>?_;unfold cu at d
 split at d
 .split at d
  .rename_i C
   cases d;obtain⟨p,f,rfl,F,t⟩:=E.grow j;obtain⟨q,O,rfl,I,o⟩:=B;exact⟨p,q,f,O,rfl,rfl,F,I,by rw[t.length,o.length];exact hC C,λm i=>h m _ _ M ((z.trans j).trans (.hid y.seen i _)) (z.h.free (j.h.free i)) (y.seen.free i) Yh (t.append o)⟩
  .cases d
 .cases d⟩
theorem wQ(A:ZC X a fa)(J:Gl X "isinstance")(t:Gl X i)(b:X.mg "isinstance"=none)(u:X.mg i=none)(y:bootBuiltins i=some (.type T))(I:mT T)(S:bootBuiltins "isinstance"=some (.builtin "isinstance"):=by decide +kernel)(o:i≠"__name__":=by decide)(q:(i==("__debug__":Str))=false:=by decide)(hs:starEach [a,.Name i j] X.env=(false,eval a X.env)::starEach [.Name i j] X.env:=by rfl)(B:starEach [.Name i j] X.env=(false,eval (.Name i j) X.env)::starEach [] X.env:=by rfl)(z:(backTo pos (starEach [.Name i j] X.env)).any (·.1)=false:=by rfl):ZE X (.Call (.Name "isinstance" p) [a,.Name i j] [] pos) (mB (b1 fa (cg T))):=⟨have A:=A.un;
 PE.imp (oE (Dt I) J b S (g8 A (g8 (zV t u y (v:=.ty T) rfl o q) ir B) hs) (by decide) (by decide) hs z) λc H Q n=>by
  obtain⟨f,d,U,Y,G,e,s,h⟩:=n;obtain⟨k,E,rfl⟩:=CJ e;obtain⟨x,O,m⟩:=eB E;unfold cg at m
  split at m
  .cases m
   exact tCof.at O s λv F C R L W=>⟨v,x,C,rfl,by assumption,L,h _ F C R (by rw[Rp])⟩
  .cases m⟩
theorem UU(W:Gl X "enumerate")(D:X.mg "enumerate"=none)(L:ZE X l f)(hs:aae X l:=by rfl):ZI X (.Tuple elts x1 pt) (.Call (.Name "enumerate" p) [l] [] pos) (b1 f gz):=⟨have L:=L.un;
 PI.imp (DH W D (CZ L kQ hs) hs) λσ H R F=>by
  obtain⟨V,ds,H0,G0,G,e,s,h⟩:=F;obtain⟨c,Y,K⟩:=eB e;obtain⟨l,N,rfl⟩:=qc K;refine tAof.at (show Yb f _ V=some [c] by simp[Yb,ae,Y]) s λvs C B J Z I=>?_;obtain⟨v,rfl,E⟩:=kR Z;rcases iG N with rfl|rfl|⟨T,rfl,rfl⟩
  .obtain⟨p,r,rfl,g,j⟩:=E
   refine⟨p,r,rfl,.inr ⟨.inl (.inl (I.seen _ _ g)),λo=>h _ C B J ⟨by rw[mY,<-j.length];exact o,λi U O b a=>⟨λd A=>?_,λt=>⟨r,.inl (.inl (a _ _ (b _ _ g))),by rw[j.length,<-mY l];exact t⟩⟩⟩⟩⟩;obtain⟨w,k,rfl⟩:=DI A;obtain⟨x,m,u⟩:=j.get k;refine⟨⟨r,x,.inl (.inl (a _ _ (b _ _ g))),m⟩,λy Q q=>?_⟩;obtain⟨M,S,z,n,rfl,rfl⟩:=q;have:=z r (.inl (.inl (a _ _ (b _ _ g))));rw[m]at this;cases this;exact Gr.newTup a n i (u.mono b)
  .obtain⟨p,r,rfl,g,j⟩:=E
   refine⟨p,r,rfl,.inl ⟨.inl (dW I.seen g),λo=>h _ C B J ⟨by rw[mY,<-j.length];exact o,λi U O b a=>⟨λd A=>?_,λt=>⟨r,.inl (dW a (dW b g)),by rw[j.length,<-mY l];exact t⟩⟩⟩⟩⟩;obtain⟨w,k,rfl⟩:=DI A;obtain⟨x,m,u⟩:=j.get k;refine⟨⟨r,x,.inl (dW a (dW b g)),m⟩,λy Q q=>?_⟩;obtain⟨M,S,z,n,rfl,rfl⟩:=q;have:=z r (.inl (dW a (dW b g)));rw[m]at this;cases this;exact Gr.newTup a n i (u.mono b)
  .obtain⟨p,rfl,g⟩:=E
   have j:RpL X.K B _ _:=.ints T;refine⟨p,_,rfl,.inl ⟨I.seen.seq g,λo=>h _ C B J ⟨by rw[mY,<-j.length];exact o,λi U O b a=>⟨λd A=>?_,λt=>⟨_,a.seq (b.seq g),by rw[j.length,<-mY];exact t⟩⟩⟩⟩⟩;obtain⟨w,k,rfl⟩:=DI A;obtain⟨x,m,u⟩:=j.get k;refine⟨⟨_,x,a.seq (b.seq g),m⟩,λy Q q=>?_⟩;obtain⟨M,S,z,n,rfl,rfl⟩:=q;have:=z _ (a.seq (b.seq g));rw[m]at this;cases this
   exact Gr.newTup a n i (u.mono b)⟩
theorem UV(u:X.calm=true)(w:Gl X "tuple")(l:X.mg "tuple"=none)(b:Gl X "reversed")(j:X.mg "reversed"=none)(i:ZC X e f)(hs:aae X e:=by rfl)(z:starEach [.Call (.Name "reversed" p2) [e] [] pos2] X.env=[(false,eval (.Call (.Name "reversed" p2) [e] [] pos2) X.env)]:=by rfl):ZE X (.Call (.Name "tuple" p) [.Call (.Name "reversed" p2) [e] [] pos2] [] pos) (λρ=>(k8 f ρ).map D.tup):=⟨have i:=i.un;
 PE.imp (DS u w l b j (jD i jC hs) hs z) λJ H Q c=>by
  obtain⟨ρ,I,M,O,G,e,s,h⟩:=c;obtain⟨N,y,rfl⟩:=qc e;obtain⟨F,t,rfl⟩:=qc y;obtain⟨d,A,x⟩:=eB t;refine tCAof.at (show Yb f _ ρ=some [d] by simp[Yb,ae,A]) s λL K E C o k=>?_;obtain⟨v,rfl,n⟩:=eC o;obtain⟨q,r,rfl,g,B⟩:=Oc x n
  exact⟨q,r,rfl,g,λm a=>h _ _ _ (C.trans (.new k.seen a _)) (⟨m,_,rfl,Yh,B.reverse.mono (Gr.new k.seen a _).g⟩)⟩⟩
theorem UW(i:Nat){t k j:Pos}(z:ZE X e f)(r:X.N[i]?=some x:=by rfl)(U:g0 X.env.scope x:=by trivial)(W:du x:=by decide)(A:ju x:=by decide)(u:swapsWith (.Call (.Attribute (.Name x t) "extend" k) [e] [] j) none pos.line X.env=pure false:=by rfl)(hs:aae X e:=by rfl)(q:wM X j [e]:=by rfl)(n:(k.endLine==j.line)=true:=by rfl)(m:attributeBase (.Name x t) "extend" X.env (eval (.Name x t) X.env)=eval (.Name x t) X.env:=by rfl):ZS X (.Expr (.Call (.Attribute (.Name x t) "extend" k) [e] [] j) pos) (dg i f gA):=⟨have z:=z.un;
 PS.imp (Aj (iB PySem.F.plainAttrs_list PySem.F.slot_list_extend PySem.F.type_list_extend DU (kh r U W A) (g8 z ir hs) m q n hs rfl) u) λF p H y=>by
  obtain⟨V,w,T,D,G,e,s,h⟩:=y;obtain⟨l,C,e⟩:=qa e;obtain⟨d,Q,e⟩:=qa e;obtain⟨N,o,rfl⟩:=qc e;unfold gA at o
  split at o
  .split at o
   .rename_i Y
    cases o;obtain⟨a,g,L,B,I,K⟩:=pk s C;refine⟨_,L,.inl ⟨rfl,g,.of B⟩,tOf.at Q s λv H1 S M R J=>?_⟩;obtain⟨b,Z,rfl,O,E⟩:=R;refine⟨a,b,g,Z,rfl,rfl,M.h _ _ B,dW J.seen O,?_,h p _ S (J.mut (CF C) L ((I.mono M.g).append E))⟩;rw[I.length,E.length];exact hC Y
   .cases o
  .cases o⟩
theorem FU(g:GD X.K X.w X.mg x j)(J:Gl X x)(z:ZC X ke fk)(hs:iy ke:=by intro _ _;rfl)(Y:du x:=by decide):ZE X (.Subscript (.Name x px) ke pos) (b1 fk (iK j)):=⟨have z:=z.un;by
 obtain⟨p,o,c,M,K,L,A,n,i⟩:=g;intro b s T H Q I ⟨ρ,d,H0,V,G,e,D,h⟩;obtain⟨dk,W,l⟩:=eB e;refine Nv PySem.F.slot_dict_getitem.lookup hs (M9 I J K (aL (z _ s T H (λR f=>∃k r,R=.str k/\j.lookup k=some r/\Q (.str r) f) I (tCof.at W D λv U O N F s1=>?_)) λiv s2 S=>?_) Y)
 .unfold iK at l
  split at l
  .rename_i k
   obtain⟨r,m,rfl⟩:=qc l;exact⟨k,r,F.1,m,h _ U O N (⟨rfl,pL i m⟩)⟩
  .cases l
 .obtain⟨y,Z,C,E,k,r,rfl,m,q⟩:=S
  obtain⟨t,rfl⟩:=E;have B:=C.kIn p o L;obtain⟨e',w,f1,f2⟩:=pJ (P:=X.prog) i m;refine⟨⟨o,B,A.1⟩,wpAny_getItem_of (knd:=PySem.strKind _ X.w) (k:=k) (by simp[PySem.strKind,Value.isStrOf]) ⟨o,c,M,B,A,n,?_,λ_=>rfl⟩ ?_ ⟨.str r,Z,C.tok _,⟨w,rfl⟩,q⟩⟩
  .intro u he
   exact pK i u ⋯
  .show(c.find? _).map _=_
   ext⟩
def FV{X:Cx}{pos:Pos}:ZP X pos [] [] [] []:=⟨DW⟩
theorem OX{X:Cx}{pos e:Pos}{x:Str}{j:Nat}{v:Expr}{f:AU}{b:List (Option Expr)}{a:AK}{ks:AJ}{fs:List AU}(d:ZE X v f)(c:ZP X pos b a ks fs):ZP X pos (some (.Constant (.str x) j e)::b) (v::a) (x::ks) (f::fs):=⟨have d:=d.un;have c:=c.un;⟨by simp[c.len],Nz DV d c.pps,by simpa using c.all,by simp[c.kv],by simp[c.kk]⟩⟩
theorem FW(hu:X.A.units+64<cLine){j:List (Option Expr)}{c:AK}(ks:AJ)(fs:List AU)(hn:ks.Nodup)(r:ks.length<=15)(h0:ks≠[])(g:ZP X dpos j c ks fs)(t:ZC X ke fk)(hs:iy ke:=by intro _ _;rfl):ZE X (.Subscript (.Dict j c dpos) ke pos) (k9 ks fs fk):=⟨have g:=g.un;have t:=t.un;
 PE.imp (BF ∅ (BJ g.pps g.all g.kv (λz=>h0 (List.eq_nil_of_length_eq_zero (by rw[<-g.kk,z];rfl))) (by rw[g.kk];exact r)) t hs) λσ H Q y=>by
  obtain⟨Y,d,H0,G0,G,e,s,h⟩:=y;obtain⟨q,F,e⟩:=qa e;obtain⟨dk,V,e⟩:=qa e;intro p m;have A:Gr H G (upd H p (.dK [])) G:=.hid s.seen m _;refine Ov g.len F (s.grow A) λo S N w B=>?_
  have E:o.length=ks.length:=by
   rw[B.length,g.len]
   have:∀(fs:_) (q:_),vZ fs Y=some q->q.length=fs.length:=λfs=>by
    induction fs with
    | nil=>intro q h;cases h;rfl
    | cons f fs M=>
      intro q h;obtain⟨d,_,h⟩:=qa h;obtain⟨l,I,rfl⟩:=qc h;simp[M l I]
   exact this fs q F
  refine⟨w.h _ _ Yh,(ks.map .inr).zip o,?_,by simp[E];exact r,?_⟩
  .apply List.ext_getElem
   .simp
   .intro i I Z
    simp[kV]
  .have n:(((ks.map .inr:List bp).zip o).map _)=_:=List.map_fst_zip (by simp[E])
   have R:iA [] ((ks.map .inr).zip o)=(ks.map .inr).zip o:=by
    rw[Ow (by rw[n];exact .map _ (λa b h z=>h (Sum.inr.inj z)) hn) λk _=>rfl];rfl
   rw[R];have U:=vR w Yh (s.seen.free m);have C:Gr H G (upd S p (.dK ((ks.map .inr).zip o))) N:=(A.trans w).updHid m U _;refine tCof.at V (s.grow C) λv O K u L s4=>?_
   split at e
   .rename_i k
    obtain⟨rfl,_⟩:=L;obtain⟨x,J,T⟩:=(m4 k B).1 d e;refine⟨p,x,rfl,.inl ⟨_,.inr k,.inl (u.h _ _ Yh),rfl,?_⟩,h x O K (C.trans u) (T.mono u.g)⟩;rw[DX,J]
   .cases e⟩
def FX(e:X.A.units+64<cLine)(c:ZC X a fa)(d:ZC X b fb)(hs:kB b:=by intro _ _;rfl):ZE X (.Subscript a b pos) (b2 fa fb bV):=⟨have c:=c.un;have d:=d.un;kK (D1 e) D8 c d hs⟩
def FY(e:X.A.units+64<cLine)(c:ZC X a fa)(d:ZC X b fb)(f:behindInMarks .In b=false:=by with_unfolding_all rfl):ZE X (.Compare a [.In] [b] pos) (mB (b2 fa fb (cZ false))):=⟨have c:=c.un;have d:=d.un;g9 (pP e) D9 c d f⟩
def FZ(e:X.A.units+64<cLine)(c:ZC X a fa)(d:ZC X b fb)(f:behindInMarks .In b=false:=by with_unfolding_all rfl):ZT X (.Compare a [.In] [b] pos) (b2 fa fb (cZ false)):=⟨have c:=c.un;have d:=d.un;fX (pP e) D9 c d f⟩
def F0(e:X.A.units+64<cLine)(c:ZC X a fa)(d:ZC X b fb)(f:behindInMarks .NotIn b=false:=by with_unfolding_all rfl):ZT X (.Compare a [.NotIn] [b] pos) (b2 fa fb (cZ true)):=⟨have c:=c.un;have d:=d.un;fX (D4 e) D9 c d f⟩
theorem F3(hu:X.A.units+64<cLine)(i:Nat){p2 m:Pos}(E:ZC X ie fb)(L:ZE X e f)(hN:X.N[i]?=some x:=by rfl)(hv:g0 X.env.scope x:=by trivial)(hd:du x:=by decide)(N:ju x:=by decide)(A:∀v,assign (.Subscript (.Name x p2) ie m) X.env v=(do
 let w <-holding [v] (eval (.Name x p2) X.env)
 let B <-holding [v,w] (eval ie X.env)
 standAt m
 holding [v,w,B] (setItem w B v)
 release [v,w,B] []):=by intro _;rfl)(hs:swapsWithSole [.Subscript (.Name x p2) ie m] e pos.line X.env=pure false:=by rfl)(S:swappedStores [.Subscript (.Name x p2) ie m] e X.env=pure none:=by rfl)(M:(assignEach [.Subscript (.Name x p2) ie m] X.env).map (·.2)=[assign (.Subscript (.Name x p2) ie m) X.env]:=by rfl):ZS X (.Assign [.Subscript (.Name x p2) ie m] e pos) (iM i fb f):=⟨have E:=E.un;have L:=L.un;
 PS.imp (Av L (ov (kh hN hv hd N) E (D7 hu) A) hs S M) λF σ H I=>by
  obtain⟨ρ,out,H0,G0,G,e,s,h⟩:=I;obtain⟨d,M,e⟩:=qa e;obtain⟨l,h2,e⟩:=qa e;obtain⟨k,Z,e⟩:=qa e;obtain⟨l',c,rfl⟩:=qc e;obtain⟨kn,h5,c⟩:=qa c;obtain⟨z,O,c⟩:=qa c
  split at c
  case isFalse=>cases c
  rename_i t;have j:=Ul h2;refine tOf.at M s λv H1 G1 g1 r1 Q=>?_;obtain⟨a0,_,_,o,_⟩:=Q.od i _ _ _ j;refine⟨_,o,tCof.at Z Q λu H2 U g2 R D=>?_⟩;obtain⟨a,kxs,vxs,A,hG,hH0,Y,C,J⟩:=D.od i _ _ _ j;rw[o]at A;cases A;obtain⟨g,q,rfl,hk⟩:=lh D.seen Y;obtain⟨b,T,rfl,b1,b2',n⟩:=pM O R;have e:=v5 h5 C hk
  have K:vxs.length<aA:=by rw[J.length];exact t
  refine⟨a0,b,g,vxs,T,z,rfl,rfl,q,b1,n,K,λep=>?_⟩;have r:=r1.mono g2.g;injection c with c;subst e;refine h _ _ U (D.mutd j o (kxs:=(cQ g vxs z b v).1.map (λp=>V.ref p.2)) (vxs:=(cQ g vxs z b v).2) ?_ ?_ ?_)
  .refine .inr ⟨rfl,(cQ g vxs z b v).1,ep,Yh,?_,?_,rfl,?_⟩
   .unfold cQ
    split
    .rw[pI];exact q.len
    .simp[q.len]
   .unfold cQ
    split
    .exact q.nd
    .rw[wt,List.nodup_append]
     refine⟨q.nd,by simp,λx hx y hy z'=>?_⟩;grind
   .unfold cQ
    grind
  .rw[<-c]
   unfold cQ
   split
   .exact C
   .rw[wt]
    refine RpL.snoc ?_ C
    cases k with
    | tup l=>
      rw[Ct]at R;rw[Rp]
      ext
    | _=>cases O
  .rw[<-c]
   unfold cQ
   split
   .exact vY z r J
   .exact RpL.snoc r J⟩
theorem F4(O:X.A.units+64<cLine)(i:Nat){pos' dpos:Pos}(U:X.N.Nodup)(l:ZE X ke fk)(g:ZE X ve C)(K:X.N[i]?=some x:=by rfl)(L:c8 X.env.scope x:=by trivial)(hs:swapsWith (.Dict [some ke] [ve] dpos) (some (.Name x pos')) pos.line X.env=pure false:=by rfl)(B:aaf X x:=by trivial):ZS X (.Assign [.Name x pos'] (.Dict [some ke] [ve] dpos) pos) (ll i fk C):=⟨have l:=l.un;have g:=g.un;
 PS.imp (mJ U K L (Ec O (Nz l g Ny)) hs B) λF V H j=>by
  obtain⟨ρ,Q,H0,G0,G,e,s,h⟩:=j;obtain⟨k,J,e⟩:=qa e;obtain⟨v,N,e⟩:=qa e;obtain⟨n,M,rfl⟩:=qc e;intro p E f;have r:Gr H G (upd H p (ej p [] [] E)) G:=.hid s.seen f _;refine tOf.at J (s.grow r) λY Z G1 m y A=>tOf.at N A λu R t c z s2=>?_;have o:=vR (m.trans c) Yh (s.seen.free f);have d:=y.mono c.g;obtain⟨b,D,rfl,b1,S,I⟩:=pM M (.of c.s d);refine⟨(m.trans c).h _ _ Yh,b,D,n,u,rfl,b1,I,λa=>?_⟩;have T:Gr H G (upd R p (ej p [(n,b)] [u] a)) t:=(r.trans (m.trans c)).updHid f o _;refine h _ _ t (s.set_od i T f o (.inr ⟨rfl,[(n,b)],a,Yh,rfl,by simp,rfl,λq hq=>?_⟩) (.cons d .nil) (.cons z .nil))
  ext⟩
def F5{X:Cx}{es:AK}{pos:Pos}(ns:AF)(h:m5 es=some ns:=by decide +kernel):ZF X (.List es pos) (hP ns):=⟨pS ns h⟩
def F6(X:Cx)(pos' pos g p2:Pos)(x:Str)(i:Nat)(es:AK)(b:Expr)(fb:AU)(ns:AF)(c:X.N.Nodup)(h:m5 es=some ns)(d:X.N[i]?=some x)(e:c8 X.env.scope x)(f:X.fn x=true\/X.env.scope.names.lookup x=some .local)(hs:kB b)(a:ZC X b fb):ZS X (.Assign [.Name x pos'] (.Subscript (.List es g) b p2) pos) (ar i (b2 (lF (hP ns)) fb ai)):=⟨have a:=a.un;
 pj i c (pa (ME.mc (MF.me (pS ns h))) a hs) d e rfl f⟩
end
section
variable {a b c e:Expr}{fb fc:AU}
theorem F7(N:bX X (compareOp E) r)(J:eN X.K r g)(A:bX X (compareOp i) T)(p:eN X.K T g')(t:ZC X a fa)(l:ZC X b fb)(q:ZC X c fc)(R:lastMarks [E,i] [b,c]=false:=by with_unfolding_all rfl):ZE X (.Compare a [E,i] [b,c] pos) (mB (v8 fa fb fc g g')):=⟨have t:=t.un;have l:=l.un;have q:=q.un;
 PE.imp (Bi N A t l q R) λσ H Q h=>by
  obtain⟨ρ,d,H0,G0,G,e,s,h⟩:=h;obtain⟨k,U,rfl⟩:=CJ e;obtain⟨x,y,M,Z,f⟩:=Ed U;refine tCof.at M s λv H1 G1 K F L=>tCof.at Z L λu B m j n o=>?_;rcases f with⟨f,rfl⟩|⟨f,z,S,O⟩
  .exact J v u x y _ B m _ f o.seen (F.grow j) n ⟨false,rfl,h _ B m (K.trans j) (by rw[Rp])⟩
  .exact J v u x y _ B m _ f o.seen (F.grow j) n ⟨true,rfl,tCof.at S o λw D I C r3 Y=>p u w y z k D I _ O Y.seen (n.grow C) r3 (h _ D I ((K.trans j).trans C) (by rw[Rp]))⟩⟩
end
section
variable {e a b:Expr}{f fb:AU}{fc:AT}
def F8(b:AE)(h:ZE X e f):ZE X e (gC b f):=⟨have h:=h.un;PE.imp h λp H Q a=>by
 obtain⟨l,d,i,n,G,e,s,h⟩:=a;obtain⟨q,o,e⟩:=qa e;unfold M.scal at e
 split at e
 .rename_i k
  cases e;obtain⟨m,j⟩:=SR.frz b s;exact⟨frz b l,_,i,n,m,o,j,λv c t g r=>h v c G (.back s.seen g) (r.scal k)⟩
 .cases e⟩
theorem F9(c:AE)(h:ZE X e f):ZE X e (hV c f):=⟨have h:=h.un;PE.imp h λC H Q t=>by
 obtain⟨y,d,n,l,G,e,s,h⟩:=t;unfold hV at e;obtain⟨D,p,e⟩:=qa e
 split at e
 case isFalse=>cases e
 rename_i x;cases e;obtain⟨i,m,w⟩:=SR.frzT c s;refine⟨frz c y,_,n,l,i,p,m,λv u j g r=>?_⟩;refine h v u (λa=>if H a=none then j a else G a) ⟨g.h,λa o e=>?_,λa o e=>?_,λa h A=>?_⟩ (r.plain (λb k e=>?_) x)
 .have B:H a≠none:=λz=>by rw[s.seen _ _ e]at z;cases z
  grind
 .by_cases z:H a=none
  .rw[if_pos z]at e;exact g.s _ _ e
  .rw[if_neg z]at e;exact g.h _ _ (s.seen _ _ e)
 .grind
 .show(if H b=none then j b else G b)=some (HO.tup k)
  by_cases z:H b=none
  .grind
  .rw[if_neg z]
   refine w b k ?_
   cases q:i b with
   | none=>exact absurd (g.n b q (by grind)) z
   | some o=>
     have:=g.g _ _ q
     grind⟩
def F_(is:AE)(h:ZT X e fc):ZT X e (iN is fc):=⟨have h:=h.un;PT.imp h λσ H Q hx_=>by
 obtain⟨ρ,d,H0,G0,G,e,s,h⟩:=hx_;obtain⟨G',s'⟩:=SR.frz is s
 exact⟨frz is ρ,d,H0,G0,G',e,s',λH1 G1 g=>h H1 G (.back s.seen g)⟩⟩
def Ga(g:X.A.units+64<cLine)(d:ZC X a fa)(c:ZC X b fb)(hs:kB b:=by intro _ _;rfl):ZE X (.Subscript a b pos) (b2 fa fb cJ):=⟨have d:=d.un;have c:=c.un;kK (Ei g) Eg d c hs⟩
def Gb(e:X.A.units+64<cLine)(c:ZC X a fa)(d:ZC X b fb)(f:behindInMarks .In b=false:=by with_unfolding_all rfl):ZE X (.Compare a [.In] [b] pos) (mB (b2 fa fb (dN false))):=⟨have c:=c.un;have d:=d.un;g9 (pZ e) Eh c d f⟩
def Gc(e:X.A.units+64<cLine)(c:ZC X a fa)(d:ZC X b fb)(f:behindInMarks .NotIn b=false:=by with_unfolding_all rfl):ZT X (.Compare a [.NotIn] [b] pos) (b2 fa fb (dN true)):=⟨have c:=c.un;have d:=d.un;fX (Oy e) Eh c d f⟩
theorem Gd(i:Nat){b a:Pos}(k:X.N.Nodup)(l:X.N[i]?=some x:=by rfl)(f:c8 X.env.scope x:=by trivial)(hs:swapsWith (.Dict [] [] a) (some (.Name x b)) pos.line X.env=pure false:=by rfl)(g:aaf X x:=by trivial):ZS X (.Assign [.Name x b] (.Dict [] [] a) pos) (m6 i):=⟨
 PS.imp (mJ k l f BH hs g) λF o H d=>by
  obtain⟨m,j,n,q,G,e,s,h⟩:=d;cases e;intro p c
  exact h _ _ G (s.set_od i (.hid s.seen c _) c (s.seen.free c) (kxs:=[]) (gE (ns:=[]) Yh .nil rfl) .nil .nil)⟩
theorem Ge(hu:X.A.units+64<cLine)(i:Nat){g o:Pos}(E:ZC X m fb)(J:ZE X e f)(hN:X.N[i]?=some x:=by rfl)(hv:g0 X.env.scope x:=by trivial)(hd:du x:=by decide)(K:ju x:=by decide)(w:∀v,assign (.Subscript (.Name x g) m o) X.env v=(do
 let z <-holding [v] (eval (.Name x g) X.env)
 let D <-holding [v,z] (eval m X.env)
 standAt o
 holding [v,z,D] (setItem z D v)
 release [v,z,D] []):=by intro _;rfl)(hs:swapsWithSole [.Subscript (.Name x g) m o] e pos.line X.env=pure false:=by rfl)(T:swappedStores [.Subscript (.Name x g) m o] e X.env=pure none:=by rfl)(B:(assignEach [.Subscript (.Name x g) m o] X.env).map (·.2)=[assign (.Subscript (.Name x g) m o) X.env]:=by rfl):ZS X (.Assign [.Subscript (.Name x g) m o] e pos) (gF i fb f):=⟨have E:=E.un;have J:=J.un;
 PS.imp (Av J (ov (kh hN hv hd K) E (Ek hu) w) hs T B) λF σ H C=>by
  obtain⟨ρ,O,H0,G0,G,e,s,h⟩:=C;obtain⟨d,B,e⟩:=qa e;obtain⟨l,h2,e⟩:=qa e;obtain⟨k,h3,e⟩:=qa e;obtain⟨l',b,rfl⟩:=qc e;obtain⟨ns,R,b⟩:=qa b
  obtain⟨j,rfl⟩:∃j,k=.int j:=by
   symm
  dsimp only at b
  split at b
  case isFalse=>cases b
  rename_i p;have c:=Oz h2;refine tOf.at B s λv H1 G1 g1 r1 L=>?_;obtain⟨Y,_,_,n,_⟩:=L.od i _ _ _ c;refine⟨_,n,tCof.at h3 L λu H2 G2 N r2 M=>?_⟩;obtain⟨a,S,t,w,hG,Z,dc,y,A⟩:=M.od i _ _ _ c;rw[n]at w;cases w;obtain⟨Q,e2,r,V⟩:=hZ R dc y;subst r2
  have U:t.length<aA:=by rw[A.length];exact p
  have I:(zK ns t).length<sizeLine:=by
   rw[lq _ _ r,r,jg];have:aA=1000000:=rfl;ac_nf
  refine⟨Y,_,rfl,DPut.k (k:=Sum.inl j) Q I,?_⟩;have q:=r1.mono N.g;injection b with b;rw[pX r e2];refine h _ _ G2 (M.mutd c n (gE Yh ?_ ?_) ?_ ?_)
  .unfold dM
   symm
  .unfold dM
   split
   .rw[pI];exact r
   .simp[r]
  .rw[<-b]
   unfold dM;rw[V]at y
   split
   .exact y
   .rw[wt]
    exact .snoc (by rw[Rp]) y
  .rw[<-b]
   unfold dM
   split
   .exact vY j q A
   .exact .snoc q A⟩
theorem Gf(hu:X.A.units+64<cLine)(t:ZC X o fa)(B:ZC X e1 fb)(g:ZE X e2 fz)(m:M2 X o "get" n e1 e2 j):ZE X (.Call (.Attribute o "get" n) [e1,e2] [] j) (b3 fa fb fz jH):=⟨have t:=t.un;have B:=B.un;have g:=g.un;
 PE.imp (BO ∅ t B g m) λσ H Q p=>by
  obtain⟨ρ,d,H0,K,G,e,s,h⟩:=p;obtain⟨x,M,e⟩:=qa e;obtain⟨y,Y,e⟩:=qa e;obtain⟨z,T,e⟩:=qa e;obtain⟨ks,f,i,b,rfl,rfl,J,rfl⟩:=Up e;refine tCof.at M s λv H1 G1 V I L=>?_;have q:=I;obtain⟨a,c,D,rfl,O,N,rv⟩:=q;refine⟨a,rfl,.inl ⟨_,.inl (hZ J O N).1⟩,tCof.at Y L λu H2 G2 E R P=>tOf.at T P λw W U F Z s3=>?_⟩;subst R;obtain⟨a',C,l,S,r,A,k⟩:=I.grow (E.trans F);cases S;obtain⟨e1,e2,e3,e4⟩:=hZ J r A;refine⟨Yn b l i,?_,h _ W U ((V.trans E).trans F) ?_⟩
  .have:=DGet.k (k:=.inl i) e1
   rwa [v9]at this
  .cases g:Yn b f i with
   | none=>
     rwa [(m4 i k).2 g]
   | some d=>
     obtain⟨v,f1,f2⟩:=(m4 i k).1 d g
     symm⟩
def qZ(c:ZC X a fa)(d:ZC X b fb):ZE X (.BinOp a .RShift b pos) (b2 fa fb gG):=⟨have c:=c.un;have d:=d.un;mP Bb (vV (λ_ _ h=>wq h)) c d⟩
def Gg(ha:ZC X a fa)(hb:ZC X b fb):ZE X (.Compare a [.Is] [b] pos) (mB (b2 fa fb (qA false))):=⟨have ha:=ha.un;have hb:=hb.un;g9 Ep Es ha hb (fU _)⟩
theorem Gh(y:X.calm=true)(i:Nat){c t b:Pos}(hN:X.N.Nodup)(U:Gl X "dict")(E:X.mg "dict"=none)(m:ZC X e f)(z:X.N[i]?=some x:=by rfl)(R:c8 X.env.scope x:=by trivial)(j:aae X e:=by rfl)(n:(backTo b (starEach [] X.env)).any (·.1)=false:=by rfl)(hs:swapsWith (.Call (.Name "dict" t) [e] [] b) (some (.Name x c)) pos.line X.env=pure false:=by rfl)(K:aaf X x:=by trivial):ZS X (.Assign [.Name x c] (.Call (.Name "dict" t) [e] [] b) pos) (fG i f):=⟨have m:=m.un;
 PS.imp (mJ hN z R (jx (OF y) U E (by decide +kernel) (jD m jC j) (by decide) (by decide) j n) hs K) λF σ H q=>by
  obtain⟨Z,Y,H0,G0,G,e,s,h⟩:=q;obtain⟨ps,Q,e⟩:=qa e;obtain⟨d,T,u⟩:=qa Q
  split at e
  case isFalse=>cases e
  rename_i g;cases e;refine tCAof.at (show Yb f _ Z=some [d] by simp[Yb,ae,T]) s λvs H1 S g1 M k=>?_;obtain⟨v,rfl,L⟩:=eC M
  cases d with
  | lst l=>
    obtain⟨a,I,rfl,w,V⟩:=L;obtain⟨O,N,r⟩:=EB k.seen (u) V;refine⟨a,I,O,rfl,.inl w,N,by rw[r.length];exact g,λp o=>?_⟩;obtain⟨C,B,J,A,D⟩:=wB r List.nodup_nil rfl .nil;exact h _ _ S (k.set_od i (.hid k.seen o _) o (k.seen.free o) (gE (by rw[<-B];exact Yh) J A) (.ints _) D)
  | _=>cases u⟩
def Gi(e:X.A.units+64<cLine)(c:ZC X a fa)(d:ZC X b fb)(f:behindInMarks .In b=false:=by with_unfolding_all rfl):ZT X (.Compare a [.In] [b] pos) (b2 fa fb (cK false)):=⟨have c:=c.un;have d:=d.un;fX (EG e) OI c d f⟩
def Gj(g:X.A.units+64<cLine)(d:ZC X a fa)(c:ZC X b fb)(h:behindInMarks .NotIn b=false:=by with_unfolding_all rfl):ZT X (.Compare a [.NotIn] [b] pos) (b2 fa fb (cK true)):=⟨have d:=d.un;have c:=c.un;fX (EH g) OI d c h⟩
def Gk{lo u:Option Expr}(r:ZC X a fa)(m:ZO X lo fl)(t:ZO X u fh):ZE X (.Subscript a (.Slice lo u none O) pos) (jK fa fl fh):=⟨have r:=r.un;have m:=m.un;have t:=t.un;
 PE.imp (NH (.or NK (.or BV EL)) r m t) λY H Q o=>by
  obtain⟨V,d,R,Z,G,e,s,h⟩:=o;obtain⟨M,A,e⟩:=qa e;obtain⟨i,J,e⟩:=qa e;obtain⟨j,C,e⟩:=qa e;refine tCof.at A s λv T S I B z=>iJ J z λN U y K=>iJ C K λE D x l=>?_;have w:=(B.grow y).grow x;have n:=(I.trans y).trans x;unfold iQ at e
  split at e
  .cases e
   obtain⟨p,b,rfl,g,c⟩:=w;refine .inl ⟨p,b,rfl,.inl g,λq f=>h _ _ _ (n.trans (.new l.seen f _)) (⟨q,_,rfl,.inl Yh,?_⟩)⟩;unfold bN eL;rw[c.length];exact((c.drop _).take _).mono (Gr.new l.seen f _).g
  .cases e
   obtain⟨p,b,rfl,⟨g,F⟩,c⟩:=w;by_cases k:HT.sIx b.length 0 i=0/\HT.sIx b.length b.length j=b.length
   .refine .inr (.inr ⟨p,b,rfl,.of g,k.1,k.2,h _ E D n (⟨p,b,rfl,F,?_⟩)⟩)
    unfold bN
    rwa [<-c.length,k.1,k.2,List.drop_zero,Nat.sub_zero,c.length,List.take_length]
   .refine .inr (.inl ⟨p,b,rfl,.of g,k,λq f=>h _ _ _ (n.trans (.new l.seen f _)) (⟨q,_,rfl,Yh,?_⟩)⟩)
    unfold bN eL;rw[c.length];exact((c.drop _).take _).mono (Gr.new l.seen f _).g
  .cases e⟩
end
def Gm(h:ZT X c f):gK X X.K [c] f:=⟨have h:=h.un;λb s d H Q I a=>wpAny_tests_one (h _ s d H Q I a)⟩
def Gn(h:ZW X e f):ZT X e f:=⟨PW.pt h.un⟩
section
variable {e e2:Expr}{f:AU}{p:Pos}
theorem UX(A:X.calm=true)(V:Gl X "sorted")(E:X.mg "sorted"=none)(k:Gl X "set")(i:X.mg "set"=none)(t:ZC X e f)(hs:aae X e:=by rfl)(y:starEach [.Call (.Name "set" p2) [e] [] pos2] X.env=[(false,eval (.Call (.Name "set" p2) [e] [] pos2) X.env)]:=by rfl)(g:(backTo pos2 (starEach [] X.env)).any (·.1)=false:=by rfl)(a:(backTo pos (starEach [] X.env)).any (·.1)=false:=by rfl):ZF X (.Call (.Name "sorted" p) [.Call (.Name "set" p2) [e] [] pos2] [] pos) (wC f):=⟨have t:=t.un;
 PE.imp (oE (OK A) V E boot_sorted (g8 (jx (ET A) k i boot_set (jD t jC hs) (by decide) (by decide) hs g) ir y) (by decide) (by decide) y a) λZ H Q b=>by
  obtain⟨D,l,S,T,G,e,s,h⟩:=b;obtain⟨R,I,e⟩:=qa e;obtain⟨d,N,P⟩:=eB I;refine tCAof.at (show Yb f _ D=some [d] by simp[Yb,ae,N]) s λY U O B L u=>?_;obtain⟨v,rfl,J⟩:=eC L;obtain⟨q,xs,rfl,F,K⟩:=pf P J;unfold ng at e
  split at e
  .rename_i M n
   split at e
   .rename_i z
    cases e;cases kW n;cases kX K;refine⟨q,M,rfl,F,z.1,λm w j C=>?_⟩;have c:=Gr.hid u.seen j (dO X.prog X.w m w);have x:=u.grow c;refine⟨m,w,rfl,Yh,by rw[C.length_eq];exact z.2,λr o=>?_⟩;rw[OL C];refine h r _ _ O ((B.trans c).trans (.hid x.seen o _)) ((B.trans c).h.free o) (x.seen.free o) Yh (.ints _)
   .cases e
  .cases e⟩
theorem UY(B:X.calm=true)(hg:Gl X "sorted")(hm:X.mg "sorted"=none)(o:Gl X "set")(t:X.mg "set"=none)(C:ZC X e f)(g:ZC X e2 f2)(hs:starEach [e] X.env=[(false,eval e X.env)]:=by rfl)(u:starEach [e2] X.env=[(false,eval e2 X.env)]:=by rfl)(W:starEach [.BinOp (.Call (.Name "set" p2) [e] [] pos2) .BitXor (.Call (.Name "set" p3) [e2] [] pos3) pos4] X.env=[(false,eval (.BinOp (.Call (.Name "set" p2) [e] [] pos2) .BitXor (.Call (.Name "set" p3) [e2] [] pos3) pos4) X.env)]:=by rfl)(N:(backTo pos2 (starEach [] X.env)).any (·.1)=false:=by rfl)(i:(backTo pos3 (starEach [] X.env)).any (·.1)=false:=by rfl)(j:(backTo pos (starEach [] X.env)).any (·.1)=false:=by rfl):ZF X (.Call (.Name "sorted" p) [.BinOp (.Call (.Name "set" p2) [e] [] pos2) .BitXor (.Call (.Name "set" p3) [e2] [] pos3) pos4] [] pos) (wJ f f2):=⟨have C:=C.un;have g:=g.un;
 PE.imp (oE (OK B) hg hm boot_sorted (g8 (iq op_xor (jx (ET B) o t boot_set (jD C jC hs) (by decide) (by decide) hs N) (jx (ET B) o t boot_set (jD g jC u) (by decide) (by decide) u i)) ir W) (by decide) (by decide) W j) λσ H Q T=>by
  obtain⟨ρ,l,H0,G0,G,e,s,h⟩:=T;obtain⟨l1,h1,e⟩:=qa e;obtain⟨l2,h2,e⟩:=qa e;obtain⟨d1,i1,j1⟩:=eB h1;obtain⟨d2,i2,j2⟩:=eB h2;obtain⟨a,ea,e⟩:=qa e;obtain⟨b,eb,e⟩:=qa e
  split at e
  case isFalse=>cases e
  rename_i hl;obtain⟨R,S,b3,b4,b5,b6⟩:=hl;cases e;cases kW ea;cases kW eb;refine tCAof.at (show Yb f ae ρ=some [d1] by simp[Yb,ae,i1]) s λvs H1 G1 g1 r1 U=>?_;obtain⟨v,rfl,rv⟩:=eC r1;obtain⟨q,xs,rfl,T,rl⟩:=pf j1 rv;cases kX rl;refine⟨q,a,rfl,T,R,λm ns K hp=>?_⟩;have M:=Gr.hid U.seen K (dO X.prog X.w m ns);have s2:=U.grow M;refine tCAof.at (show Yb f2 ae ρ=some [d2] by simp[Yb,ae,i2]) s2 λvs2 H3 G3 D r3 Y=>?_;obtain⟨v2,rfl,A⟩:=eC r3;obtain⟨q2,xs2,rfl,E,I⟩:=pf j2 A;cases kX I;refine⟨q2,b,rfl,E,S,λm2 ms n d=>?_⟩;have y:=Gr.hid Y.seen n (dO X.prog X.w m2 ms);have V:=Y.grow y;have O:=y.h _ _ (D.h _ _ Yh);refine⟨m,m2,ns,ms,rfl,rfl,O,Yh,λk hk=>?_,by rw[d.length_eq];exact b4,by rw[hp.length_eq];exact b3,λr Z hr L w=>?_⟩
  .have hk':k∈b:=by
    have:=d.mem_iff.mp hk;rw[eW]at this;grind
   ext
  have F:=Gr.hid V.seen hr (dO X.prog X.w r Z);have s5:=V.grow F
  have c:=(List.perm_ext_iff_of_nodup L (Fc a b)).mpr λx=>by
   rw[w,OR,hp.mem_iff,d.mem_iff,eW,eW];simp
  refine⟨r,Z,rfl,Yh,by rw[c.length_eq];exact b6,λz J=>?_⟩;rw[OL c]
  exact h z _ _ G3 (((((g1.trans M).trans D).trans y).trans F).trans (.hid s5.seen J _)) (((((g1.trans M).trans D).trans y).trans F).h.free J) (s5.seen.free J) Yh (.ints _)⟩
theorem Gp(f:ZC X a F)(n:ZC X b fb):ZE X (.BinOp a .Add b pos) (b2 F fb gJ):=⟨have f:=f.un;have n:=n.un;PE.imp (iq Fh f n) λS H Q g=>by
 obtain⟨T,l,L,U,G,e,s,h⟩:=g;obtain⟨V,O,J,I,c⟩:=oX e;refine tCof.at J s λv N R j x w=>tCof.at I w λu M r d z t=>?_;unfold gJ at c
 split at c
 .split at c
  .rename_i y
   cases c;obtain⟨p,E,rfl,C,k⟩:=x.grow d;obtain⟨q,K,rfl,D,i⟩:=z;refine⟨p,q,E,K,rfl,rfl,.of C.1,.of D.1,by rw[k.length,i.length];exact hC y,λA=>?_,λ_ B=>?_,λ_ _ m o=>h _ _ _ ((j.trans d).trans (.new t.seen o _)) ?_⟩
   .subst A
    have:=List.eq_nil_of_length_eq_zero (by rw[<-k.length];rfl);refine h _ _ r (j.trans d) ?_;rw[Rp]
    ext
   .subst B
    have:=List.eq_nil_of_length_eq_zero (by rw[<-i.length];rfl);refine h _ _ r (j.trans d) ?_;rw[Rp]
    ext
   .exact⟨m,_,rfl,Yh,(k.append i).mono (Gr.new t.seen o _).g⟩
  .cases c
 .cases c⟩
end
def Gq(K:W7)(j:Nat)(x:Option (Option V))(b a:Hp)(F:fA):Out->Prop
 | .nx d=>∀c e f,SR K b a c e f d->c[j]?=x->F.nx c e
 | .rt _=>False
 | .bk d=>∀c e f,SR K b a c e f d->c[j]?=x->F.bk c e
 | .ct d=>∀c e f,SR K b a c e f d->c[j]?=x->F.ct c e
def q0(K:W7)(j:Nat)(f:AR):TS:=λF d H=>∃e c b a G,f e=some c/\SR K b a d H G e/\Gq K j d[j]? b a F c
structure KS(j:Nat)(X:Cx)(st:Stmt)(f:AR):Prop where
 un:PS X st (q0 X.K j f)
structure KB(j:Nat)(X:Cx)(sts:List Stmt)(f:AR):Prop where
 un:PSs X sts (q0 X.K j f)
def Gs(K:W7)(j r:Nat)(fb:AR):TS:=λF h H=>∃f c l d b a G,fb f=some (.nx c)/\dI j c=some l/\ab r (frz [r] c)=some d/\SR K b a h H G f/\
 ∀v e g i,SR K b a e g i (frz [r] c)->e[j]?=h[j]?->Rp K i d v->F.rt v g
structure KR(j r:Nat)(X:Cx)(sts:List Stmt)(f:AR):Prop where
 un:PSs X sts (Gs X.K j r f)
def Gu(K:W7)(c:AV)(fb:AR):TS:=λF i H=>∃g d l a b G,fb g=some (.nx d)/\c d=some l/\SR K a b i H G g/\
 ∀p h e f,Gr a b e f->a p=none->f p=none->e p=some (.lst h)->RpL K f l h->F.rt (.ref p) e
structure KL(gl:AV)(X:Cx)(sts:List Stmt)(f:AR):Prop where
 un:PSs X sts (Gu X.K gl f)
def lD{us:AC}(h:us.length=1):∃a,us=[a]:=List.length_eq_one_iff.mp h
theorem iV{us:AC}(h:us.length=2):∃c b,us=[c,b]:=by
 cases us with
 | nil=>cases h
 | cons a us=>
   obtain⟨d,rfl⟩:=lD (Nat.succ.inj h);grind
theorem iW{us:AC}(h:us.length=3):∃c b d,us=[c,b,d]:=by
 cases us with
 | nil=>cases h
 | cons a us=>
   obtain⟨e,b1,rfl⟩:=iV (Nat.succ.inj h);grind
theorem lE{us:AC}(h:us.length=4):∃c b e d,us=[c,b,e,d]:=by
 cases us with
 | nil=>cases h
 | cons a us=>
   obtain⟨f,b1,b2,rfl⟩:=iW (Nat.succ.inj h);grind
def lG{us:AC}(h:us.length=5):∃a0 a1 a2 a3 a4,us=[a0,a1,a2,a3,a4]:=by
 cases us with
 | nil=>cases h
 | cons a us=>
   obtain⟨b0,b1,b2,b3,rfl⟩:=lE (Nat.succ.inj h);exact⟨a,b0,b1,b2,b3,rfl⟩
theorem lH{us:AC}(h:us.length=6):∃e d g f b c,us=[e,d,g,f,b,c]:=by
 cases us with
 | nil=>cases h
 | cons a us=>
   obtain⟨j,b1,b2,b3,i,rfl⟩:=lG (Nat.succ.inj h);grind
theorem q_{us:AC}(h:us.length=7):∃c g i f b e d,us=[c,g,i,f,b,e,d]:=by
 cases us with
 | nil=>cases h
 | cons a us=>
   obtain⟨l,b1,b2,b3,k,j,rfl⟩:=lH (Nat.succ.inj h);grind
end M
namespace M
variable {prog:P7}{fp wr:List Addr}{K:W7}{X:Cx}{es rest ifs elts:AK}{fa fk fz f2:AU}{ga gl:AV}{pos pos' pt p2 pos2 px dpos p3 pos3 pos4:Pos}{pins:AB}{st:Stmt}{sts:List Stmt}{fs gs:AR}{tg elt iter ie ke f':Expr}{scope:Scope}{mg:AD}{base:Heap}{ta:TA}
open PySem L2
def nr{c:Sort _}{a b:c}(h:a=b):a=b:=h
section
variable {ρ:Ro}
@[simp] def Gv(a fb:AU)(g:D->D->Option b):b2 a fb g ρ=(a ρ).bind λx=>(fb ρ).bind λy=>g x y:=nr rfl
@[simp] def OY(a:AU)(g:D->Option b):b1 a g ρ=(a ρ).bind g:=nr rfl
@[simp] def OZ(d:D):kD d ρ=some d:=nr rfl
@[simp] def O0(f:AT):mB f ρ=(f ρ).map D.bl:=nr rfl
@[simp] def wR(f g:AT):bU f g ρ=(f ρ).bind λk=>if k=true then g ρ else some false:=nr rfl
@[simp] def Gw(f g:AT):c_ f g ρ=(f ρ).bind λk=>if k=true then some true else g ρ:=nr rfl
@[simp] def wU(f:AT):aZ f ρ=(f ρ).map (!·):=nr rfl
@[simp] def wV(f g:AU):b_ f g ρ=((f ρ).bind iH).bind λk=>if k=true then g ρ else some (.bl false):=nr rfl
@[simp] def Gx(f g:AU):kO f g ρ=((f ρ).bind iH).bind λk=>if k=true then some (.bl true)else g ρ:=nr rfl
@[simp] def wW(f:AU):gq f ρ=((f ρ).bind iH).map λk=>.bl (!k):=nr rfl
@[simp] def Gy(c:AT)(f g:AU):mR c f g ρ=(c ρ).bind λk=>if k=true then f ρ else g ρ:=nr rfl
@[simp] def O1(f:AV):lF f ρ=(f ρ).map D.lst:=nr rfl
@[simp] def wX:ae ρ=some []:=nr rfl
@[simp] def rd(f:AU)(g:AV):Yb f g ρ=(f ρ).bind λd=>(g ρ).map (d::·):=nr rfl
@[simp] def wY(f:AV):av f ρ=(f ρ).bind λl=>if l.length<=aA then some (.tup l)else none:=nr rfl
@[simp] def wZ(f:AV):bC f ρ=(f ρ).bind λl=>if l.length<=aA then some l else none:=nr rfl
@[simp] def O2(f:AV)(g:AN->Option D):cC f g ρ=(f ρ).bind g:=nr rfl
@[simp] def O3(f:AV)(g:AN->Option AN):cF f g ρ=(f ρ).bind g:=nr rfl
@[simp] def Gz(f:AU)(a b:Option AU):vX f a b ρ=((f ρ).bind fC).bind λl=>(da a ρ).bind λi=>(da b ρ).bind λj=>some (bN l i j):=nr rfl
@[simp] def w_:da none ρ=some none:=nr rfl
@[simp] def xa(f:AU):da (some f) ρ=((f ρ).bind iI).map some:=nr rfl
@[simp] def xb:au ρ=some (.nx ρ):=nr rfl
@[simp] def GA(i:Nat)(f:AU):ar i f ρ=(f ρ).map λd=>.nx (ρ.set i (↑d)):=nr rfl
@[simp] def xc(i:Nat)(f:AV):bf i f ρ=(f ρ).map λl=>.nx (ρ.set i (some (.ow l))):=nr rfl
@[simp] def rh(f:AU):ah f ρ=(f ρ).map .rt:=nr rfl
@[simp] def ri(c:AT)(f g:AR):aM c f g ρ=(c ρ).bind λk=>if k=true then f ρ else g ρ:=nr rfl
@[simp] def GB(i:Nat)(f:AU)(g:AN->D->Option AN):dg i f g ρ=(dI i ρ).bind λl=>(f ρ).bind λd=>(g l d).map λa=>.nx (ρ.set i (some (.ow a))):=nr rfl
@[simp] def xf(a:AV)(gt:AS)(fb:AR):bq a gt fb ρ=(a ρ).bind λb=>forM gt fb b ρ:=nr rfl
@[simp] def rm(a:AV)(b:List AL)(gt:AS)(fc:AT)(fe:AU):Yw a b gt fc fe ρ=(a ρ).bind λc=>cS gt fc fe (ao b ρ) c:=nr rfl
@[simp] def lI(a:AE)(f:AR):wF a f ρ=f (frz a ρ):=nr rfl
@[simp] def GC(i:Nat)(d:D):aj i d ρ=some (ρ.set i (↑d)):=nr rfl
noncomputable def lJ(g:AR):Out->Option Out
 | .nx a=>g a
 | o=>some o
@[simp] def nj(g:AR)(ρ':Ro):lJ g (.nx ρ')=g ρ':=nr rfl
@[simp] def rn(g:AR)(d:D):lJ g (.rt d)=some (.rt d):=nr rfl
@[simp] def h9(f g:AR):ag f g ρ=(f ρ).bind (lJ g):=nr rfl
noncomputable def endB:Out->Option D
 | .rt d=>some d
 | .nx _=>some .non
 | _=>none
@[simp] def xg(d:D):endB (.rt d)=some d:=nr rfl
def Ye(h:a.length=k):ak k n fb a=(fb (Yd n a)).bind endB:=by
 unfold ak;rw[if_pos h];rfl
@[simp] def ro(a:AE)(f:AU):gC a f ρ=(f (frz a ρ)).bind scal:=nr rfl
@[simp] def rq(is:AE)(f:AT):iN is f ρ=f (frz is ρ):=nr rfl
@[simp] def GE(b fb fc:AU)(g a:D->D->Option Bool):v8 b fb fc g a ρ=(b ρ).bind λx=>(fb ρ).bind λy=>(g x y).bind λk=>if k=true then (fc ρ).bind λz=>a y z else some false:=nr rfl
@[simp] def ry(i:Int):scal (.int i)=some (.int i):=nr rfl
@[simp] def rz:scal .non=some .non:=nr rfl
@[simp] def xh:frz [] ρ=ρ:=nr rfl
@[simp] def rA(i:Nat)(a:AE):frz (i::a) ρ=frz a (frz1 i ρ):=nr rfl
end
@[simp] def GF(C:Int->Int->Bool)(g:Int->Int->Int)(i j:Int):i2 C g (.int i) (.int j)=if C i j=true then some (.int (g i j))else none:=nr rfl
@[simp] def rB(i j:Int):dJ (.int i) (.int j)=some (.int (i+j)):=nr rfl
@[simp] def rC(i j:Int):eP (.int i) (.int j)=some (.int (i-j)):=nr rfl
def GH(h:-(2^64)<i/\i<2^64):gn (.int i) (.int j)=some (.int (i*j)):=by
 simp only[gn,i2];rw[if_pos];simp only[Bool.or_eq_true,Qe,wm];exact .inl h
@[simp] theorem GI(h:0<j)(a:j<1073741824):c9 (.int i) (.int j)=some (.int (i/j)):=by
 simp only[c9,i2];rw[if_pos];simp [wm];exact⟨h,a⟩
@[simp] theorem O4(h:0<j):bb (.int i) (.int j)=some (.int (i%j)):=by
 simp only[bb,i2];rw[if_pos];simp [wm];exact h
@[simp] def xi(i j:Int):eQ (.int i) (.int j)=some (decide (i<j)):=nr rfl
@[simp] def xj(i j:Int):N_ (.int i) (.int j)=some (decide (i<=j)):=nr rfl
@[simp] def xk(i j:Int):CL (.int i) (.int j)=some (decide (j<i)):=nr rfl
@[simp] def GJ(b:Bool):iH (.bl b)=some b:=nr rfl
@[simp] def xl(b:Bool):aD (.bl b)=some b:=nr rfl
@[simp] def rD(l:AN):aD (.lst l)=some (!l.isEmpty):=nr rfl
@[simp] def rE(l:AN):aD (.tup l)=some (!l.isEmpty):=nr rfl
@[simp] def jQ(l:AN):Yc (.tup l)=some l:=nr rfl
@[simp] def jR(l:AN):Yc (.lst l)=some l:=nr rfl
@[simp] def jS(ns:AF):Yc (.scr ns)=some (ns.map D.int):=nr rfl
@[simp] def rF(c:D):bO [c]=(Yc c).map λl=>.int l.length:=nr rfl
@[simp] def rG(c:D):bD [c]=(Yc c).map D.tup:=nr rfl
@[simp] def nk(c:D):eR [c]=Yc c:=nr rfl
@[simp] def xm(b:Bool):kT [.bl b]=some (.int (if b then 1 else 0)):=nr rfl
@[simp] def GK(c:D)(i:Int):ai c (.int i)=(Yc c).bind λl=>aX l i:=nr rfl
@[simp] def rH(l:AN):fC (.lst l)=some l:=nr rfl
@[simp] def rJ(ns:AF):fC (.scr ns)=some (ns.map D.int):=nr rfl
@[simp] def rL(i:Int):iI (.int i)=some i:=nr rfl
@[simp] def rM(i:Int):bE (.int i)=some (.int (-i)):=nr rfl
@[simp] theorem GL(i j:Int):br (.int i) (.int j)=(i==j):=by simp[br,aG,PyData.eqv]
@[simp] theorem rN(i j:Bool):br (.bl i) (.bl j)=(i==j):=by simp[br,aG,PyData.eqv]
@[simp] theorem rO(i j:Str):br (.str i) (.str j)=(i==j):=by simp[br,aG,PyData.eqv]
@[simp] theorem GM(l m:AN):br (.tup l) (.tup m)=eh l m:=by simp[br,eh,aG,PyData.eqv]
@[simp] theorem xn(l m:AN):br (.lst l) (.lst m)=eh l m:=by simp[br,eh,aG,PyData.eqv]
@[simp] theorem xo:eh [] []=true:=by simp[eh,dv,PyData.eqvAll]
@[simp] theorem O5(a b:D)(l m:AN):eh (a::l) (b::m)=(br a b&&eh l m):=by simp[eh,br,dv,PyData.eqvAll]
@[simp] theorem GN(b:D)(m:AN):eh [] (b::m)=false:=by simp[eh,dv,PyData.eqvAll]
@[simp] theorem GO(b:D)(m:AN):eh (b::m) []=false:=by simp[eh,dv,PyData.eqvAll]
@[simp] theorem xp(i:Int):bA (.int i)=0:=by simp[bA]
@[simp] theorem GP(i:Bool):bA (.bl i)=0:=by simp[bA]
@[simp] theorem xq(i:Str):bA (.str i)=0:=by simp[bA]
@[simp] theorem xt:bA .non=0:=by simp[bA]
@[simp] theorem xu(l:AN):bA (.tup l)=bB l+1:=by simp[bA]
@[simp] theorem xw(l:AN):bA (.lst l)=bB l+1:=by simp[bA]
@[simp] theorem rP:bB []=0:=by simp[bB]
@[simp] theorem nq(d:D)(l:AN):bB (d::l)=max (bA d) (bB l):=by simp[bB]
theorem fH(h:bA d<=60)(b:bA e<=60):az a d e=some (if a then !br d e else br d e):=by
 unfold az;grind
theorem xx(b:Yc c=some l)(h:bA d<=60)(e:bB l<=60):b7 a d c=some (if a then !g_ d l else g_ d l):=by
 unfold b7
 ext
theorem xy{d:Type}(enc:d->D)(p:d->Bool)(f:d->D):∀(l:List d),(∀a∈l,∃c,gt (enc a) ρ=some c/\fc c=some (p a)/\(p a=true->fe c=some (f a)))->
 cS gt fc fe ρ (l.map enc)=some ((l.filter p).map f)
 | [],_=>rfl
 | a::l,h=>by
   obtain⟨c,e,i,g⟩:=h a qh;have j:=xy enc p f l λb k=>h b (qg _ k);rw[Qd,cS];grind
@[simp] theorem rQ(a:b)(l:List b):aX (a::l) 0=some a:=by
 have:=mN (xs:=a::l) (j:=0) rfl;simpa using this
@[simp] theorem xA(a b:c)(l:List c):aX (a::b::l) 1=some b:=by
 have:=mN (xs:=a::b::l) (j:=1) rfl;simpa using this
def rR{j:Nat}(a:i=(j:Int))(h:l[j]?=some v):aX l i=some v:=by
 subst a;exact mN h
theorem gM{g:Type}(enc:g->D)(I:List g->Ro->Prop):∀(l c:List g) (ρ:Ro),I c ρ->
 (∀q a r ρ,c++l=q++a::r->I q ρ->∃f d,gt (enc a) ρ=some f/\fb f=some (.nx d)/\I (q++[a]) d)->∃ρ',M.forM gt fb (l.map enc) ρ=some (.nx ρ')/\I (c++l) ρ'
 | [],c,ρ,n,_=>⟨ρ,rfl,by ext⟩
 | a::l,c,ρ,n,m=>by
   obtain⟨f,d,o,p,j⟩:=m c a l ρ rfl n;obtain⟨ρ',h,k⟩:=gM enc I l _ d j λq b r ρ e i=>m q b r ρ (by ext) i;refine⟨ρ',?_,by ext⟩
   rwa [Qd,M.forM,o,qd,p]
def O6{gt:AS}{fb:AR}{α:Type}(enc:α->D)(p:α->Bool)(d:D)(I:Ro->Prop):∀(l:List α) (ρ:Ro),I ρ->
 (∀a∈l,∀ρ,I ρ->∃ρ1,gt (enc a) ρ=some ρ1/\((p a=true/\∃ρ2,fb ρ1=some (.nx ρ2)/\I ρ2)\/(p a=false/\fb ρ1=some (.rt d))))->
 (l.all p=true/\∃ρ',M.forM gt fb (l.map enc) ρ=some (.nx ρ')/\I ρ')\/(l.all p=false/\M.forM gt fb (l.map enc) ρ=some (.rt d))
 | [],ρ,h0,_=>.inl ⟨rfl,ρ,rfl,h0⟩
 | a::l,ρ,h0,hs=>by
   obtain⟨ρ1,e1,h⟩:=hs a qh ρ h0;rw[Qd,M.forM,e1,qd,List.all_cons];rcases h with⟨hp,ρ2,e2,h2⟩|⟨hp,e2⟩
   .rw[e2,qd,hp,Bool.true_and]
    exact O6 enc p d I l ρ2 h2 λb hb=>hs b (qg _ hb)
   .rw[e2,qd,hp,Bool.false_and]
    exact .inr ⟨rfl,rfl⟩
def jT(a n:Int):dh a n=(List.range (n-a).toNat).map λi=>D.int (a+(i:Nat)):=rfl
theorem nt(h:-1000000<=n)(b:n<=1000000):di [.int n]=some (dh 0 n):=by
 have a:aA=1000000:=by decide
 simp only[di];rw[if_pos];simp only[Qe]
 ext
theorem rS(h:-1000000<=n)(e:n<=1000000)(d:-1000000<=a)(c:a<=1000000):eS [.int a,.int n]=some (dh a n):=by
 have b:aA=1000000:=by decide
 simp only[eS]
 ext
theorem rT(h0:0<=i)(h:i<(l.length:Int)):∃v,v∈l/\aX l i=some v:=by
 have a:i.toNat<l.length:=by ext
 exact⟨l[i.toNat],List.getElem_mem a,rR (by ext<;>lia) (qr a)⟩
def lK{i:Nat}(h:i<l.length):aX l (i:Int)=some l[i]:=mN (qr h)
theorem f7(f:a->b)(l:List a)(i:Int):aX (l.map f) i=(aX l i).map f:=by
 unfold aX;rw[qf]
 cases fB _ i with
 | none=>rfl
 | some j=>
   ext
@[simp] theorem lL(x b:Nat):((x:Int)=(b:Int))↔x=b:=by ac_nf
@[simp] theorem xB(a:Bool)(i j:Int):az a (.int i) (.int j)=some (if a then !decide (i=j)else decide (i=j)):=by
 rfl
@[simp] theorem GQ(a:Bool)(i j:Bool):az a (.bl i) (.bl j)=some (if a then !(i==j)else i==j):=by
 rw[fH nofun nofun,rN]
@[simp] theorem xC(a:Bool):cc a .non .non=some (if a then false else true):=by cases a<;>rfl
@[simp] theorem xD(a:Bool)(i:Int):cc a (.int i) .non=some (if a then true else false):=by cases a<;>rfl
@[simp] theorem xE(a:Bool)(l:AN):cc a (.tup l) .non=some (if a then true else false):=by cases a<;>rfl
@[simp] theorem GR(a:Bool)(l:Bool):cc a (.bl l) .non=some (if a then true else false):=by cases a<;>rfl
@[simp] theorem f_{b:Type}(f:b->Bool):∀l:List b,bw (l.map λa=>.bl (f a))=some (l.map f)
 | []=>rfl
 | a::l=>by rw[Qd,bw,f_ f l];rfl
@[simp] theorem rV{b:Type}(f:b->Int):∀l:List b,intsD (l.map λa=>.int (f a))=some (l.map f)
 | []=>rfl
 | a::l=>by rw[Qd,intsD,rV f l];rfl
@[simp] theorem nu(l:AF):intsD (l.map D.int)=some l:=by simpa using rV id l
@[simp] def rW(l:AN):eU [.lst l]=(bw l).map λa=>.bl (a.any id):=nr rfl
@[simp] def rX(l:AN):cj [.lst l]=(bw l).map λa=>.bl (a.all id):=nr rfl
@[simp] def xF(i:Nat)(f:AU):kU i f ρ=(ab i ρ).bind λx=>(f ρ).bind λy=>(i2 (λ_ _=>true) (λa b=>a+b) x y).map λz=>.nx (ρ.set i (↑z)):=nr rfl
@[simp] def rY(c:D):gz c=(Yc c).map fY:=nr rfl
@[simp] def GS:aA=1000000:=nr rfl
@[simp] def gV0(d:D)(r:Ro):ab 0 (some (.sh d)::r)=some d:=nr rfl
@[simp] def UZ(d:D)(r:Ro):aa 0 (some (.sh d)::r)=some d:=nr rfl
@[simp] def U1(l:AN)(r:Ro):aa 0 (some (.ow l)::r)=some (.lst l):=nr rfl
@[simp] def gO0(l:AN)(r:Ro):dI 0 (some (.ow l)::r)=some l:=nr rfl
@[simp] theorem gVs(n:Nat)(b:AQ)(r:Ro):ab (n+1) (b::r)=ab n r:=by simp[ab]
@[simp] theorem U2(n:Nat)(b:AQ)(r:Ro):aa (n+1) (b::r)=aa n r:=by simp[aa]
@[simp] theorem gOs(n:Nat)(b:AQ)(r:Ro):dI (n+1) (b::r)=dI n r:=by simp[dI]
@[simp] def O7(l:AN)(r:Ro):frz1 0 (some (.ow l)::r)=some (.sh (.lst l))::r:=nr rfl
@[simp] def O8(d:D)(r:Ro):frz1 0 (some (.sh d)::r)=some (.sh d)::r:=nr rfl
@[simp] theorem O9(n:Nat)(b:AQ)(r:Ro):frz1 (n+1) (b::r)=b::frz1 n r:=by
 unfold frz1;rw[List.getElem?_cons_succ]
 cases h:r[n]? with
 | none=>rfl
 | some o=>
   cases o with
   | none=>rfl
   | some b=>cases b<;>rfl
def lM(h:a.length+b.length<=1000000):cu (.lst a) (.lst b)=some (a++b):=if_pos h
def xG(h:l.length<1000000):cf l d=some (l++[d]):=if_pos h
def bG{r:Ro}{b:Type}{enc:b->D}(f:b->D){l:List b}(h:∀a∈l,fe (some (.sh (enc a))::r)=some (f a)):cS (aj 0) tY fe (none::r) (l.map enc)=some (l.map f):=by
 have:=xy (gt:=aj 0) (fc:=tY) (ρ:=none::r) enc _ f l λa c=>⟨_,rfl,rfl,λ_=>h a c⟩
 rwa [List.filter_eq_self.mpr (λ_ _=>rfl)]at this
def iX{r:Ro}{b:Type}{enc:b->D}(p:b->Bool)(f:b->D){l:List b}(e:∀a∈l,fc (some (.sh (enc a))::r)=some (p a))(d:∀a∈l,p a=true->fe (some (.sh (enc a))::r)=some (f a)):
 cS (aj 0) fc fe (none::r) (l.map enc)=some ((l.filter p).map f):=
 xy enc p f l λa c=>⟨_,rfl,e a c,d a c⟩
def GT{fc:AT}{fe:AU}{r:Ro}{b:Type}{e1 e2:b->D}(p:b->Bool)(f:b->D){l:List b}(e:∀a∈l,fc (some (.sh (e1 a))::some (.sh (e2 a))::r)=some (p a))(d:∀a∈l,p a=true->fe (some (.sh (e1 a))::some (.sh (e2 a))::r)=some (f a)):
 cS (fD 0 1) fc fe (none::none::r) (l.map λa=>.tup [e1 a,e2 a])=some ((l.filter p).map f):=
 xy _ p f l λa c=>⟨_,rfl,e a c,d a c⟩
def O_{a:Type}(enc:a->D)(d:a)(l:List a):fY (l.map enc)=(List.range l.length).map λi=>.tup [.int i,enc (l.getD i d)]:=by
 unfold fY;rw[qf];refine Qq λi b=>?_;simp[Qb b]
end M
namespace Bk
open PySem L2 M
abbrev aF:=Nat×Bool
abbrev AX:=List aF
abbrev AW:=List AX
inductive Kd where
 | e|s|i|n
 deriving DecidableEq
inductive Rl where
 | ei (l:AX)
 | su (b:AE) (o:Bool)
 | im (b:AE) (h:AL)
 deriving DecidableEq
noncomputable def kS:Kd->Str
 | .e=>.ofString "eithers"
 | .s=>.ofString "sums"
 | .i=>.ofString "ifs"
 | .n=>.ofString "nots"
def aU(k:Kd):D:=.str (kS k)
noncomputable abbrev nD(n:Nat):D:=.int n
noncomputable def af(s:aF):D:=.tup [.int s.1,.bl s.2]
noncomputable def aq:AL->D
 | none=>.non
 | some n=>.int n
def aI:Rl->D
 | .ei l=>.tup (l.map af)
 | .su b o=>.tup [.tup (b.map nD),.bl o]
 | .im b h=>.tup [.tup (b.map nD),aq h]
def bz(k:Kd)(R:List Rl):D:=.tup [aU k,.tup (R.map aI)]
@[simp] theorem GU(k:Kd):bA (aU k)=0:=by simp[aU]
@[simp] theorem xH(s:aF):bA (af s)=1:=by simp[af]
@[simp] theorem xI(h:AL):bA (aq h)=0:=by cases h<;>simp[aq]
def GV:∀{k j:Kd},kS k=kS j->k=j:=by
 intro k j
 cases k<;>cases j<;>first|(intro _;rfl)|(exact λh=>absurd h (by decide +kernel))
@[simp] theorem GW(k j:Kd):br (aU k) (aU j)=decide (k=j):=by
 rw[aU,aU];by_cases h:k=j
 .simp[h]
 .have a:¬_:=λe=>h (GV e)
  simp[h,a]
def xJ(a:Bool)(k j:Kd):az a (aU k) (aU j)=some (if a then !decide (k=j)else decide (k=j)):=by
 rw[fH nofun nofun,GW]
@[simp] theorem Pa(a:Bool)(k:Kd):az a (aU k) (.str (Str.ofString "eithers"))=some (if a then !decide (k=.e)else decide (k=.e)):=xJ a k .e
@[simp] theorem Pb(a:Bool)(k:Kd):az a (aU k) (.str (Str.ofString "sums"))=some (if a then !decide (k=.s)else decide (k=.s)):=xJ a k .s
@[simp] theorem Pc(a:Bool)(k:Kd):az a (aU k) (.str (Str.ofString "ifs"))=some (if a then !decide (k=.i)else decide (k=.i)):=xJ a k .i
@[simp] theorem Pd(a:Bool)(k:Kd):az a (aU k) (.str (Str.ofString "nots"))=some (if a then !decide (k=.n)else decide (k=.n)):=xJ a k .n
@[simp] theorem nv(a b:Nat):br (nD a) (nD b)=decide (a=b):=by
 rw[GL];grind
@[simp] theorem rZ(s t:aF):br (af s) (af t)=decide (s=t):=by
 obtain⟨a,p⟩:=s;obtain⟨b,q⟩:=t;have:=nv a b;simp [af,this];by_cases d:a=b<;>by_cases c:p=q<;>simp[c]
theorem xK{c:Type}[DecidableEq c]{enc:c->D}(e:∀a b,br (enc a) (enc b)=decide (a=b))(s:c):∀l:List c,g_ (enc s) (l.map enc)=decide (s∈l)
 | []=>by simp[g_]
 | t::l=>by
   have d:=xK e s l;unfold g_ at d ⊢;grind
theorem xM:∀{l:AN},(∀d∈l,bA d<=n)->bB l<=n
 | [],_=>by simp
 | d::l,h=>Nat.max_le.mpr ⟨h d qh,xM λe a=>h e (qg _ a)⟩
theorem xN{c:Type}[DecidableEq c]{enc:c->D}(d:∀a b,br (enc a) (enc b)=decide (a=b)):∀l m:List c,eh (l.map enc) (m.map enc)=decide (l=m)
 | [],[]=>by simp
 | [],b::m=>by simp
 | a::l,[]=>by simp
 | a::l,b::m=>by
   rw[Qd,Qd,O5,d,xN d l m];by_cases e:a=b<;>by_cases f:l=m<;>simp[e]
def xO{b:Type}{enc:b->D}{n:Nat}(h:∀a,bA (enc a)<=n)(l:List b):bB (l.map enc)<=n:=xM λd c=>by
 obtain⟨x,_,rfl⟩:=qy c;exact h x
theorem r0(s:aF)(l:AX)(a:Bool)(e:Yc c=some (l.map af)):b7 a (af s) c=some (if a then !decide (s∈l)else decide (s∈l)):=by
 rw[xx e nofun (xM λd b=>by obtain⟨x,_,rfl⟩:=qy b;simp),xK rZ];symm
def cv(s:Nat)(l:AE)(a:Bool)(e:Yc c=some (l.map nD)):b7 a (nD s) c=some (if a then !decide (s∈l)else decide (s∈l)):=by
 rw[xx e nofun (xM λd b=>by obtain⟨x,_,rfl⟩:=qy b;simp),xK nv]
@[simp] theorem GX(s:aF):(Yc (af s)).bind (λl=>aX l 0)=some (.int s.1):=by simp[af]
@[simp] theorem xP(s:aF):(Yc (af s)).bind (λl=>aX l 1)=some (.bl s.2):=by simp[af]
@[simp] def r6(l:AX):Yc (aI (.ei l))=some (l.map af):=nr rfl
@[simp] def r9(b:AE)(o:Bool):Yc (aI (.su b o))=some [.tup (b.map nD),.bl o]:=nr rfl
@[simp] def r_(b:AE)(h:AL):Yc (aI (.im b h))=some [.tup (b.map nD),aq h]:=nr rfl
@[simp] def lN(k:Kd)(R:List Rl):Yc (bz k R)=some [aU k,.tup (R.map aI)]:=nr rfl
noncomputable def at'(ev:AG)(n:Nat):Bool:=ev.getD n false
def iY{ev:AG}(h:n<ev.length):aX (ev.map D.bl) (n:Int)=some (.bl (at' ev n)):=by
 rw[f7,lK h];simp[at',h]
def In(k:Kd)(n:Nat):Rl->Prop
 | .ei l=>k=.e/\∀s∈l,s.1<n
 | .su b _=>k=.s/\∀x∈b,x<n
 | .im b h=>(k=.i\/k=.n)/\(∀x∈b,x<n)/\∀x,h=some x->x<n
def lO(s t:aF):Prop:=s.1<t.1\/(s.1=t.1/\s.2=false/\t.2=true)
def dU:Rl->Prop
 | .ei l=>l.length<=2/\l.Pairwise lO
 | .su b _=>b.Pairwise (·<·)
 | .im b _=>b.Pairwise (·<·)
def hd(ev:AG)(w:Bool):AL->Bool
 | none=>false
 | some x=>at' ev x==w
noncomputable def lP(R:List Rl)(i:Nat):Rl:=R.getD i (.ei [])
def se{R:List Rl}{i:Nat}(h:i<R.length):lP R i∈R:=by simp[lP,h]
def GY(R:List Rl):fY (R.map aI)=(List.range R.length).map λi:Nat=>.tup [.int (i:Int),aI (lP R i)]:=O_ aI _ R
def so(k:Kd)(ev:AG):Rl->Bool
 | .ei l=>l.any λs=>at' ev s.1==s.2
 | .su b o=>decide ((b.filter (at' ev)).length%2=1)==o
 | .im b h=>(b.any λx=>at' ev x != decide (k=.i))||hd ev (decide (k=.i)) h
end Bk
namespace Bk
def brk(k:Kd)(ev:AG)(R:List Rl):AE:=(List.range R.length).filter λi=>!so k ev (lP R i)
end Bk
namespace Bk
open PySem L2 M
def GZ(l:AX):D.tup (l.map af)=aI (.ei l):=rfl
noncomputable def sz:Rl->Nat
 | .ei l=>l.length
 | .su b _=>b.length
 | .im b _=>b.length
theorem sf{n:Nat}:∀{l:AE}{a:Nat},l.Pairwise (·<·)->(∀x∈l,a<=x/\x<n)->l.length<=n-a
 | [],_,_,_=>Qh _
 | x::l,a,h,d=>by
   have e:=d x qh;have c:=List.pairwise_cons.mp h
   have f:=sf c.2 λy b=>⟨c.1 y b,(d y (qg _ b)).2⟩
   rw[qt];ac_nf
def lQ{n:Nat}{l:AE}(h:l.Pairwise (·<·))(a:∀x∈l,x<n):l.length<=n:=sf h λx b=>⟨Qh _,a x b⟩
theorem G6{k:Kd}{n:Nat}{r:Rl}(a:In k n r)(hs:dU r):sz r<=n+2:=by
 cases r with
 | ei l=>exact Qg hs.1 (by lia)
 | su b o=>exact Qg (lQ hs a.2) (by lia)
 | im b o=>exact Qg (lQ hs a.2.1) (by lia)
end Bk
namespace Bk
noncomputable def d8:Rl->AE
 | .ei l=>l.map (·.1)
 | .su b _=>b
 | .im b none=>b
 | .im b (some x)=>b++[x]
end Bk
namespace Bk
open PySem L2 M
noncomputable def vd:Kd->Rl
 | .e=>.ei []
 | .s=>.su [] true
 | _=>.im [] none
end Bk
namespace M
variable {prog:P7}{fp wr:List Addr}{K:W7}{X:Cx}{es rest ifs elts:AK}{fa fk fz f2:AU}{ga gl:AV}{pos pos' pt p2 pos2 px dpos p3 pos3 pos4:Pos}{pins:AB}{st:Stmt}{sts:List Stmt}{fs gs:AR}{tg elt iter ie ke f':Expr}{scope:Scope}{mg:AD}{base:Heap}{ta:TA}
open PySem PySem.Spec PyProof.Rows L2
noncomputable def gN(f:AU)(gt:AS):AR:=λρ=>(f ρ).bind λd=>(gt d ρ).map Out.nx
@[simp] theorem xQ{ρ:Ro}(f:AU)(gt:AS):gN f gt ρ=(f ρ).bind λd=>(gt d ρ).map Out.nx:=c6 rfl
theorem sg{a e:Expr}{f:AU}{gt:AS}(b:ZG X a gt)(c:ZE X e f)(hs:swapsWithSole [a] e pos.line X.env=pure false:=by rfl)(n:swappedStores [a] e X.env=pure none:=by rfl)(g:(assignEach [a] X.env).map (·.2)=[assign a X.env]:=by rfl):ZS X (.Assign [a] e pos) (gN f gt):=⟨have b:=b.un;have c:=c.un;PS.imp (Av c b hs n g) λF σ H i=>by
 obtain⟨ρ,out,q,r,G,e,s,h⟩:=i;obtain⟨d,g,e⟩:=qa e;obtain⟨ρ',m,rfl⟩:=qc e
 exact tOf.at g s λv o j p l k=>⟨d,ρ,ρ',_,_,j,m,k,l,λσ' s'=>h _ o j s'⟩⟩
section
variable {w:World}{A:Around}{E:AA}
theorem Pe{it t:Addr}{items:Array Value}(hne:t≠it):∀(n i:Nat) (s:Shared) (Q:AC->Shared->Prop),s.heap.IsListIter it t i->s.heap.IsList t items->i+n<=items.size->
 (∀h':Heap,h'.IsListIter it t (i+n)->Heap.SameBut it s.heap h'->Q ((items.toList.drop i).take n) {s with heap:=h' })->wpAny (mZ prog w) A (draw (.ref it) n) Q E s
 | 0,i,s,Q,hit,_,_,hQ=>by
   show wpAny _ _ (pure []) Q E s;exact wb (by simpa using hQ s.heap hit (Heap.SameBut.refl ..))
 | n+1,i,s,Q,hit,ht,hle,hQ=>by
   have hlt:i<items.size:=by ac_nf
   show wpAny _ _ (pyNext (.ref it)>>=_) Q E s;refine wa (wpAny_pyNext_list_item hit ht (x:=items[i]) (by simp[hlt]) λh₁ hit₁ hs₁=>?_);refine wa (wc (Pe hne n (i+1) _ _ hit₁ (ht.extBut hs₁.extBut hne) ∅ λh₂ hit₂ hs₂=>wb ?_))
   have hd:items.toList.drop i=items[i]::items.toList.drop (i+1):=by simp[List.drop_eq_getElem_cons,hlt]
   have:=hQ h₂ (by rw[show i+(n+1)=i+1+n by ac_nf];exact hit₂) (hs₁.trans hs₂);rw[hd,List.take_succ_cons]at this;exact this
theorem U3{s:Shared}{t:Addr}{items:Array Value}{Q:AC->Shared->Prop}(hh:A.handled=none)(ht:s.heap.IsList t items)(hQ:∀h',Heap.ExtBut (~~~s) s.heap h'->Q items.toList {s with heap:=h' }):wpAny (mZ prog w) A (unpackItems (.ref t) items.size none) Q E s:=by
 have hlt:t≠(~~~s):=by obtain⟨o,ho,_⟩:=ht;exact qm (ql ho)
 unfold unpackItems;refine wa ?_
 .unfold notIterableAtAll
  refine wa (wpAny_specialOf ht.typeIs slot_list_iter.lookup ?_);refine wb ?_;simp only[Qo,if_false];refine wa (wc (wpAny_pyIter_list ht ?_));refine wa (wc (Pe hlt items.size 0 _ _ ⟨_,qp _ rfl,rfl,rfl⟩ (ht.push _) ∅ λh₁ hit₁ hs₁=>?_))
  have hall:List.take items.size (List.drop 0 items.toList)=items.toList:=by
   rw[List.drop_zero];exact List.take_of_length_le nofun
  rw[hall];rw[if_neg nofun];have ht₁:h₁.IsList t items:=(ht.push _).extBut hs₁.extBut hlt;refine wa (wc (wpAny_pyNext_list_end hh hit₁ ht₁ nofun λh₂ he₂=>?_));simp only[Option.isSome_none,Qo,if_false];refine wb (hQ h₂ λb o hb e=>he₂ b o hb (hs₁.extBut b o hb (qe _ e)))
def U4{s:Shared}{env:Env}{elts:AK}{x1}{pos:Pos}{t:Addr}{items:Array Value}{Q:Unit->Shared->Prop}(hh:A.handled=none)(ht:s.heap.IsList t items)(hn:(assignEach elts env).length=items.size)(hstar:(assignEach elts env).findIdx? (·.1)=none)(h:∀h',Heap.ExtBut (~~~s) s.heap h'->wpAny (mZ prog w) A (assignInOrder ((assignEach elts env).map (·.2)) items.toList) Q E {s with heap:=h' }):
 wpAny (mZ prog w) A (assign (.Tuple elts x1 pos) env (.ref t)) Q E s:=by
 rw[assign_Tuple];refine wa (wpAny_standAt ?_);unfold unpack;rw[hn,hstar];exact wa (wc (U3 hh ht h))
def G7(K:W7)(n:Nat)(t:ki):TG:=λv σ H Q=>∃a xs,v=.ref a/\SqL K H a xs/\xs.length=n/\t xs σ H Q
theorem G8{es:AK}{k:Nat}{t:ki}{n:Nat}(hc:X.calm=true)(h:oq X es t)(hn:(assignEach es X.env).length=n:=by rfl)(hst:(assignEach es X.env).findIdx? (·.1)=none:=by rfl):PG X (.Tuple es k pos) (G7 X.K n t):=by
 intro pins s σ H v u Q I r hw;obtain⟨a,xs,e1,hq,hl,hw⟩:=hw;subst e1;cases r;obtain⟨its,rv,⟨o,nn,ho,hcl,_,hd⟩,hz⟩:=I.list hq;refine U4 (I.ok.hd hc) ⟨o,ho,hcl,nn,hd⟩ (by simp[hn,<-hl,rv.length]) hst λh' hx=>?_;have I1:Inv X pins σ H {s with heap:=h' }:=I.kept (t':=s.toks) λb o e=>hx b o (qm (ql e)) e;exact h pins _ σ H xs _ Q I1 (by simpa using rv) hw
noncomputable def xR(i j k:Nat):AS:=λd ρ=>match d with
 | .lst [a,b,c]=>some (((ρ.set i (↑a)).set j (↑b)).set k (↑c))
 | _=>none
theorem G9(i j k:Nat){x y z:Str}{px py pz:Pos}{n:Nat}(hc:X.calm=true)(hN:X.N.Nodup)(hi:X.N[i]?=some x:=by rfl)(hj:X.N[j]?=some y:=by rfl)(hk:X.N[k]?=some z:=by rfl)(hx:c8 X.env.scope x:=by trivial)(hy:c8 X.env.scope y:=by trivial)(hz:c8 X.env.scope z:=by trivial)(hf:aaf X x:=by trivial)(hf2:aaf X y:=by trivial)(hf3:aaf X z:=by trivial):ZG X (.Tuple [.Name x px,.Name y py,.Name z pz] n pos) (xR i j k):=⟨
 PG.imp (G8 (n:=3) hc (ou (mI hN hi hx hf) (ou (mI hN hj hy hf2) (ou (mI hN hk hz hf3) Nb)))) λv σ H Q hx_=>by
  obtain⟨d,ρ,ρ',H0,G0,G,e,s,r,h⟩:=hx_
  match d,e,r with
  | .lst [a,b,c],e,r=>
    cases e;rw[Rp]at r;obtain⟨p,xs,rfl,g,rl⟩:=r;rw[RpL]at rl;obtain⟨u,us,rfl,ru,rl⟩:=rl;rw[RpL]at rl;obtain⟨w,ws,rfl,rw',rl⟩:=rl;obtain⟨t,rfl,rt⟩:=kR rl
    exact⟨p,[u,w,t],rfl,.inl (dW s.seen g),rfl,u,[w,t],rfl,w,[t],rfl,t,[],rfl,rfl,h _ (((s.set_sh i ru).set_sh j rw').set_sh k rt)⟩⟩
end
section
variable {w:World}{A:Around}{E:AA}{s:Shared}{a e:Expr}{f:AU}
theorem U5(u:s.heap.IsList l vs.toArray)(b:IntsAre vs ns)(x:ns.length<=2^24)(o:k∈ns)(h:Q (.int (ns.idxOf k:Nat) s.toks) {s with toks:=s.toks+1}):
 wpAny (mZ prog w) A (call (.builtin "list.index") [.ref l,.int k t]) Q E s:=by
 obtain⟨⟨v,q,d,r⟩,g,f,n,e⟩:=id u;simp at f e;subst f e;have i:=b.length;have p:=List.idxOf_lt_length_iff.mpr o
 refine call_meets PySem.F.slot_list_index ⟨_,g,rfl⟩ PySem.F.entry_list_index (PySem.F.args_list_index_2 _ _)
  (PySem.SeqAt.list_indexAt l _ n q r _ _ _ (by ext) (by lia) ?_ ?_) ⟨g,λy z=>(eq_isInt k t b y (by grind)).at _ _,h⟩
 .show isInt k vs[ns.idxOf k]=true
  rw[isInt_at k b _ (by ext) p];grind
 .intro j m c
  show isInt k vs[j]=_;rw[isInt_at k b j (by omega) (by ext)];exact ne_of_lt_idxOf c _
def G_(K:W7):V->AM->Hp->VK->Prop:=λx b H Q=>∃(l:Addr) (a:AF) (k:Int),x=.ref l/\b=[.int k]/\SqL K H l (a.map .int)/\k∈a/\Q (.int (a.idxOf k)) H
def Hc:vM X "list.index" (G_ X.K):=by
 intro a s m H x n v o Q I i f h;obtain⟨l,j,k,rfl,rfl,d,b,q⟩:=h;cases i;obtain⟨u,rfl,⟨t,rfl⟩⟩:=d6 f;obtain⟨g,r,e,c⟩:=I.list d;exact U5 e.isList (vL r) (by rwa [qf]at c) b ⟨.int _,H,I.tok _,⟨_,rfl⟩,q⟩
def iZ:D->D->Option D
 | .lst l,.int k=>(intsD l).bind λa=>if k∈a then some (.int (a.idxOf k))else none
 | _,_=>none
theorem He{i b:Pos}(w:ZC X a fa)(t:ZE X e f)(hs:aae X e:=by rfl)(m:wM X b [e]:=by rfl)(l:(i.endLine==b.line)=true:=by rfl)(j:attributeBase a "index" X.env (eval a X.env)=eval a X.env:=by rfl):
 ZE X (.Call (.Attribute a "index" i) [e] [] b) (b2 fa f iZ):=⟨have w:=w.un;have t:=t.un;
 PE.imp (iB PySem.F.plainAttrs_list PySem.F.slot_list_index PySem.F.type_list_index Hc w (g8 t ir hs) j m l hs rfl) λU H Q n=>by
  obtain⟨Z,d,S,G0,G,e,s,h⟩:=n;obtain⟨C,L,e⟩:=qa e;obtain⟨E,O,y⟩:=qa e
  cases C<;>try cases y
  cases E<;>try cases y
  rename_i k;obtain⟨B,M,A⟩:=qa y;by_cases z:k∈B
  .rw[if_pos z]at A
   cases A;have:=kW M;subst this;refine tCof.at L s λv T Y N K R=>?_;obtain⟨p,V,rfl,g,J⟩:=K;have:=kX J;subst this;refine⟨.inl ⟨rfl,_,.inl g⟩,tOf.at O R λu I D r F s2=>?_⟩;subst F;exact⟨p,B,k,rfl,rfl,.inl (g.imp (r.h _ _) λq=>q.imp λo q=>r.h _ _ q),z,h _ I D (N.trans r) (by rw[Rp])⟩
  ext⟩
noncomputable def si(f g:AU):AU:=λa=>(f a).or (g a)
def Hf(i:ZE X e f)(b:ZE X e g):ZE X e (si f g):=⟨have i:=i.un;have b:=b.un;λl s n H Q I h=>by
 obtain⟨j,d,m,k,G,a,o,q⟩:=h;unfold si at a
 cases c:f j with
 | some p=>
   rw[c]at a;cases a;exact i _ s n H Q I ⟨j,_,m,k,G,c,o,q⟩
 | none=>
   rw[c]at a
   exact b _ s n H Q I ⟨j,d,m,k,G,a,o,q⟩⟩
@[simp] theorem Hg(f g:AU):si f g ρ=(f ρ).or (g ρ):=c6 rfl
@[simp] theorem Hh(l:AF)(k:Int):iZ (.lst (l.map D.int)) (.int k)=if k∈l then some (.int (l.idxOf k:Nat))else none:=by
 show(intsD _).bind _=_;rw[nu];rfl
end
section
variable {w:World}{A:Around}{E:AA}{s:Shared}
abbrev lR:=List Int×Addr×Value
def Hi(h:Heap)(u:Value)(p:lR):Prop:=∃t o n,u=.ref t/\h.get? t=some o/\o.cls=.type "tuple"/\o.data=.seq #[.ref p.2.1,p.2.2] n
def xS(h:Heap):AC->List lR->Prop
 | [],[]=>True
 | u::us,p::ps=>Hi h u p/\xS h us ps
 | _,_=>False
def Hj{xs:List lR}(h:k∉xs.map (·.1)):atKey xs k=none:=atKey_none_of_get λj p e=>h (List.mem_map.mpr ⟨(k,p),List.mem_of_getElem? e,rfl⟩)
theorem Hk{a:AC}(hu:A.units+8<cLine)(hh:A.handled=none)(hd0:h0.get? d=none)(V:h0.get? it=none)(C:d≠it)(hL:h0.IsList L a.toArray):
 ∀(ps:List lR) (i:Nat) (c:Int) (f:List lR) (s:Shared),xS h0 (a.drop i) ps->f.length+ps.length<=sizeLine->((f++ps).map (·.1)).Nodup->(∀h',OldH h0 h'->∀x∈f++ps,(tupleKind (dY prog w)).is h' x.1 x.2.1)->
 s.heap.IsListIter it L i->OldH h0 s.heap->s.heap.DictOfH (tupleKind (dY prog w)) d f->
 (∀h' tk,OldH h0 h'->h'.DictOfH (tupleKind (dY prog w)) d (f++ps)->R (.ok (.ret .none)) {s with heap:=h',toks:=tk})->
 codeAny (mZ prog w) A (.builtin "dict.update.loop" ⟨[.ref d,.ref it,.int c 0,.none],[]⟩) R s:=by
 intro ps
 induction ps with
 | nil=>
   intro i c f s k hz hnd h B D hd O;have v:s.heap.IsList L a.toArray:=let ⟨o,e,r⟩:=hL;⟨o,D _ _ e,r⟩
   have y:a.toArray[i]?=none:=by
    cases g:a.drop i with
    | nil=>simpa using g
    | cons u us=>rw[g]at k;exact k.elim
   refine wy v_ ?_;rw[jc m_ _];show wpAny _ A.in1 (pyNext (.ref it)>>=_) _ _ s;refine wa (wpAny_pyNext_list_end (A:=A.in1) hh B v y λh' hs=>?_);show wpAny _ A.in1 (Builtin.Dict.addKeywords d []>>=_) _ _ _;have l:OldH h0 h':=λb N q=>hs b N (λz=>by grind) (D b N q);obtain⟨o,S,Z,g1,g2,g3,Q,g5,g6⟩:=hd;rw[w6]at O h;refine wa (wb (wb (O h' s.toks l ⟨o,S,Z,hs _ _ C g1,g2,g3,Q,λx y=>h h' l x y,g6⟩)))
 | cons p ps ih=>
   intro i c f s k hz hnd h B D hd O;have v:s.heap.IsList L a.toArray:=let ⟨o,e,r⟩:=hL;⟨o,D _ _ e,r⟩
   cases g:a.drop i with
   | nil=>rw[g]at k;exact k.elim
   | cons u us=>
     rw[g]at k;obtain⟨⟨t,N,n,rfl,ht,hc,F⟩,k⟩:=k
     have y:a.toArray[i]?=some (.ref t):=by
      have:=congrArg List.head? g;simpa [List.head?_drop]using this
     have hus:us=a.drop (i+1):=by
      have:=congrArg List.tail g;simpa using this.symm
     refine wy v_ ?_;rw[jc m_ _];show wpAny _ A.in1 (pyNext (.ref it)>>=_) _ _ s;refine wa (wpAny_pyNext_list_item B v y λI Y J=>?_);have j:=OldH.but V D J;obtain⟨o,S,Z,g1,g2,g3,Q,g5,g6⟩:=hd
     have T:I.DictOfH (tupleKind (dY prog w)) d f:=⟨o,S,Z,by rw[J.2 d C];exact g1,g2,g3,Q,λx y=>h I j x (List.mem_append.mpr (.inl y)),g6⟩
     have H:=j _ _ ht
     have hT:(Shared.TypeIs {s with heap:=I} (.ref t) "tuple"):=⟨N,H,hc⟩
     refine wa (wc (wa (wpAny_tryCatch ?_)));unfold Builtin.Dict.pairItems;refine wa (wpAny_typeOf hT ?_);rw[if_pos (by decide)];refine wa (wpAny_seqItems H F (wb ?_));have hlen:=qt (a:=p) (as:=ps)
     have K:p.1∉f.map (·.1):=λz=>by
      grind
     refine wc (wpAny_dictSet_heap (s:={s with heap:=I}) (knd:=tupleKind (dY prog w)) (k:=p.1) (a:=p.2.1) (xs:=f) (hsz:=by lia) (by show A.in1.units<cLine;grind) (h I j p nofun) T λh2 G M=>?_);rw[storedH_new (Hj K)]at G;refine wb ⟨jb m_ _,?_⟩;refine ih (i+1) (c+1) _ _ (by grind) (by ext<;>lia) (by ext) (λh' o'=>by grind) (IsListIter.but Y M (Ne.symm C)) (OldH.but hd0 j M) G λh' U o' d'=>O h' U o' (by ext)
theorem U6(hu:A.units+64<cLine)(z:A.handled=none)(K:PlainL s.heap L its.toArray)(hp:xS s.heap its ps)(Y:ps.length<=sizeLine)(C:(ps.map (·.1)).Nodup)(D:∀h',OldH s.heap h'->∀x∈ps,(tupleKind (dY prog w)).is h' x.1 x.2.1)(hQ:∀h' tk,OldH s.heap h'->h'.DictOfH (tupleKind (dY prog w)) (~~~s) ps->Q (.ref (~~~s)) {s with heap:=h',toks:=tk}):
 wpAny (mZ prog w) A (call (.type "dict") [.ref L]) Q E s:=by
 generalize u:({cls:=.type "dict",data:=.dict #[]}:Obj)=l;refine callType_codes (Q₁:=λi d=>i=.ref _/\d={s with heap:=s.heap.push l}) F.kt_called_dict (F.kt_typeCall_dict_1 _) F.entry_dict_init (kt_code_dict_new _ ⟨rfl,by rw[u]⟩) ?_;rintro i d ⟨rfl,rfl⟩
 have a:(s.heap.push l).DictOfH (tupleKind (dY prog w)) (~~~s) []:=by rw[<-u];exact .new s.heap
 refine⟨a.typeIs,F.args_dict_init_2 _ _,?_⟩;refine wa ?_;refine wa (wpAny_notOrdered_dict a.typeIs ?_);refine wb ?_;show wpAny _ _ (Builtin.Dict.updateFrom "dict.__init__" _ (.ref L) [] .none) _ _ _;obtain⟨o,n,e,k,B,m⟩:=K;have t:(s.heap.push l).get? L=some o:=qe _ e
 have N:Shared.TypeIs {s with heap:=s.heap.push l} (.ref L) "list":=⟨o,t,k⟩
 refine wa (wpAny_typeOf N ?_);refine wa (qD t k B m (by simp[z]) λh' tk c=>?_);refine wa (wpAny_rule (wa ?_))
 have r:h'.IsList L its.toArray:=⟨o,c _ _ t,k,n,m⟩
 refine wpAny_pyIter_list (s:={s with heap:=h',toks:=tk}) r ?_;have j:OldH s.heap h':=λb v q=>c _ _ (qe _ q);obtain⟨T,R,I,p,f⟩:=id a;have h:=c _ _ p;have g:=ql h;generalize y:({cls:=.type "list_iterator",data:=.fields _}:Obj)=G;refine wb ⟨jb m_ _,?_⟩;refine Hk (h0:=s.heap) ?_ (by simp[z]) (Heap.get?_none_of_le (qv _)) (Heap.get?_none_of_le (Nat.le_of_lt g)) (qm g) ⟨o,e,k,n,m⟩ ps 0 0 [] _ (by grind) (by ext) (by grind) (by grind) ?_ (λb v q=>qe _ (j b v q)) ?_ λB O V Z=>?_
 .grind
 .exact⟨G,qp _ (by rw[<-y];rfl),by rw[<-y],by grind⟩
 .obtain⟨J,H,U,_,M⟩:=f
  exact⟨T,R,I,qe _ h,J,H,U,λx S=>(nomatch S),M⟩
 grind
end
abbrev xT:=(List Int×Addr)×V
def xU(H:Hp):AM->List xT->Prop
 | [],[]=>True
 | x::xs,q::qs=>(∃b ys,x=.ref b/\H b=some (.tup [.ref q.1.2,q.2])/\H q.1.2=some (.tup ys)/\d7 ys=some q.1.1)/\xU H xs qs
 | _,_=>False
theorem sj:∀{a:List xT}{ps:List lR},ps.map (λp=>(p.1,p.2.1))=a.map (·.1)->bF (a.map (·.1)) (ps.map (·.2.2))=ps
 | [],[],_=>rfl
 | q::a,p::ps,h=>by
   rw[Qd,Qd]at h;injection h with c d;have b:=sj d;unfold bF at b ⊢;rw[Qd,Qd,List.zip_cons_cons,Qd,b,<-c]
 | [],_::_,h=>by cases h
 | _::_,[],h=>by cases h
theorem Pf{σ:L2.St}(I:Inv X pins σ H s):∀{ys:AM}{its:AC}{a:List xT},xU H ys a->Vals ys its->∃ps:List lR,xS s.heap its ps/\ps.map (λp=>(p.1,p.2.1))=a.map (·.1)/\Vals (a.map (·.2)) (ps.map (·.2.2))/\∀p∈ps,∃c,H p.2.1=some (.tup c)/\d7 c=some p.1
 | [],its,[],_,r=>by
   cases r;exact⟨[],trivial,rfl,.nil,λp f=>nomatch f⟩
 | y::ys,its,q::a,h,r=>by
   obtain⟨⟨b,c,rfl,v,D,A⟩,h⟩:=h
   cases r with
   | cons j z=>
     cases j;obtain⟨ps,m,B,g,C⟩:=Pf I h z;obtain⟨d,w,⟨o,e,k,n,u⟩,_⟩:=I.tuple (.of v)
     cases w with
     | cons t x=>
       cases x with
       | cons l i=>
         cases i;cases t;refine⟨(q.1.1,q.1.2,_)::ps,⟨⟨b,o,n,rfl,e,k,u⟩,m⟩,by ext,.cons l g,λp f=>?_⟩;grind
 | [],_,_::_,h,_=>h.elim
 | _::_,_,[],h,_=>h.elim
def Hm(K:W7):AM->Hp->VK->Prop:=λe H Q=>∃a d b,e=[.ref a]/\SqL K H a d/\xU H d b/\b.length<aA/\(b.map (·.1.1)).Nodup/\∀p f,H p=none->Q (.ref p) (upd H p (ej p (b.map (·.1)) (b.map (·.2)) f))
theorem U7(E:X.A.units+64<cLine)(t:X.calm=true):dD X (.type "dict") (Hm X.K):=by
 intro l s T H U Z Q I r h;obtain⟨a,N,k,rfl,A,z,O,C,q⟩:=h;obtain⟨u,rfl,y⟩:=d6 r;cases y;obtain⟨M,p,v,R⟩:=I.list A;obtain⟨f,F,g,G,D⟩:=Pf I z p;have m:aA=1000000:=rfl
 have n:f.length=k.length:=by
  have:=congrArg List.length g;grind
 have i:f.length<=sizeLine:=by rw[jg];lia
 have Y:f.map (·.1)=k.map (·.1.1):=by
  have:=congrArg (List.map Prod.fst) g
  rwa [Qf,Qf]at this
 refine U6 E (I.ok.hd t) v F i (by grind) (λw c x L=>?_) λw S c j=>?_
 .obtain⟨V,J,K⟩:=D x L
  exact kZ (I.kept (t':=s.toks) λb o e=>c b o e).hok J K
 .rw[<-sj g]at j
  obtain⟨B,d⟩:=pQ (beq_eq_false_iff_ne.mpr (.symm (qm I.big))) G j;exact⟨.ref _,_,I.laid (λb o e=>c b o e) (qv _) (d _),rfl,q _ B (I.hok.fresh (qv _))⟩
noncomputable def ny:AN->Option (List (D×D))
 | []=>some []
 | .tup [k,v]::l=>(ny l).map ((k,v)::·)
 | _=>none
def Hn:D->Option (List (D×D))
 | .lst l=>ny l
 | _=>none
theorem Pg(s:Same G H):∀{l:AN}{ps:List (D×D)}{g:List AF}{xs:AM},ny l=some ps->fE (ps.map (·.1))=some g->RpL K G l xs->
 ∃a:List xT,xU H xs a/\a.map (·.1.1)=g/\RpL K G (ps.map (·.1)) (a.map λq=>V.ref q.1.2)/\RpL K G (ps.map (·.2)) (a.map (·.2))/\a.length=ps.length/\∀q∈a,∃ys,G q.1.2=some (.tup ys)/\d7 ys=some q.1.1
 | [],ps,g,xs,e,f,r=>by
   cases e;cases f;subst r;exact⟨[],trivial,rfl,.nil,.nil,rfl,λq k=>nomatch k⟩
 | d::l,ps,g,xs,e,f,r=>by
   unfold ny at e
   split at e
   case h_1 he=>cases he
   case h_2 k v l' he=>
    injection he with j i;subst j i;obtain⟨o,y,rfl⟩:=qc e;obtain⟨x,R,rfl,p,t⟩:=r;obtain⟨n,L,f⟩:=qa f;obtain⟨A,h,rfl⟩:=qc f;obtain⟨a,F,Q,u,J,N,T⟩:=Pg s y h t;obtain⟨b,ys,rfl,I,c⟩:=p;obtain⟨O,v,rfl,m,c⟩:=c;obtain⟨C,v,rfl,B,c⟩:=c;subst c;obtain⟨z,M,rfl,E,S,w⟩:=pM L (.of s m);refine⟨((n,z),C)::a,⟨⟨b,M,rfl,s _ _ I,E,w⟩,F⟩,by grind,.cons m u,.cons B J,by ext,λq k=>?_⟩;grind
   ext
section
variable {e:Expr}{f:AU}
def i0(i:Nat)(f:AU):AR:=λb=>((f b).bind Hn).bind λa=>(fE (a.map (·.1))).bind λc=>if a.length<aA/\c.Nodup then some (.nx (b.set i (some (.od true (a.map (·.1)) (a.map (·.2))))))else none
@[simp] theorem Ph(i:Nat):i0 i f ρ=((f ρ).bind Hn).bind λps=>(fE (ps.map (·.1))).bind λa=>if ps.length<aA/\a.Nodup then some (.nx (ρ.set i (some (.od true (ps.map (·.1)) (ps.map (·.2))))))else none:=c6 rfl
theorem Ho(T:X.A.units+64<cLine)(J:X.calm=true)(i:Nat){c w b:Pos}(Y:X.N.Nodup)(U:Gl X "dict")(I:X.mg "dict"=none)(k:ZC X e f)(R:X.N[i]?=some x:=by rfl)(z:c8 X.env.scope x:=by trivial)(g:starEach [e] X.env=[(false,eval e X.env)]:=by rfl)(o:(backTo b (starEach [] X.env)).any (·.1)=false:=by rfl)(hs:swapsWith (.Call (.Name "dict" w) [e] [] b) (some (.Name x c)) pos.line X.env=pure false:=by rfl)(K:X.fn x=true\/X.env.scope.names.lookup x=some .local:=by trivial):ZS X (.Assign [.Name x c] (.Call (.Name "dict" w) [e] [] b) pos) (i0 i f):=⟨have k:=k.un;
 PS.imp (mJ Y R z (jx (U7 T J) U I (by decide +kernel) (jD k jC g) (by decide) (by decide) g o) hs K) λF σ H m=>by
  obtain⟨V,O,Z,G0,G,e,s,h⟩:=m;obtain⟨ps,Q,e⟩:=qa e;obtain⟨kn,n,e⟩:=qa e;obtain⟨d,h2,y⟩:=qa Q
  split at e
  case isFalse=>cases e
  cases e;refine tCAof.at (show Yb f _ V=some [d] by ext) s λvs H1 A g1 N j=>?_;obtain⟨v,rfl,L⟩:=eC N
  cases d with
  | lst l=>
    obtain⟨a,E,rfl,t,S⟩:=L;obtain⟨u,D,k2,C,B,k5,k6⟩:=Pg j.seen (y) n S;refine⟨a,E,u,rfl,.inl t,D,by ext,by symm,λp M r=>h _ _ A (j.set_od i (.hid j.seen r _) r (j.seen.free r) (.inr ⟨rfl,u.map _,M,Yh,by simp,by symm,by ext,λq t=>?_⟩) C B)⟩;symm
  | _=>cases y⟩
end
section
variable {w:World}{A:Around}{E:AA}{s:Shared}
def DRaw(h:Heap)(d:Addr)(b:Array DictEntry)(a:Nat):Prop:=∃o,h.get? d=some o/\o.ExactDict/\o.data=.dict b a
def DRaw.typeIs(b:DRaw s.heap d f e):s.TypeIs (.ref d) "dict":=by
 obtain⟨o,a,c,_⟩:=b;exact⟨o,a,c.1⟩
theorem Pi(j:(d==sysModules)=false)(e:DRaw s.heap d f h)(g:Q (.ref (~~~s)) {s with heap:=s.heap.push {cls:=.type "dict_keyiterator",data:=.fields #[.ref d,.int 0 0,.int f.size 0,.int h 0]} }):wpAny (mZ prog w) A (pyIter (.ref d)) Q E s:=by
 have b:=e.typeIs;obtain⟨o,c,i,a⟩:=e;refine wpAny_pyIter_slot b F.slot_dict_iter (we F.slot_dict_iter b F.entry_dict_iter (wa (wa (wpAny_notOrdered_dict b ?_))) (F.args_dict_iter_1 _));show wpAny _ _ (pure (Value.ref d)) _ _ s;refine wb ?_;show wpAny _ _ (Builtin.Dict.showsAll d>>=_) _ _ s;unfold Builtin.Dict.showsAll;rw[if_neg (by grind)];refine wa (wb (wa (wpAny_dictEntries c a (wa (wpAny_dictEpoch c a (wa (wg (wb ⟨_,rfl,"dict_keyiterator",_,⟨_,qp _ rfl,rfl⟩,F.slot_dict_keyiterator_next.lookup,?_⟩))))))));simpa [rawInt]using g
theorem Pj(a:s.heap.IsKeyIter c d i f.size k)(q:DRaw s.heap d f k)(n:i<f.size)(m:∀h':Heap,h'.IsKeyIter c d (i+1) f.size k->Heap.SameBut c s.heap h'->Q (some f[i].key) {s with heap:=h' }):wpAny (mZ prog w) A (pyNext (.ref c)) Q E s:=by
 obtain⟨o,j,r,h⟩:=id a;obtain⟨t,g,p,e⟩:=q;unfold pyNext
 refine wa (jf (wpAny_callSpecial?_slot a.typeIs F.slot_dict_keyiterator_next
  (we F.slot_dict_keyiterator_next a.typeIs F.entry_dict_keyiterator_next ?_ (F.args_dict_keyiterator_next_1 _))))
 refine wa (wb ?_);refine wa ?_;refine wa ?_
 first|refine wa (wpAny_typeNameOfWhole_keyiter a.typeIs (wb ?_))|refine wa (wpAny_typeNameOf_keyiter a.typeIs (wb ?_))
 refine wa (wpAny_fieldsOf j h ?_)
 have l:Builtin.Dict_items.ownsTuple "dict_keyiterator"=false:=by decide
 show wpAny _ _ _ _ _ s;refine wa (wb ?_);refine wa (wpAny_dictEntries g e ?_);rw[if_neg nofun];refine wa (wb ?_);refine wa (wpAny_dictEpoch g e ?_);rw[if_neg nofun];refine wb ?_;simp only[if_false,w5,Array.getElem?_eq_getElem n];refine wa ?_
 first|refine wa (wpAny_typeNameOfWhole_keyiter a.typeIs (wb ?_))|refine wa (wpAny_typeNameOf_keyiter a.typeIs (wb ?_))
 refine wa (wpAny_isOneOf_keyiter a.typeIs ?_);show wpAny _ _ (setField (.ref c) 1 _>>=_) _ _ s;refine wa (wpAny_setField j h nofun ?_)
 have b:(s.heap.update c (Obj.mapFields (·.setIfInBounds 1 (rawInt ((i:Int)+1))))).IsKeyIter c d (i+1) f.size k:=
  ⟨_,wx _ j (Obj.isFreed_of_fields (je h _)),(Obj.cls_mapFields ..).trans r,by rw[je h];simp[rawInt]⟩
 refine wa (wc ?_);refine wa (wpAny_isOneOf_keyiter b.typeIs ?_);exact wb (wb ⟨_,rfl,wb (m _ b (wv ..))⟩)
theorem Pk(p:A.handled=none)(a:s.heap.IsKeyIter e d i h.size n)(q:DRaw s.heap d h n)(f:h.size<=i)(m:∀h',Heap.ExtBut e s.heap h'->Q none {s with heap:=h' }):wpAny (mZ prog w) A (pyNext (.ref e)) Q E s:=by
 obtain⟨o,k,r,j⟩:=id a;obtain⟨t,c,l,b⟩:=q;unfold pyNext
 refine wa (jf (wpAny_callSpecial?_slot a.typeIs F.slot_dict_keyiterator_next
  (we F.slot_dict_keyiterator_next a.typeIs F.entry_dict_keyiterator_next ?_ (F.args_dict_keyiterator_next_1 _))))
 refine wa (wb ?_);refine wa ?_;refine wa ?_
 first|refine wa (wpAny_typeNameOfWhole_keyiter a.typeIs (wb ?_))|refine wa (wpAny_typeNameOf_keyiter a.typeIs (wb ?_))
 refine wa (wpAny_fieldsOf k j ?_)
 have g:Builtin.Dict_items.ownsTuple "dict_keyiterator"=false:=by decide
 show _;refine wa (wb ?_);refine wa (wpAny_dictEntries c b ?_);rw[if_neg nofun];refine wa (wb ?_);refine wa (wpAny_dictEpoch c b ?_);rw[if_neg nofun];refine wb ?_;simp only[show ¬((i:Int)<0) from by lia,if_false,w5,Array.getElem?_eq_none f];refine wa ?_
 first|refine wa (wpAny_typeNameOfWhole_keyiter a.typeIs (wb ?_))|refine wa (wpAny_typeNameOf_keyiter a.typeIs (wb ?_))
 show wpAny _ _ (setField (.ref e) 0 .none>>=_) _ _ s;refine wa (wpAny_setField k j nofun ?_);refine wa ?_;refine wa (m:=firstArgMember _ _) (wpAny_of_eq (a:=Value.none) (by first|rfl|(rfl)) ?_);refine wg ?_ (by size_fits);simp only[raiseNew];refine wa (wpAny_handled ?_);rw[p];refine wa (wb (wpAny_throw ?_));refine wa (wpAny_isInstance (T:="StopIteration") (b:=true) ⟨_,qp _ rfl,rfl⟩ isSubtype_stop ?_);exact wb (m _ (((wv ..).extBut.push _).push _))
end
noncomputable def Pl(a:Addr)(nks:List (List Int×Addr))(vxs:AM)(b:Nat):It:=
 ⟨λi H=>H a=some (ej a nks vxs b)/\i<nks.length,λi H x c=>c=H/\∃p,nks[i]?=some p/\x=.ref p.2,λi H=>H a=some (ej a nks vxs b)/\nks.length<=i⟩
theorem xV(g:HOk P w H h)(e:H a=some (ej a nks vxs n))(s:nks.length=vxs.length):
 (a==sysModules)=false/\∃b:Array DictEntry,DRaw h a b n/\b.size=nks.length/\∀(i:Nat) (d:i<b.size) p,nks[i]?=some p->b[i].key=.ref p.2:=by
 obtain⟨⟨j,k,o,b,r,q,f,m,l⟩,_⟩:=g a _ e
 have t:k.length=nks.length:=by rw[s,r.length]
 have c:b.size=nks.length:=by
  have:=congrArg List.length l;grind
 refine⟨j,b,⟨o,q,f,m⟩,c,λi d p u=>?_⟩
 have v:b.toList[i]?=some b[i]:=by simp[d]
 grind
theorem Hq{K:W7}(L:nks.length=vxs.length)(a l:Addr):ee P w K Z (Pl a nks vxs O) [l] l (λi h=>h.IsKeyIter l a i nks.length O) where
 mem:=by simp
 obj:=λi h st b m=>by
  obtain⟨o,e,c,d⟩:=st
  ext
 keep:=λi h J st k=>by
  obtain⟨o,e,r⟩:=st;exact⟨o,k l nofun o e,r⟩
 item:=by
  intro X S V Q F i n s R H E I p st y;obtain⟨x,G⟩:=y;obtain⟨u,U,C,f,g⟩:=xV I.hok x L;obtain⟨q,t,Y,v,A,z⟩:=p l nofun;have D:=qr G;rw[<-f]at st;refine Pj st C ∅ λJ j M=>?_;have T:=I.turned (t':=s.toks) (λb o m e=>(M.2 b m).trans e) q t v A z;obtain⟨o,e,c,d⟩:=id j;rw[g i ∅ _ D];rw[f]at j;exact⟨.ref _,rfl,ip e c d (by decide) ⟨.ref _,H,T,rfl,⟨rfl,_,D,rfl⟩,j,λb m=>(p b m).1⟩⟩
 done:=by
  intro X S V Q F i n s R H E I p st y;obtain⟨x,G⟩:=y;obtain⟨u,U,C,f,g⟩:=xV I.hok x L;obtain⟨q,t,Y,v,A,z⟩:=p l nofun;rw[<-f]at st
  exact Pk (I.ok.hd F) st C (by ext) λJ N=>⟨rfl,I.turned (λb o m e=>N b o m e) q t v A z⟩
 self:=λ_ _ _ _ _ st h=>wpAny_pyIter_keyiter st h
def Hr(g:TE):TI:=λf H R=>g f H λx e=>∃a c b d,x=.ref a/\e a=some (ej a c b d)/\c.length=b.length/\R (Pl a c b d) e
theorem Hs(r:PE X l u):PI X tg l (Hr u):=by
 intro m s B H R I h;refine aL (r _ s B H _ I h) λv j g=>?_;obtain⟨x,w,d,y,n⟩:=g;obtain⟨a,z,t,C,e,A,c,q⟩:=n;subst e;cases y;obtain⟨i,E,p,f,k⟩:=xV d.hok A c;refine Pi i p ?_;rw[f];refine⟨j.heap.objs.size,[j.heap.objs.size],_,_,w,rfl,d.kept λb o e=>qe _ e,Hq c a _,⟨_,qp _ rfl,rfl,rfl⟩,λb D=>?_,q⟩
 have e:b=j.heap.objs.size:=by symm
 subst e;exact d.fpOk (qv _) (d.hok.fresh (qv _))
def sk:D->Option AN
 | .dct true a _=>if a.length<=aA then some a else none
 | _=>none
section
variable {f:AU}
theorem Ht(o:ZE X l f):ZI X tg l (b1 f sk):=⟨have o:=o.un;PI.imp (Hs o) λσ H R n=>by
 obtain⟨ρ,S,Z,G0,G,e,s,h⟩:=n;obtain⟨c,D,b⟩:=eB e;refine tOf.at D s λv F N O K L=>?_;unfold sk at b
 split at b
 case h_2=>cases b
 split at b
 case isFalse=>cases b
 rename_i g;cases b;obtain⟨a,I,t,rfl,Q,A,T⟩:=K;rcases Q with⟨z,_⟩|⟨_,j,J,r,M,Y,rfl,V⟩
 .cases z
 refine⟨a,j,t,J,rfl,L.seen _ _ r,M,h _ F N O (gu (hC g) λi H2 U m u=>⟨λd C=>?_,λhi=>⟨u _ _ (m _ _ r),?_⟩⟩)⟩
 .obtain⟨x,w,E⟩:=A.get C
  have k:i<j.length:=by
   grind
  refine⟨⟨u _ _ (m _ _ r),k⟩,λy H3 q=>⟨q.1,?_⟩⟩;obtain⟨p,B,rfl⟩:=q.2;rw[Qm,B]at w;cases w;exact E.mono m
 .have:=A.length
  ext⟩
@[simp] theorem U8(ks vs:AN):sk (.dct true ks vs)=if ks.length<=aA then some ks else none:=c6 rfl
end
section
variable {w:World}{A:Around}{E:AA}{s:Shared}
def DRaw.keep(e:DRaw h d b c)(k:∀o,h.get? d=some o->h'.get? d=some o):DRaw h' d b c:=by
 obtain⟨o,a,r⟩:=e;exact⟨o,k o a,r⟩
def U9{h h':Heap}(b:h.IsKeyIter a d i n c)(k:∀o,h.get? a=some o->h'.get? a=some o):h'.IsKeyIter a d i n c:=by
 obtain⟨o,e,r⟩:=b;exact⟨o,k o e,r⟩
theorem U_(q:A.handled=none)(I d:Addr)(c:d≠I)(a:Array DictEntry)(p:Nat):
 Walks prog w A I [I,d] [I] a.size (λi v=>∃k:i<a.size,v=a[i].key) (λi h=>h.IsKeyIter I d i a.size p/\DRaw h d a p) where
 sub:=λb n=>by symm
 frame:=λ_ _ _ st l=>⟨U9 st.1 λo e=>l I nofun o e,st.2.keep λo e=>l d nofun o e⟩
 item:=λi s Q E k st g=>Pj st.1 st.2 k λj f m=>g _ j _ ⟨k,rfl⟩ ⟨f,st.2.keep λo e=>(m.2 d c).trans e⟩ λb o n e=>(m.2 b ⋯).trans e
 done:=λs Q E st g=>Pk q st.1 st.2 (qv _) λj r=>g j _ λb o n e=>r b o ⋯ e
 self:=λi s Q E st h=>wpAny_pyIter_keyiter st.1 h
def Hu(lo:(d==sysModules)=false):W.KdlSrc prog w "dict" d d f.size (λi v=>∃m:i<f.size,v=f[i].key) (λh=>DRaw h d f j) where
 type:=λ_ a=>a.typeIs
 there:=λ_ a=>⟨let ⟨_,c,_⟩:=a;ql c,let ⟨_,c,_⟩:=a;ql c⟩
 keep:=λ_ _ a k=>a.keep λo e=>k d (.inl rfl) o e
 notList:=by decide
 notTuple:=by decide
 hint:=λ_ _ _ _ a g=>W.kdl_hint_dict a.typeIs g
 iter:=λ_ s l a=>⟨_,_,λ_ _ g=>Pi lo a g,U_ l _ d (by obtain⟨_,c,_⟩:=a;exact qm (ql c)) f j,⟨⟨_,qp _ rfl,rfl,rfl⟩,a.keep λo e=>qe _ e⟩⟩
def sq:AM->Hp->VK->Prop:=λd H Q=>∃a b c e,d=[.ref a]/\H a=some (ej a b c e)/\b.length=c.length/\b.length<=sizeLine/\∀l,H l=none->Q (.ref l) (upd H l (.lst (b.map λp=>.ref p.2)))
theorem Va(D:X.calm=true):dD X (.type "list") sq:=by
 intro v s J H K L Q I r h;obtain⟨a,b,w,N,rfl,t,o,B,q⟩:=h;obtain⟨u,rfl,E⟩:=d6 r;cases E;obtain⟨k,F,z,m,j⟩:=xV I.hok t o;refine W.kdl_call (Hu k) (I.ok.hd D) z (by ext) λC O d c y e g=>?_
 have A:Vals (b.map λp=>.ref p.2) d.toList:=by
  have f:d.toList=b.map λp=>.ref p.2:=by
   refine List.ext_getElem? λi=>?_;by_cases G:i<F.size
   .have l:i<d.size:=by rwa [g.1]
    obtain⟨_,M⟩:=g.2 i _ (Array.getElem?_eq_getElem l)
    ext
   .rw[List.getElem?_eq_none (by rw[qj,g.1];ext),List.getElem?_eq_none (by ext)]
  rw[f];clear f j t o B m q
  induction b with
  | nil=>exact .nil
  | cons p b x=>exact .cons rfl x
 exact⟨.ref _,_,I.laid y (qv _) (show ObjOk _ X.w _ C _ (.lst _) from⟨by ext,d.toList,c,A,by simpa using e⟩),rfl,q _ (I.hok.fresh (qv _))⟩
def i3:AN->Option AN
 | [.dct true a _]=>if a.length<=aA then some a else none
 | _=>none
def Hv:eO X.K sq i3:=by
 intro t w l H G Q h s r q;unfold i3 at h
 split at h
 case h_2=>cases h
 split at h
 case isFalse=>cases h
 rename_i c;cases h;obtain⟨v,rfl,i⟩:=eC r;obtain⟨a,o,e,rfl,n,g,i⟩:=i;rcases n with⟨z,_⟩|⟨_,d,j,p,k,u,rfl,x⟩
 .cases z
 have b:=g.length;simp at b;exact⟨a,d,e,j,rfl,p,k,by rw[b];exact hC c,λm f=>q m _ _ G (.hid s f _) f (s.free f) Yh g⟩
@[simp] theorem Vb(ks vs:AN):i3 [.dct true ks vs]=if ks.length<=aA then some ks else none:=c6 rfl
end
theorem Pm:∀{c:AF}{d:AM}{b:List (bp×Value)}{a:List (bp×V)}{vs:List (bp×Value)},c.length=d.length->KV (zK c d) b->KV a vs->KV (fF a (c.zip d)) (merged vs b)
 | [],[],b,a,vs,_,h,r=>by
   cases h;exact r
 | m::c,x::d,b,a,vs,j,h,r=>by
   cases h with
   | cons g f=>
     rename_i q b;obtain⟨e,i⟩:=g;show KV (fF _ (c.zip d)) (merged (stored vs q.1 q.2) b);rw[e.symm];exact Pm (by ext) f (r.put _ i)
 | [],_::_,_,_,_,h,_,_=>by simp at h
 | _::_,[],_,_,_,h,_,_=>by simp at h
def Hw:V->AM->Hp->VK->Prop:=λx e H Q=>∃(d o:Addr) (a:List _) (c:AF) (b:AM),x=.ref d/\e=[.ref o]/\d≠o/\H d=some (.dK a)/\H o=some (.dK (zK c b))/\c.length=b.length/\a.length+b.length<aA/\Q .non (upd H d (.dK (fF a (c.zip b))))
theorem Hx:vM X "dict.update" Hw:=by
 intro k s J H x S v O Q I D A h;obtain⟨d,o,g,i,c,rfl,rfl,f,m,C,p,L,q⟩:=h;cases D;obtain⟨u,rfl,z⟩:=d6 A;cases z;obtain⟨K,lo1,B,n,r⟩:=I.hok d _ m;obtain⟨M,e,t,l,y⟩:=I.hok o _ C;have N:=n.length.symm
 have G:t.length=c.length:=by
  have:=l.length;rw[lq _ _ p]at this;lia
 have j:aA=1000000:=rfl
 have E:(i.zip c).length=c.length:=by grind
 refine call_meetsIn PySem.F.slot_dict_update r.typeIs PySem.F.entry_dict_update (PySem.F.args_dict_update_2 _ _) (meets_dict_update _ d o f e) ⟨B,t,r,y,by rw[jg];ext<;>lia,λR b _ same=>?_⟩;have F:=Ey (i.zip c) g;refine⟨.non,_,mL I (by rw[m];exact .intro) same (let ⟨q,_,_,w,_⟩:=b;⟨q,w⟩) (vK (by rw[jg];lia) lo1 (Pm p l n) b),rfl,q⟩
theorem sr:∀{b:AF}{ds:AN}{a:AM},b.length=a.length->RpL K G ds a->DQ K G (b.zip ds) (b.zip a)
 | [],ds,a,c,r=>trivial
 | m::b,ds,a,c,r=>by
   cases a with
   | nil=>simp at c
   | cons x a=>
     cases ds with
     | nil=>
       cases r
     | cons d ds=>
       obtain⟨y,q,e,i,f⟩:=r;injection e with g h;subst g h;exact⟨⟨rfl,i⟩,sr ⋯ f⟩
section
variable {e:Expr}{f:AU}
def i4(l:List D×AN):D->Option (List D×AN)
 | .dct false d a=>(intsD l.1).bind λb=>(intsD d).bind λc=>if l.2.length+a.length<aA then some ((aC b l.2 (c.zip a)).1.map .int,(aC b l.2 (c.zip a)).2)else none
 | _=>none
def gO(i:Nat)(f:AU):AR:=λa=>(fZ i a).bind λl=>(f a).bind λd=>(i4 l d).map λb=>.nx (a.set i (some (.od false b.1 b.2)))
theorem Vc(i:Nat){t g c:Pos}(I:ZE X e f)(hN:X.N[i]?=some x:=by rfl)(hv:g0 X.env.scope x:=by trivial)(hd:du x:=by decide)(E:ju x:=by decide)(A:swapsWith (.Call (.Attribute (.Name x t) "update" g) [e] [] c) none pos.line X.env=pure false:=by rfl)(hs:starEach [e] X.env=[(false,eval e X.env)]:=by rfl)(r:wM X c [e]:=by rfl)(p:(g.endLine==c.line)=true:=by rfl)(o:attributeBase (.Name x t) "update" X.env (eval (.Name x t) X.env)=eval (.Name x t) X.env:=by rfl):
 ZS X (.Expr (.Call (.Attribute (.Name x t) "update" g) [e] [] c) pos) (gO i f):=⟨have I:=I.un;
 PS.imp (Aj (iB PySem.F.plainAttrs_dict PySem.F.slot_dict_update PySem.F.type_dict_update Hx (kh hN hv hd E) (g8 I ir hs) o r p hs rfl) A) λF σ H w=>by
  obtain⟨ρ,out,H0,G0,G,e,s,h⟩:=w;obtain⟨l,h1,e⟩:=qa e;obtain⟨d,h2,e⟩:=qa e;obtain⟨l',k,rfl⟩:=qc e;unfold i4 at k
  split at k
  case h_2=>cases k
  obtain⟨ns,O,k⟩:=qa k;obtain⟨ms,h5,k⟩:=qa k
  split at k
  case isFalse=>cases k
  cases k;have m:=Oz h1;obtain⟨a0,kx0,vx0,n,_,_,J,D,_⟩:=s.od i _ _ _ m;obtain⟨q1,_,_,_⟩:=hZ O J D;refine⟨_,n,.inr (.inr (.inl ⟨rfl,.inl ⟨_,q1⟩⟩)),tOf.at h2 s λv H1 U g1 r1 u=>?_⟩;obtain⟨a,kxs,K,Q,hG,hH0,dc,rk,L⟩:=u.od i _ _ _ m;rw[n]at Q;cases Q;obtain⟨e1,Z,N,e4⟩:=hZ O dc rk;obtain⟨b,kx2,y,rfl,C,B,q⟩:=r1;obtain⟨T,f2,M,f4⟩:=hZ h5 C B;have hl1:=L.length;have hl2:=q.length;obtain⟨Y,S,k2,R,V⟩:=wB (sr M q) Z N L
  exact⟨a0,b,zK ns K,ms,y,rfl,rfl,λz=>by grind,e1,u.seen _ _ T,M,by rw[lq _ _ N];ext,h σ _ U (u.mutd m n (gE (by rw[<-S];exact Yh) k2 R) (.ints _) V)⟩⟩
@[simp] theorem sv(i:Nat):gO i f ρ=(fZ i ρ).bind λl=>(f ρ).bind λd=>(i4 l d).map λa=>.nx (ρ.set i (some (.od false a.1 a.2))):=c6 rfl
end
section
open Sem (wp)
end
structure sx(K:W7)(x:Str)(st:Stmt)(f:Addr)(fd:FuncData)(T:Addr):Prop where
 ex:∃(oc:Value) (od:Option Addr) (kV doc pm:Value) (an:Option Addr) (cdv ct:Value) (osl:Array (Option Value)),
  fd=W.fnOf x x (aIa st) (aHa st) (aFa st) (.ref T) kV doc pm an cdv ct/\K.lookup f=some ⟨oc,od,.func fd,osl⟩/\W.codeIn K cdv x=true
 kp:W.keepIn K (.ref f)=true
 df:∃(oc:Value) (od:Option Addr) (i:Int) (t n:Nat) (osl:Array (Option Value)),K.lookup T=some ⟨oc,od,.seq #[.int i t] n,osl⟩
section
variable {P:P7}{w:World}
theorem Hy{st:Stmt}(F:sx K x st f fd T)(Z:mg x=some (.ref f))(S:fV N ps (aFa st))(hn:N.length=n)(L:ps.length=m)(p:∀(kV j I:Value) (D:Option Addr) (a ct:Value) (us:AC) (i:Int) (t:Nat),us.length=ps.length->∃c:Option (Array Value)->Sem (List (Str×Value)),bindArgs (W.fnOf x x (aIa st) (aHa st) (aFa st) (.ref T) kV j I D a ct) ⟨us,[]⟩=seqItems? (.ref T)>>=c/\c (some #[.int i t])=pure (ps.zip us))(hb:∀(a:Value) (A:Around) (b:List Env) (s:Shared) (H:Hp) (E:XK),Room k (A.deeper (envOfC x (aFa st) (~~~s) f a))->ZB (cW dS P w K mg base N x (aFa st) f a A b s H E).nox (aHa st) fb):aB P w K mg base (k+1) m x ps (ak m n fb):=by
 obtain⟨oc,od,kV,j,I,D,a,ct,osl,rfl,O,B⟩:=F.ex;refine⟨f,_,kz O B S (λM H Q E h=>by rw[h.1,L]) λA b s H M Q E U h=>?_,λs us R y=>?_,F.kp,Z⟩
 .obtain⟨y,ds,d,G,sm,r,e,q⟩:=h
  refine⟨_,(hb a A _ s H E U).un.nox,?_⟩;unfold ak at e
  split at e
  .obtain⟨o,z,l⟩:=qa e
   refine⟨Yd n ds,o,H,G,G,z,by rw[<-hn];exact .start sm r,?_⟩
   cases o with
   | rt d'=>cases l;exact λv C u g V=>q v C u g V
   | nx J=>cases l;exact λσ' C u Y=>q _ C u Y.gr (by rw[Rp])
   | bk J=>cases l
   | ct J=>cases l
  .cases e
 .rw[w6]at y ⊢
  obtain⟨_,_,i,t,_,_,ho⟩:=F.df;obtain⟨c,z,l⟩:=p kV j I D a ct us i t y;exact .of_defaults rfl (R _ _ ho) rfl z l
end
structure lS(K:W7)(x:Str)(st:Stmt)(f:Addr)(fd:FuncData)(T:Addr)(t:Tok):Prop where
 ex:∃(oc:Value) (od:Option Addr) (kV doc pm:Value) (an:Option Addr) (cdv ct:Value) (osl:Array (Option Value)),
  fd=W.fnOf x x (aIa st) (aHa st) (aFa st) (.ref T) kV doc pm an cdv ct/\K.lookup f=some ⟨oc,od,.func fd,osl⟩/\W.codeIn K cdv x=true
 kp:W.keepIn K (.ref f)=true
 df:∃(oc:Value) (od:Option Addr) (n:Nat) (osl:Array (Option Value)),K.lookup T=some ⟨oc,od,.seq #[.int 0 t] n,osl⟩
def xW(P:P7)(w:World)(K:W7)(mg:AD)(base:Heap)(k n:Nat)(x:Str)(ps:AJ)(fn:AN->Option D):Prop:=
 ∃a fd t,cA P w K mg base dS k a fd ps (de K (n+1) fn)/\Binds K fd ps [.int 0 t]/\W.keepIn K (.ref a)=true/\mg x=some (.ref a)
section
variable {P:P7}{w:World}
theorem Hz{x:Str}{st:Stmt}{f:Addr}{fd:FuncData}{T:Addr}{t:Tok}{N ps:AJ}{k n m:Nat}{fb:AR}(F:lS K x st f fd T t)(hg:mg x=some (.ref f))(S:fV N ps (aFa st))(hn:N.length=n)(hm:ps.length=m+1)(hbd:∀(kV doc pm:Value) (an:Option Addr) (cdv ct:Value) (us:AC),us.length=m->∃c:Option (Array Value)->Sem (List (Str×Value)),bindArgs (W.fnOf x x (aIa st) (aHa st) (aFa st) (.ref T) kV doc pm an cdv ct) ⟨us,[]⟩=seqItems? (.ref T)>>=c/\c (some #[.int 0 t])=pure (ps.zip (us++[.int 0 t])))(hb:∀(cdv:Value) (A:Around) (outer:List Env) (s:Shared) (H:Hp) (E:XK),Room k (A.deeper (envOfC x (aFa st) (~~~s) f cdv))->ZB (cW dS P w K mg base N x (aFa st) f cdv A outer s H E).nox (aHa st) fb):xW P w K mg base (k+1) m x ps (ak (m+1) n fb):=by
 obtain⟨oc,od,kV,doc,pm,an,cdv,ct,osl,rfl,lk,hcd⟩:=F.ex;refine⟨f,_,t,kz lk hcd S (λvs H Q E h=>by rw[h.1,hm]) λA outer s H vs Q E hr h=>?_,λs us hK hl=>?_,F.kp,hg⟩
 .obtain⟨hl,ds,d,G,sm,r,e,q⟩:=h
  refine⟨_,((hb cdv A outer s H E hr).un).nox,?_⟩;unfold ak at e
  split at e
  .rename_i hds
   obtain⟨o,h1,h2⟩:=qa e;refine⟨Yd n ds,o,H,G,G,h1,by rw[<-hn];exact SR.start sm r,?_⟩
   cases o with
   | rt d'=>cases h2;exact λv H' G' g r'=>q v H' G' g r'
   | nx ρ=>cases h2;exact λσ' H' G' s'=>q .non H' G' s'.gr (by rw[Rp])
   | bk ρ=>cases h2
   | ct ρ=>cases h2
  .cases e
 .rw[hm,qz,ja]at hl
  obtain⟨_,_,_,_,ho⟩:=F.df;obtain⟨c,h1,h2⟩:=hbd kV doc pm an cdv ct us ∅;exact BindsTo.of_defaults (T:=T) rfl (hK _ _ ho) rfl h1 h2
end
noncomputable def gD(ga:AV):AV:=λρ=>(ga ρ).map (·++[.int 0])
@[simp] theorem Pn(ga:AV)(ρ:Ro):gD ga ρ=(ga ρ).map (·++[.int 0]):=c6 rfl
section
variable {e:Expr}
theorem HA{j k n:Nat}{x:Str}{p:Pos}{ps:AJ}{fn:AN->Option D}(c:xW X.prog X.w X.K X.mg X.base j n x ps fn)(hr:Room k X.A)(hg:Gl X x)(ha:ZA X (e::es) ga)(hl:∀ρ l,ga ρ=some l->l.length=n)(hj:j<=k:=by first|exact qv _|ac_nf)(hdb:du x:=by decide)(he:aac X e es:=by rfl)(hpl:aad X pos es:=by rfl):ZE X (.Call (.Name x p) (e::es) [] pos) (cC (gD ga) fn):=by
 obtain⟨a,fd,t,F,hb,hk,hm⟩:=c;refine⟨PE.imp (Nk (E:=E0) F (hr.mono hj) hg hm hk hb (.cons ⟨t,rfl⟩ .nil:Vals [V.int 0] _) oO ha.un hdb he hpl) λσ H Q hx_=>?_⟩;obtain⟨ρ,d,H0,G0,G,e,s,h⟩:=hx_;unfold cC gD at e;obtain⟨l',h1,h2⟩:=qa e;obtain⟨l,h0,rfl⟩:=qc h1;refine tAof.at h0 s λvs H1 G1 g1 r1 s1=>?_;exact⟨by rw[qz,r1.length,hl ρ l h0];rfl,l++[.int 0],d,G1,s1.seen,r1.append (.cons (by rw[Rp]) .nil),h2,λv H' G' g2 r2=>h v H' G' (g1.trans g2) r2⟩
end
section
variable {e:Expr}{f:AU}
def eY(f:AU):AU:=λb=>((f b).bind bL).bind λa=>if a.length<aA then some (.dct false ((aC [] [] a).1.map .int) (aC [] [] a).2)else none
@[simp] theorem sy:eY f ρ=((f ρ).bind bL).bind λa=>if a.length<aA then some (.dct false ((aC [] [] a).1.map D.int) (aC [] [] a).2)else none:=c6 rfl
end
section
variable {e:Expr}{f:AU}
theorem HB(B:X.calm=true){E b:Pos}(C:Gl X "dict")(w:X.mg "dict"=none)(j:ZC X e f)(g:aae X e:=by rfl)(n:(backTo b (starEach [] X.env)).any (·.1)=false:=by rfl):
 ZE X (.Call (.Name "dict" E) [e] [] b) (eY f):=⟨have j:=j.un;
 PE.imp (jx (OF B) C w (by decide +kernel) (jD j jC g) (by decide) (by decide) g n) λσ H Q k=>by
  obtain⟨i,V,P,S,G,e,s,h⟩:=k;obtain⟨Y,O,e⟩:=qa e;obtain⟨d,T,o⟩:=qa O
  split at e
  case isFalse=>cases e
  rename_i c;cases e;refine tCAof.at (show Yb f _ i=some [d] by ext) s λZ U R K y u=>?_;obtain⟨v,rfl,x⟩:=eC y
  cases d with
  | lst l=>
    obtain⟨a,D,rfl,J,I⟩:=x;obtain⟨r,L,t⟩:=EB u.seen (o) I;refine⟨a,D,r,rfl,.inl J,L,by rwa [t.length],λp M=>?_⟩;obtain⟨m,z,A,N,F⟩:=wB t List.nodup_nil rfl .nil;have q:=Gr.new u.seen M (.dK (fF [] r));exact h _ _ _ (K.trans q) (⟨p,(aC [] [] Y).1.map _,m,rfl,gE (by rw[<-z];exact Yh) A N,.ints _,F.mono q.g⟩)
  | _=>cases o⟩
end
end M
namespace Lw
open PySem PySem.Spec PyProof.Rows L2 M
noncomputable def top(i:Nat):Stmt:=PySem.Challenge.pw_duskbook_k47_nots_and_all_kinds.main.body.getD i (.Pass ⟨0,0,0,0⟩)
noncomputable def gt_EXCHANGED_KINDS:List (Str×Str):=[((.ofString "eithers"),.ofString "eithers"),((.ofString "sums"),.ofString "sums"),((.ofString "ifs"),.ofString "nots"),((.ofString "nots"),.ofString "ifs")]
set_option maxHeartbeats 4000000
def Fq(K:W7)(c:AD)(x:Str)(i:Nat):Prop:=∃a d,Fun K x x (top i) a d/\c x=some (.ref a)
def Fk(K:W7)(x:Str)(i:Nat):Prop:=∃a c,W.nsIn K mainGlobals x=some (some (.ref a))/\Fun K x x (top i) a c
def Fk.on{K:W7}(F:Fk K x i)(X:K.In h)(G:h.Ns mainGlobals c):Fq K c x i:=by
 obtain⟨a,d,n,f⟩:=F;exact⟨a,d,f,W.mg_of X G n⟩
def fk_mk{K:W7}{kV e h d j:Value}(a:W.nsIn K mainGlobals x=some (some (.ref f)))(l:K.lookup f=some ⟨m,n,.func (W.fnOf x x (aIa (top i)) (aHa (top i)) (aFa (top i)) .none kV e h o d j),g⟩)(c:W.codeIn K d x=true)(k:W.keepIn K (.ref f)=true):Fk K x i:=⟨_,_,a,oP l c k⟩
def xX(K:W7)(mg:AD)(x:Str)(i:Nat):Prop:=∃a fd T t,lS K x (top i) a fd T t/\mg x=some (.ref a)
def FkD(K:W7)(x:Str)(i:Nat):Prop:=∃a fd T t,W.nsIn K mainGlobals x=some (some (.ref a))/\lS K x (top i) a fd T t
def FkD.on{K:W7}(F:FkD K x i)(X:K.In h)(G:h.Ns mainGlobals mg):xX K mg x i:=by
 obtain⟨a,fd,T,t,n,f⟩:=F;exact⟨a,fd,T,t,f,W.mg_of X G n⟩
def fkd_mk{K:W7}{x:Str}{i:Nat}{f T:Addr}{oc oc':Value}{od od' an:Option Addr}{osl osl':Array (Option Value)}{kV doc pm cdv ct:Value}{t:Tok}{n:Nat}(a:W.nsIn K mainGlobals x=some (some (.ref f)))(l:K.lookup f=some ⟨oc,od,.func (W.fnOf x x (aIa (top i)) (aHa (top i)) (aFa (top i)) (.ref T) kV doc pm an cdv ct),osl⟩)(c:W.codeIn K cdv x=true)(k:W.keepIn K (.ref f)=true)(t:K.lookup T=some ⟨oc',od',.seq #[.int 0 t] n,osl'⟩):FkD K x i:=⟨_,_,_,_,a,⟨_,_,_,_,_,_,_,_,_,rfl,l,c⟩,k,_,_,_,_,t⟩
abbrev Fs(n i:Nat)(N:AJ):Prop:=fV N (N.take n) (aFa (top i))
noncomputable abbrev kq:Nat->NameKind
 | 0=>.local
 | 1=>.free
 | 2=>.globalImplicit
 | _=>.cell
abbrev Cs(A:AJ)(i:Nat)(L:AJ)(s:List AL)(n:List (Str×Nat)):Prop:=fW A (aFa (top i)) L s (gY ((".0",.local)::n.map λp=>(p.1,kq p.2)))
def bh{A:AJ}{i:Nat}{L:AJ}{s:List AL}{n:List (Str×Nat)}(h:kE A (aFa (top i)) L s (gY ((".0",.local)::n.map λp=>(p.1,kq p.2)))=true:=by decide +kernel):Cs A i L s n:=Cd h
theorem aH{N h:AJ}{i:Scope}(a:i.kind=.function:=by rfl)(b:i.isCoroutine=false:=by rfl)(c:i.isGenerator=false:=by rfl)(d:N.Nodup:=by decide +kernel)(e:N.take h.length=h:=by rfl)(f:∀x∈h,i.names.lookup x=some .local\/i.names.lookup x=some .cell:=by decide +kernel)(g:∀y∈i.names,y.2≠.free:=by decide +kernel):fV N h i:=⟨a,b,c,d,e,f,g⟩
def Po(x:Str)(i:Nat)(h:AJ):Prop:=∀(kV a e:Value) (d:Option _) (c f:Value) (b:List _),b.length=h.length->bindArgs (W.fnOf x x (aIa (top i)) (aHa (top i)) (aFa (top i)) .none kV a e d c f) ⟨b,[]⟩=pure (h.zip b)
theorem cm{K:W7}{i k n m:Nat}(F:Fq K j x i)(S:fV N r (aFa (top i)))(t:∀{f:Addr}{e:Value}{A:Around}{c:List Env}{s:Shared}{H:Hp}{E:XK},Room k (A.deeper (envOfC x (aFa (top i)) (~~~s) f e))->ZB (cW dS P w K j d N x (aFa (top i)) f e A c s H E).nox (aHa (top i)) fb)(o:N.length=n:=by rfl)(l:r.length=m:=by rfl)(B:Po x i r:=by and_intros):aB P w K j d (k+1) m x r (ak m n fb):=by
 obtain⟨a,q,f,h⟩:=F;exact Dk f (f.binds B) h (OW f S o l λ_ _ _ _ _ _ p=>t p)
def HC{K:W7}(F:xX K mg "outcome" i)(S:fV N ["book","hands","start"] (aFa (top i)))(hb:∀{f:Addr}{cdv:Value}{A:Around}{outer:List Env}{s:Shared}{H:Hp}{E:XK},Room k (A.deeper (envOfC "outcome" (aFa (top i)) (~~~s) f cdv))->ZB (cW dS P w K mg base N "outcome" (aFa (top i)) f cdv A outer s H E).nox (aHa (top i)) fb)(hn:N.length=n:=by rfl)(hB:i=88:=by rfl):xW P w K mg base (k+1) 2 "outcome" ["book","hands","start"] (ak 3 n fb):=by
 subst hB;obtain⟨a,fd,T,t,f,h⟩:=F;refine Hz f h S hn rfl (λ_ _ _ _ _ _ us hl=>?_) λ_ _ _ _ _ _ hr=>hb hr;obtain⟨_,_,rfl⟩:=iV hl;exact⟨_,rfl,rfl⟩
theorem HD{P:P7}{w:World}{K:W7}{mg:AD}{base:Heap}{i k n:Nat}{N:AJ}{fb:AR}(F:xX K mg "outcome" i)(S:fV N ["book","hands","start"] (aFa (top i)))(hb:∀{f:Addr}{cdv:Value}{A:Around}{outer:List Env}{s:Shared}{H:Hp}{E:XK},Room k (A.deeper (envOfC "outcome" (aFa (top i)) (~~~s) f cdv))->ZB (cW dS P w K mg base N "outcome" (aFa (top i)) f cdv A outer s H E).nox (aHa (top i)) fb)(hn:N.length=n:=by rfl)(hB:i=88:=by rfl):aB P w K mg base (k+1) 3 "outcome" ["book","hands","start"] (ak 3 n fb):=by
 subst hB;obtain⟨a,fd,T,t,f,h⟩:=F
 have f':sx K "outcome" (top 88) a fd T:=⟨f.ex,f.kp,by
  obtain⟨oc,od,n,osl,e⟩:=f.df
  exact⟨oc,od,0,t,n,osl,e⟩⟩
 refine Hy f' h S hn rfl (λ_ _ _ _ _ _ us _ _ hl=>?_) λ_ _ _ _ _ _ hr=>hb hr;obtain⟨_,_,_,rfl⟩:=iW hl;exact⟨_,rfl,rfl⟩
theorem i5{P:P7}{w:World}{K:W7}{d:AD}{b:Heap}{x:Str}{i m L:Nat}{ps:AJ}{mr:Nat->AN->Option D}(F:Fq K d x i)(h0:mr 0=λ_=>none)(hs:∀{k j:Nat},aB P w K d b k m x ps (mr j)->L<=k->aB P w K d b (k+1) m x ps (mr (j+1)))(g:ps.length=m:=by rfl)(B:Po x i ps:=by and_intros):∀j,aB P w K d b (L+j) m x ps (mr j)
 | 0=>by
   obtain⟨a,l,f,h⟩:=F;rw[h0];exact Dx f (f.binds B) h g
 | j+1=>hs (i5 F h0 hs g B j) (Nat.le_add_right _ _)
def Pp:∀ρ l,Yb a ae ρ=some l->l.length=1:=mS λ_ _ h=>C1 h
def HE:∀ρ l,Yb a (Yb b ae) ρ=some l->l.length=2:=mS Pp
def Pq:∀ρ l,Yb a (Yb c (Yb b ae)) ρ=some l->l.length=3:=mS HE
def Pr:∀ρ l,Yb a (Yb d (Yb b (Yb c ae))) ρ=some l->l.length=4:=mS Pq
def Pt:∀ρ l,Yb a (Yb e (Yb b (Yb d (Yb c ae)))) ρ=some l->l.length=5:=mS Pr
def Vd:∀ρ l,Yb a (Yb f (Yb b (Yb d (Yb c (Yb e ae))))) ρ=some l->l.length=6:=mS Pt
structure Bl(K:W7)(w:World)(mg:AD):Prop where
 Len:mg "len"=none
 Range:mg "range"=none
 List:mg "list"=none
 Tuple:mg "tuple"=none
 Int:mg "int"=none
 Bool:mg "bool"=none
 Str:mg "str"=none
 Sorted:mg "sorted"=none
 Any:mg "any"=none
 All:mg "all"=none
 Isinstance:mg "isinstance"=none
 Enumerate:mg "enumerate"=none
 Reversed:mg "reversed"=none
 Set:mg "set"=none
 Min:mg "min"=none
 Dict:mg "dict"=none
 g_EXCHANGED_KINDS:GD K w mg "EXCHANGED_KINDS" gt_EXCHANGED_KINDS
 f1:Fq K mg "contrary" 1
 f2:Fq K mg "led_to" 2
 f3:Fq K mg "is_road" 3
 f4:Fq K mg "traced" 4
 f5:Fq K mg "ways_from" 5
 f8:Fq K mg "exchanged_rule" 8
 f9:Fq K mg "exchanged" 9
 f11:Fq K mg "beacons_with" 11
 f12:Fq K mg "is_rising" 12
 f14:Fq K mg "both_added" 14
 f15:Fq K mg "added" 15
 f16:Fq K mg "pairs_added" 16
 f17:Fq K mg "cleared" 17
 f18:Fq K mg "reduced" 18
 f20:Fq K mg "either_holds" 20
 f21:Fq K mg "sum_holds" 21
 f22:Fq K mg "if_holds" 22
 f23:Fq K mg "rule_holds" 23
 f24:Fq K mg "broken_rules" 24
 f25:Fq K mg "holds" 25
 f26:Fq K mg "beacons_in" 26
 f27:Fq K mg "is_void" 27
 f28:Fq K mg "without" 28
 f30:Fq K mg "is_place" 30
 f31:Fq K mg "body_is_known" 31
 f32:Fq K mg "is_step" 32
 f33:Fq K mg "is_derivation" 33
 f34:Fq K mg "derived" 34
 f35:Fq K mg "step_to_more" 35
 f36:Fq K mg "derived_in_full" 36
 f38:Fq K mg "is_broken" 38
 f39:Fq K mg "lead_there_and_back" 39
 f40:Fq K mg "clash_good" 40
 f41:Fq K mg "cross_good" 41
 f42:Fq K mg "late_good" 42
 f43:Fq K mg "odd_good" 43
 f44:Fq K mg "first_ones" 44
 f45:Fq K mg "is_first_part" 45
 f46:Fq K mg "is_last_part" 46
 f47:Fq K mg "lone_good" 47
 f48:Fq K mg "either_paper_good" 48
 f49:Fq K mg "storm_good" 49
 f51:Fq K mg "sayings_of" 51
 f52:Fq K mg "lead_to_one_another" 52
 f53:Fq K mg "clash_found" 53
 f54:Fq K mg "cross_found" 54
 f55:Fq K mg "late_found" 55
 f56:Fq K mg "storms_paper" 56
 f57:Fq K mg "free_saying" 57
 f58:Fq K mg "truths_made" 58
 f59:Fq K mg "plan_row" 59
 f60:Fq K mg "either_outcome" 60
 f62:Fq K mg "rows_by_beacon" 62
 f63:Fq K mg "is_plan_row" 63
 f64:Fq K mg "come_to" 64
 f65:Fq K mg "either_is_kept" 65
 f66:Fq K mg "plan_good" 66
 f67:Fq K mg "is_sum_row" 67
 f68:Fq K mg "replaced" 68
 f69:Fq K mg "sums_good" 69
 f70:Fq K mg "are_some_of" 70
 f71:Fq K mg "ahead_of" 71
 f72:Fq K mg "is_row" 72
 f73:Fq K mg "holds_where_lit" 73
 f74:Fq K mg "rows_good" 74
 f75:Fq K mg "keeper_good" 75
 f77:Fq K mg "places_to_none" 77
 f78:Fq K mg "places_to_beacon" 78
 f79:Fq K mg "some_of" 79
 f80:Fq K mg "facts_beside" 80
 f81:Fq K mg "if_outcome" 81
 f83:Fq K mg "last_beacon" 83
 f84:Fq K mg "storms_places" 84
 f85:Fq K mg "sum_rows" 85
 f86:Fq K mg "sum_outcome" 86
 f88:xX K mg "outcome" 88
 f90:Fq K mg "good" 90
 f92:Fq K mg "_law_cell" 92
 f93:Fq K mg "_law_mixed" 93
 f94:Fq K mg "_law_hands" 94
 f96:Fq K mg "_law_rule" 96
 f97:Fq K mg "_law_plain" 97
 f98:Fq K mg "_law_truths" 98
 f99:Fq K mg "_law_good" 99
 f100:Fq K mg "_law_drawn" 100
 f101:Fq K mg "_law_turned" 101
section
variable {P:P7}{w:World}{K:W7}{mg:AD}{base:Heap}
def Ve:Fs 1 1 ["saying"]:=aH
def Pu:AR:=ah (av (Yb (b2 (aa 0) (aab 0) ai) (Yb (gq (b2 (aa 0) (aab 1) ai)) ae)))
def gb:AN->Option D:=ak 1 1 Pu
open Lean in
abbrev tUU:=TSyntax `Lean.Parser.Tactic.tacticSeq
open Lean in
def tVV(n:String):=mkIdent n.toName
open Lean in
def tA(h:Array Term)(s:List String):MacroM (Array tUU):=do
 let go (l:List String) (x:Term):MacroM tUU:=do
  let a <-l.tail.toArray.mapM λn=>if n=="q" then `(?_)else if n=="u" then `(_)else if n=="f" then `(λ_ _ _ _ _=>?_)else if n=="h" then pure x else pure (tVV n)
  `(tacticSeq| refine $(tVV l.head!) $a*)
 return (<-s.toArray.mapM λs=>do
  let l:=s.splitOn " "
  if l.contains "h" then h.mapM (go l)else return #[<-go l (<-`(_))]).flatten
set_option hygiene false in
open Lean in
local macro_rules | `(tactic| exists $xs,*)=>do
 let h:=xs.getElems
 let t <-("ZC/1 Name|Yo u/0 u|Yp q;ZA/0 u|dj q q|fv;ZE/3 lF|gL q/4 hV|F9 u q/4 gC|F8 u q/4 si|Hf q q/1 Name|h6 u/1 Constant|dz|jN|Fi|qM/1 Subscript|lA q q|FX hr.units q q|Ga hr.units q q|Gk q q q|FU bl.g_EXCHANGED_KINDS rfl q/1 Call|HA h hr rfl q q|FR h hr rfl q q|lB B7 C2 rfl bl.Len PySem.boot_len q|lB q DF rfl bl.All boot_all q|iS jA jE rfl bl.Tuple boot_tuple q|lB q DE rfl bl.Any boot_any q|FR rc hr rfl q q|HB rfl rfl bl.Dict q|wQ q rfl rfl bl.Isinstance bl.Tuple boot_tuple Ds|Gf hr.units q q q q|wQ q rfl rfl bl.Isinstance bl.Bool boot_bool Dp|UV rfl rfl bl.Tuple rfl bl.Reversed q|He q q|wQ q rfl rfl bl.Isinstance bl.Str boot_str Dq|wQ q rfl rfl bl.Isinstance bl.Int boot_int Do|iS Td C4 rfl bl.Int boot_int q|lB q qB rfl bl.Min boot_min q/1 Tuple|h8 q/1 Compare|wL hr.units q q|Fp hr.units q q|qO hr.units q q|Fl q q|FJ q q|FY hr.units q q|FI q q|Fm q q|F7 Bd o5 ku o5 q q q|Gb hr.units q q|Gg q q/1 UnaryOp|FS q|qQ q/1 BoolOp|FE q q|FC q|FG q q|FD q/1 BinOp|h7 q q|wO q q|wK q q|qN q q|Gp q q|Fj q q|qZ q q/1 IfExp|FH q q q/0 u|gL q;ZB/0 u|f6 q|eX q q|iT;ZS/4 wF|qU u q/1 Return|jP q/1 If|iU q q q/1 Assign|FQ u q h rfl q f f f q|qV u q q|FM u q q|Gd u q|Ge hr.units u q q|Gh rfl u q rfl bl.Dict q|F4 hr.units u q q q|F3 hr.units u q q|Ho hr.units rfl u q rfl bl.Dict q|sg q q/1 For|qW jd rfl q q q/1 Expr|OU u q|Vc u q|UW u q/1 While|FP u jd q q/1 AugAssign|FN u q q;ZG/1 Name|ni u q/1 Tuple|OV u u rfl q|G9 u u u rfl q;jM/0 u|ew q q|eE;ZI/0 u|wN q|UU rfl bl.Enumerate q|FO rfl bl.Range q|UT rfl bl.Range q|Ht q;ZF/1 ListComp|qY h rfl q f f f q/1 List|qT q|F5 u/1 Call|OT Tu C3 rfl bl.List boot_list q|UX rfl rfl bl.Sorted rfl bl.Set q|UY rfl rfl bl.Sorted rfl bl.Set q q|lC q Uv rfl bl.Sorted boot_sorted q|OT q Hv rfl bl.List boot_list q|lC mW mX rfl bl.Sorted boot_sorted q/1 BinOp|FT q q/1 Subscript|OS q q q;gK/0 u|qX|Gm q;ZT/4 iN|F_ u q/1 Compare|jO hr.units q q|Fo hr.units q q|FL q q|Ft hr.units q q|Fn q q|FK q q|qP hr.units q q|Gj hr.units q q|FZ hr.units q q|F0 hr.units q q|Gi hr.units q q|Gc hr.units q q/1 UnaryOp|Fz q/0 u|Fu q|Gn q;ZW/1 BoolOp|Fy q q|Fv q|Fx q q|Fw q;ZO/0 u|qS q|qR".splitOn ";").toArray.mapM λj=>do
  let g:=j.splitOn "/"
  let J:=tVV g.head!
  let s <-g.tail.toArray.mapM λg=>do
   let r:=g.splitOn "|"
   let w:=r.head!.splitOn " "
   let c:=tVV w.tail.head!
   let k:=w.head!.toNat!
   let a <-tA h r.tail
   if k==0 then `(tacticSeq| first $[| $a]*)else if k==1 then `(tacticSeq| (with_reducible show $J _ (.$c ..) ..);first $[| $a]*)else
    let u <-(List.replicate (k-2) J).toArray.mapM λ_=>`(_)
    `(tacticSeq| (with_reducible show $J _ _ ($c $u*));first $[| $a]*)
  `(tacticSeq| (with_reducible show $J ..);first $[| $s]*)
 let r:Array Term:=("HE Pq Pp Pr Pt Vd".splitOn " ").toArray.map λn=>tVV n
 let b <-tA h ("pv rfl|Dg rfl rfl|DC rfl|DB rfl|Nj rfl|Uu rfl|Va rfl".splitOn "|")
 `(tactic| ((try refine cm $(h[0]!) $(h[1]?.getD h[0]!) λhr=>?_);repeat' first $[| $t]* $[| with_reducible exact $r]* $[| exact($h).nd]* | exact⟨rfl,rfl,rfl,rfl⟩ $[| $b]* $[| exact $h]* | fail))
variable (bl:Bl K w mg)
def nz:aB P w K mg base 1 1 "contrary" ["saying"] gb:=by
 exists bl.f1,Ve
def Pv:Fs 2 2 ["book","saying","against","led","rule","others"]:=aH
def Vf:Cs ["book","saying","against","led","rule","others"] 2 ["other","against"] [none,some 2] [("other",0),("against",1)]:=bh
def HF:AT:=b2 (aa 0) (aa 1) (az true)
def HG:AU:=ab 0
def sA:AR:=aM (b2 (aa 2) (aa 4) (b7 false)) (ag (bf 5 (Yw (b1 (ab 4) Yc) [none,some 2] (aj 0) (HF) (HG))) (dg 3 (mR (b1 (aa 5) aD) (b2 (aa 5) (aab 0) ai) (ab 2)) cf)) au
@[simp] def Pw:AR:=(wF [3] (ah (ab 3)))
@[simp] def Px:AR:=ag (bq (b1 (b2 (aa 0) (aab 1) ai) Yc) (aj 4) sA) Pw
@[simp] def Py:AR:=ag (bf 3 (bC ae)) Px
def HH:AR:=ag (ar 2 (cC (Yb (ab 1) ae) gb)) Py
def sC:AN->Option D:=ak 2 6 HH
def Pz:aB P w K mg base 2 2 "led_to" ["book","saying"] sC:=by
 refine cm bl.f2 Pv λhr=>?_;unfold HH Py Px Pw
 exists Pv,nz bl,Vf
def Vg:Fs 2 3 ["book","road","place"]:=aH
def xY:AR:=(aM (b2 (b2 (aa 1) (aa 2) ai) (cC (Yb (ab 0) (Yb (b2 (aa 1) (b2 (aa 2) (aab 1) eP) ai) ae)) sC) (b7 true)) (ah (kD (.bl false))) au)
def HI:AR:=(ag (bq (cF (Yb (aab 1) (Yb (cC (Yb (aa 1) ae) bO) ae)) eS) (aj 2) xY) (ah (mB (b2 (cC (Yb (aa 1) ae) bO) (aab 0) CL))))
def nA:AN->Option D:=ak 2 3 HI
def PC:aB P w K mg base 3 2 "is_road" ["book","road"] nA:=by
 exists bl.f3,Vg,Pz bl
def HJ:Fs 2 4 ["ahead","last","road","saying"]:=aH
def xZ:AR:=ag (dg 2 (ab 3) cf) (ar 3 (b2 (aa 0) (aa 3) bV))
@[simp] def Vh:AR:=ah (λa=>(k8 (aa 2) a).map .tup)
@[simp] def Vi:AR:=ag (dw (b2 (aa 3) (kD .non) (cc true)) xZ 4000) Vh
@[simp] def Vj:AR:=ag (ar 3 (ab 1)) Vi
def PD:AR:=ag (bf 2 (bC ae)) Vj
def jU:AN->Option D:=ak 2 4 PD
def HK:aB P w K mg base 1 2 "traced" ["ahead","last"] jU:=by
 exists bl.f4,HJ
def PF:Fs 2 5 ["book","saying","ahead","reached","place","led"]:=aH
def nB:AR:=aM (b2 (aa 5) (aa 2) (cZ true)) (ag (iM 2 (aa 5) (b2 (aa 3) (aa 4) ai)) (dg 3 (ab 5) cf)) au
def sD:AR:=ag (bq (b1 (cC (Yb (ab 0) (Yb (b2 (aa 3) (aa 4) ai) ae)) sC) Yc) (aj 5) nB) (kU 4 (aab 1))
@[simp] def x4:AR:=(wF [2] (ah (ab 2)))
@[simp] def PH:AR:=ag (dw (b2 (aa 4) (cC (Yb (aa 3) ae) bO) eQ) sD 4000) x4
@[simp] def PJ:AR:=ag (ar 4 (aab 0)) PH
@[simp] def PK:AR:=ag (bf 3 (bC (Yb (ab 1) ae))) PJ
def HL:AR:=ag (ll 2 (ab 1) (kD .non)) PK
def nC:AN->Option D:=ak 2 6 HL
def Vk:aB P w K mg base 3 2 "ways_from" ["book","saying"] nC:=by
 refine cm bl.f5 PF λhr=>?_;unfold HL PK PJ PH x4
 exists PF,Pz bl
def Vl:Fs 2 8 ["kind","rule"]:=aH
def Vm:Cs ["kind","rule"] 8 ["saying"] [none] [("saying",0),("contrary",2)]:=bh
def HM:AU:=cC (Yb (ab 0) ae) gb
@[simp] def Vn:AR:=ah (ab 1)
@[simp] def Vo:AR:=ag (aM (b2 (aa 0) (kD (.str "sums")) (az false)) (ah (av (Yb (b2 (aa 1) (aab 0) ai) (Yb (mB (b2 (b2 (aa 1) (aab 1) ai) (mB (b2 (b2 (cC (Yb (b2 (aa 1) (aab 0) ai) ae) bO) (aab 2) bb) (aab 1) (az false))) (az true))) ae)))) au) Vn
def x5:AR:=ag (aM (b2 (aa 0) (kD (.str "eithers")) (az false)) (ah (cC (Yb (lF (cF (Yb (lF (Yw (b1 (ab 1) Yc) [none] (aj 0) tY (HM))) ae) fq)) ae) bD)) au) Vo
def x6:AN->Option D:=ak 2 2 x5
def Vp:aB P w K mg base 2 2 "exchanged_rule" ["kind","rule"] x6:=by
 exists bl.f8,Vl,Vm,nz bl
def Vq:Fs 1 9 ["book","kind"]:=aH
def Vr:Cs ["book","kind"] 9 ["rule","kind"] [none,some 1] [("rule",0),("exchanged_rule",2),("kind",1)]:=bh
def HN:AU:=cC (Yb (ab 1) (Yb (ab 0) ae)) x6
def PL:AR:=ag (ar 1 (b2 (aa 0) (aab 0) ai)) (ah (av (Yb (b1 (aa 1) (iK gt_EXCHANGED_KINDS)) (Yb (cC (Yb (lF (Yw (b1 (b2 (aa 0) (aab 1) ai) Yc) [none,some 1] (aj 0) tY (HN))) ae) bD) ae))))
def i6:AN->Option D:=ak 1 2 PL
def x8:aB P w K mg base 3 1 "exchanged" ["book"] i6:=by
 exists bl.f9,Vq,Vr,Vp bl
def Vs:Fs 3 11 ["hands","start","hand"]:=aH
def Vt:Cs ["hands","start","hand"] 11 ["beacon","hands","hand"] [none,some 0,some 2] [("beacon",0),("hand",1),("hands",1)]:=bh
def HP:AT:=b2 (b2 (aa 1) (aa 0) ai) (aa 2) (az false)
def HQ:AU:=ab 0
def PM:AR:=ah (lF (Yw (cF (Yb (ab 1) (Yb (cC (Yb (aa 0) ae) bO) ae)) eS) [none,some 0,some 2] (aj 0) (HP) (HQ)))
def Ys:AN->Option D:=ak 3 3 PM
def sE:aB P w K mg base 1 3 "beacons_with" ["hands","start","hand"] Ys:=by
 exists bl.f11,Vs,Vt
def Vu:Fs 1 12 ["numbers"]:=aH
def PN:AR:=(ah (mB (b2 (lF (cF (Yb (aa 0) ae) eR)) (lF (wC (aa 0))) (az false))))
def nE:AN->Option D:=ak 1 1 PN
def HR:aB P w K mg base 1 1 "is_rising" ["numbers"] nE:=by
 exists bl.f12,Vu
def Vv:Fs 2 14 ["rule","other"]:=aH
def PQ:AR:=ah (av (Yb (cC (Yb (lF (wJ (b2 (aa 0) (aab 0) ai) (b2 (aa 1) (aab 0) ai))) ae) bD) (Yb (mB (b2 (b2 (aa 0) (aab 1) ai) (b2 (aa 1) (aab 1) ai) (az true))) ae)))
def jV:AN->Option D:=ak 2 2 PQ
def HS:aB P w K mg base 1 2 "both_added" ["rule","other"] jV:=by
 exists bl.f14,Vv
def HU:Fs 2 15 ["book","places","whole","place"]:=aH
def HV:AR:=(ar 2 (cC (Yb (ab 2) (Yb (b2 (b2 (aa 0) (aab 1) ai) (aa 3) ai) ae)) jV))
@[simp] def HW:AR:=(ah (ab 2))
@[simp] def HX:AR:=(ag (bq (b1 (ab 1) Yc) (aj 3) HV) HW)
def sF:AR:=(ag (ar 2 (av (Yb (av ae) (Yb (kD (.bl false)) ae)))) HX)
def sG:AN->Option D:=ak 2 4 sF
def HY:aB P w K mg base 2 2 "added" ["book","places"] sG:=by
 exists bl.f15,HU,HS bl
def Vw:Fs 2 16 ["pair","other"]:=aH
def PR:AR:=ah (av (Yb (cC (Yb (lF (wJ (b2 (aa 0) (aab 0) ai) (b2 (aa 1) (aab 0) ai))) ae) bD) (Yb (cC (Yb (b2 (aa 0) (aab 1) ai) (Yb (b2 (aa 1) (aab 1) ai) ae)) jV) ae)))
def x9:AN->Option D:=ak 2 2 PR
def Vx:aB P w K mg base 2 2 "pairs_added" ["pair","other"] x9:=by
 exists bl.f16,Vw,HS bl
def Vy:Fs 2 17 ["pair","by_last","left"]:=aH
def HZ:AR:=ar 2 (cC (Yb (ab 2) (Yb (b2 (aa 1) (b2 (b2 (b2 (aa 2) (aab 1) ai) (aab 0) ai) (b1 (aab 1) bE) ai) cJ) ae)) x9)
@[simp] def Vz:AR:=ah (ab 2)
@[simp] def VA:AR:=ag (dw (bU (b1 (b2 (b2 (aa 2) (aab 1) ai) (aab 0) ai) aD) (b2 (b2 (b2 (b2 (aa 2) (aab 1) ai) (aab 0) ai) (b1 (aab 1) bE) ai) (aa 1) (cK false))) HZ 4000) Vz
def PU:AR:=ag (ar 2 (ab 0)) VA
def nF:AN->Option D:=ak 2 3 PU
def VB:aB P w K mg base 3 2 "cleared" ["pair","by_last"] nF:=by
 exists bl.f17,Vy,Vx bl
def PX:Fs 1 18 ["book","by_last","void","place","rule","pair","beacons"]:=aH
def VC:Cs ["book","by_last","void","place","rule","pair","beacons"] 18 ["last","by_last"] [none,some 1] [("last",0),("by_last",1)]:=bh
def sH:AR:=ag (ar 5 (hV [1] (cC (Yb (av (Yb (av (Yb (ab 3) ae)) (Yb (ab 4) ae))) (Yb (ab 1) ae)) nF))) (ag (ar 6 (b2 (b2 (aa 5) (aab 1) ai) (aab 0) ai)) (aM (b1 (aa 6) aD) (gF 1 (b2 (aa 6) (b1 (aab 1) bE) ai) (ab 5)) (aM (bU (b1 (b2 (b2 (aa 5) (aab 1) ai) (aab 1) ai) aD) (b2 (aa 2) (kD .non) (cc false))) (ar 2 (b2 (aa 5) (aab 0) ai)) au)))
def H_:AU:=b2 (aa 1) (aa 0) cJ
@[simp] def Ia:AR:=(wF [1] (ah (av (Yb (lF (Yw (b1 (lF (cF (Yb (aa 1) ae) lr)) Yc) [none,some 1] (aj 0) tY (H_))) (Yb (ab 2) ae)))))
@[simp] def Ib:AR:=ag (bq (b1 (b2 (aa 0) (aab 1) ai) gz) (fD 3 4) sH) Ia
@[simp] def Ic:AR:=ag (ar 2 (kD .non)) Ib
def Ie:AR:=ag (m6 1) Ic
def sI:AN->Option D:=ak 1 7 Ie
def VD:aB P w K mg base 4 1 "reduced" ["book"] sI:=by
 refine cm bl.f18 PX λhr=>?_;unfold Ie Ic Ib Ia
 exists PX,VB bl,VC
def VE:Fs 2 20 ["rule","evening"]:=aH
def VF:Cs ["rule","evening"] 20 ["saying","evening"] [none,some 1] [("saying",0),("evening",1)]:=bh
def Ig:AU:=mB (b2 (b2 (aa 1) (b2 (aa 0) (aab 0) ai) ai) (b2 (aa 0) (aab 1) ai) (az false))
def PY:AR:=ah (cC (Yb (lF (Yw (b1 (ab 0) Yc) [none,some 1] (aj 0) tY (Ig))) ae) eU)
def x_:AN->Option D:=ak 2 2 PY
def VG:aB P w K mg base 1 2 "either_holds" ["rule","evening"] x_:=by
 exists bl.f20,VE,VF
def VH:Fs 2 21 ["rule","evening","lit_ones"]:=aH
def VI:Cs ["rule","evening","lit_ones"] 21 ["beacon","evening"] [none,some 1] [("beacon",0),("evening",1)]:=bh
def Ih:AT:=b1 (b2 (aa 1) (aa 0) ai) aD
def Ii:AU:=ab 0
def PZ:AR:=ag (bf 2 (Yw (b1 (b2 (aa 0) (aab 0) ai) Yc) [none,some 1] (aj 0) (Ih) (Ii))) (ah (mB (b2 (mB (b2 (b2 (cC (Yb (aa 2) ae) bO) (aab 2) bb) (aab 1) (az false))) (b2 (aa 0) (aab 1) ai) (az false))))
def ya:AN->Option D:=ak 2 3 PZ
def VJ:aB P w K mg base 1 2 "sum_holds" ["rule","evening"] ya:=by
 exists bl.f21,VH,VI
def VL:Fs 3 22 ["rule","evening","lit"]:=aH
def VM:Cs ["rule","evening","lit"] 22 ["beacon","evening","lit"] [none,some 1,some 2] [("beacon",0),("evening",1),("lit",1)]:=bh
def Ij:AU:=mB (b2 (b2 (aa 1) (aa 0) ai) (aa 2) (az true))
def yb:AR:=ag (aM (b1 (cC (Yb (lF (Yw (b1 (b2 (aa 0) (aab 0) ai) Yc) [none,some 1,some 2] (aj 0) tY (Ij))) ae) eU) aD) (ah (kD (.bl true))) au) (ah (b_ (mB (b2 (b2 (aa 0) (aab 1) ai) (kD .non) (cc true))) (mB (b2 (b2 (aa 1) (b2 (aa 0) (aab 1) ai) ai) (aa 2) (az false)))))
def yc:AN->Option D:=ak 3 3 yb
def VN:aB P w K mg base 1 3 "if_holds" ["rule","evening","lit"] yc:=by
 exists bl.f22,VL,VM
def VO:Fs 3 23 ["kind","rule","evening"]:=aH
@[simp] def VP:AR:=ah (cC (Yb (ab 1) (Yb (ab 2) (Yb (mB (b2 (aa 0) (kD (.str "ifs")) (az false))) ae))) yc)
@[simp] def VQ:AR:=ag (aM (b2 (aa 0) (kD (.str "sums")) (az false)) (ah (cC (Yb (ab 1) (Yb (ab 2) ae)) ya)) au) VP
def sJ:AR:=ag (aM (b2 (aa 0) (kD (.str "eithers")) (az false)) (ah (cC (Yb (ab 1) (Yb (ab 2) ae)) x_)) au) VQ
def sL:AN->Option D:=ak 3 3 sJ
def P0:aB P w K mg base 2 3 "rule_holds" ["kind","rule","evening"] sL:=by
 exists bl.f23,VO,VG bl,VJ bl,VN bl
def VR:Fs 2 24 ["book","evening"]:=aH
def VS:Cs ["book","evening"] 24 ["place","rule","book","evening"] [none,none,some 0,some 1] [("place",0),("rule",0),("rule_holds",2),("book",1),("evening",1)]:=bh
def Ik:AT:=aZ (b1 (cC (Yb (b2 (aa 2) (aab 0) ai) (Yb (ab 1) (Yb (ab 3) ae))) sL) aD)
def Il:AU:=ab 0
def P2:AR:=ah (lF (Yw (b1 (b2 (aa 0) (aab 1) ai) gz) [none,none,some 0,some 1] (fD 0 1) (Ik) (Il)))
def yd:AN->Option D:=ak 2 2 P2
def VT:aB P w K mg base 3 2 "broken_rules" ["book","evening"] yd:=by
 exists bl.f24,VR,VS,P0 bl
def Im:Fs 2 25 ["book","evening"]:=aH
def sM:AR:=ah (mB (b2 (cC (Yb (cC (Yb (ab 0) (Yb (ab 1) ae)) yd) ae) bO) (aab 0) (az false)))
def ye:AN->Option D:=ak 2 2 sM
def Io:aB P w K mg base 4 2 "holds" ["book","evening"] ye:=by
 exists bl.f25,Im,VT bl
def VW:Fs 2 26 ["kind","rule"]:=aH
def VY:Cs ["kind","rule"] 26 ["saying"] [none] [("saying",0)]:=bh
def Ip:AU:=b2 (aa 0) (aab 0) ai
@[simp] def VZ:AR:=ah (lF (b2 (lF (cF (Yb (b2 (aa 1) (aab 0) ai) ae) eR)) (lF (bC (Yb (b2 (aa 1) (aab 1) ai) ae))) cu))
@[simp] def V0:AR:=ag (aM (c_ (b2 (aa 0) (kD (.str "sums")) (az false)) (b2 (b2 (aa 1) (aab 1) ai) (kD .non) (cc false))) (ah (lF (cF (Yb (b2 (aa 1) (aab 0) ai) ae) eR))) au) VZ
def yf:AR:=ag (aM (b2 (aa 0) (kD (.str "eithers")) (az false)) (ah (lF (Yw (b1 (ab 1) Yc) [none] (aj 0) tY (Ip)))) au) V0
def yg:AN->Option D:=ak 2 2 yf
def V3:aB P w K mg base 1 2 "beacons_in" ["kind","rule"] yg:=by
 exists bl.f26,VW,VY
def V4:Fs 2 27 ["kind","rule"]:=aH
def Iq:AR:=ah (b_ (mB (b2 (cC (Yb (cC (Yb (ab 0) (Yb (ab 1) ae)) yg) ae) bO) (aab 0) (az false))) (gq (cC (Yb (ab 0) (Yb (ab 1) (Yb (av ae) ae))) sL)))
def sN:AN->Option D:=ak 2 2 Iq
def P3:aB P w K mg base 3 2 "is_void" ["kind","rule"] sN:=by
 exists bl.f27,V4,V3 bl,P0 bl
def V5:Fs 2 28 ["beacons","beacon"]:=aH
def V6:Cs ["beacons","beacon"] 28 ["other","beacon"] [none,some 1] [("other",0),("beacon",1)]:=bh
def sO:AT:=b2 (aa 0) (aa 1) (az true)
def sP:AU:=ab 0
def Ir:AR:=ah (cC (Yb (lF (Yw (b1 (ab 0) Yc) [none,some 1] (aj 0) (sO) (sP))) ae) bD)
def jW:AN->Option D:=ak 2 2 Ir
def Iu:aB P w K mg base 1 2 "without" ["beacons","beacon"] jW:=by
 exists bl.f28,V5,V6
def V7:Fs 2 30 ["book","place"]:=aH
def Iv:AR:=ah (mB (v8 (aab 0) (aa 1) (cC (Yb (b2 (aa 0) (aab 1) ai) ae) bO) N_ eQ))
def jX:AN->Option D:=ak 2 2 Iv
def Iw:aB P w K mg base 1 2 "is_place" ["book","place"] jX:=by
 exists bl.f30,V7
def V8:Fs 2 31 ["rule","known"]:=aH
def V9:Cs ["rule","known"] 31 ["beacon","known"] [none,some 1] [("beacon",0),("known",1)]:=bh
def nG:AU:=si (mB (b2 (aa 0) (aa 1) (b7 false))) (mB (b2 (aa 0) (aa 1) (dN false)))
def yh:AR:=ah (cC (Yb (lF (Yw (b1 (b2 (aa 0) (aab 0) ai) Yc) [none,some 1] (aj 0) tY (nG))) ae) cj)
def jY:AN->Option D:=ak 2 2 yh
def Iy:aB P w K mg base 1 2 "body_is_known" ["rule","known"] jY:=by
 refine cm bl.f31 V8 λhr=>?_;unfold yh nG
 exists V9
def V_:Fs 3 32 ["book","known","place","rule"]:=aH
@[simp] def Wa:AR:=ah (b_ (mB (b2 (b2 (aa 3) (aab 1) ai) (kD .non) (cc true))) (cC (Yb (ab 3) (Yb (ab 1) ae)) jY))
@[simp] def Wb:AR:=ag (ar 3 (b2 (b2 (aa 0) (aab 1) ai) (aa 2) ai)) Wa
def nH:AR:=ag (aM (aZ (b1 (cC (Yb (ab 0) (Yb (ab 2) ae)) jX) aD)) (ah (kD (.bl false))) au) Wb
def lT:AN->Option D:=ak 3 4 nH
def P4:aB P w K mg base 2 3 "is_step" ["book","known","place"] lT:=by
 exists bl.f32,V_,Iw bl,Iy bl
def Wc:Fs 3 33 ["book","facts","places","known","place"]:=aH
def nI:AR:=(ag (aM (iN [3] (aZ (b1 (cC (Yb (ab 0) (Yb (ab 3) (Yb (ab 4) ae))) lT) aD))) (ah (kD (.bl false))) au) (dg 3 (b2 (b2 (b2 (aa 0) (aab 1) ai) (aa 4) ai) (aab 1) ai) cf))
@[simp] def Wd:AR:=(ah (kD (.bl true)))
@[simp] def We:AR:=(ag (bq (b1 (ab 2) Yc) (aj 4) nI) Wd)
def Iz:AR:=(ag (bf 3 (cF (Yb (aa 1) ae) eR)) We)
def sQ:AN->Option D:=ak 3 5 Iz
def P5:aB P w K mg base 3 3 "is_derivation" ["book","facts","places"] sQ:=by
 exists bl.f33,Wc,P4 bl
def Wf:Fs 3 34 ["book","facts","places","heads"]:=aH
def Wg:Cs ["book","facts","places","heads"] 34 ["place","book"] [none,some 0] [("place",0),("book",1)]:=bh
def IA:AU:=(b2 (b2 (b2 (aa 1) (aab 1) ai) (aa 0) ai) (aab 1) ai)
def P6:AR:=(ag (bf 3 (Yw (b1 (ab 2) Yc) [none,some 0] (aj 0) tY (IA))) (ah (lF (wC (lF (b2 (lF (cF (Yb (aa 1) ae) eR)) (aa 3) cu))))))
def yi:AN->Option D:=ak 3 4 P6
def Wh:aB P w K mg base 1 3 "derived" ["book","facts","places"] yi:=by
 exists bl.f34,Wf,Wg
def Wi:Fs 2 35 ["book","known","place","rule"]:=aH
def nJ:AR:=aM (bU (b2 (b2 (aa 3) (aab 1) ai) (aa 1) (cK true)) (b1 (cC (Yb (ab 0) (Yb (ab 1) (Yb (ab 2) ae))) lT) aD)) (ah (ab 2)) au
def P8:AR:=ag (bq (b1 (b2 (aa 0) (aab 1) ai) gz) (fD 2 3) nJ) (ah (kD .non))
def sR:AN->Option D:=ak 2 4 P8
def Wj:aB P w K mg base 3 2 "step_to_more" ["book","known"] sR:=by
 exists bl.f35,Wi,P4 bl
def Wl:Fs 2 36 ["book","facts","known","places","place"]:=aH
def Wm:Cs ["book","facts","known","places","place"] 36 ["fact"] [none] [("fact",0)]:=bh
def IB:AU:=av (Yb (ab 0) (Yb (kD (.bl true)) ae))
def yj:AR:=ag (dg 3 (ab 4) cf) (ag (gF 2 (b2 (b2 (b2 (aa 0) (aab 1) ai) (aa 4) ai) (aab 1) ai) (kD (.bl true))) (ar 4 (gC [2] (cC (Yb (ab 0) (Yb (ab 2) ae)) sR))))
@[simp] def Wn:AR:=ah (av (Yb (lF (cF (Yb (aa 2) ae) lr)) (Yb (cC (Yb (aa 3) ae) bD) ae)))
@[simp] def Wo:AR:=ag (dw (b2 (aa 4) (kD .non) (cc true)) yj 4000) Wn
@[simp] def Wp:AR:=ag (ar 4 (gC [2] (cC (Yb (ab 0) (Yb (ab 2) ae)) sR))) Wo
@[simp] def Wq:AR:=ag (bf 3 (bC ae)) Wp
def P9:AR:=ag (fG 2 (lF (Yw (b1 (ab 1) Yc) [none] (aj 0) tY (IB)))) Wq
def lU:AN->Option D:=ak 2 5 P9
def Wr:aB P w K mg base 4 2 "derived_in_full" ["book","facts"] lU:=by
 exists bl.f36,Wl,Wm,Wj bl
def Ws:Fs 1 38 ["book"]:=aH
def Wt:Cs ["book"] 38 ["rule","book"] [none,some 0] [("rule",0),("is_void",2),("book",1)]:=bh
def IC:AU:=cC (Yb (b2 (aa 1) (aab 0) ai) (Yb (ab 0) ae)) sN
def P_:AR:=ah (cC (Yb (lF (Yw (b1 (b2 (aa 0) (aab 1) ai) Yc) [none,some 0] (aj 0) tY (IC))) ae) eU)
def nK:AN->Option D:=ak 1 1 P_
def Qk:aB P w K mg base 4 1 "is_broken" ["book"] nK:=by
 exists bl.f38,Ws,Wt,P3 bl
def Wu:Fs 3 39 ["book","road","other"]:=aH
def sS:AR:=(ag (aM (c_ (aZ (b1 (cC (Yb (ab 0) (Yb (ab 1) ae)) nA) aD)) (aZ (b1 (cC (Yb (ab 0) (Yb (ab 2) ae)) nA) aD))) (ah (kD (.bl false))) au) (ah (b_ (mB (b2 (b2 (aa 1) (b1 (aab 1) bE) ai) (b2 (aa 2) (aab 0) ai) (az false))) (mB (b2 (b2 (aa 2) (b1 (aab 1) bE) ai) (b2 (aa 1) (aab 0) ai) (az false))))))
def Yz:AN->Option D:=ak 3 3 sS
def Qt:aB P w K mg base 4 3 "lead_there_and_back" ["book","road","other"] Yz:=by
 exists bl.f39,Wu,PC bl
def Wv:Fs 3 40 ["road","other","book"]:=aH
def Qu:AR:=(ah (b_ (cC (Yb (ab 2) (Yb (ab 0) (Yb (ab 1) ae))) Yz) (mB (b2 (b2 (aa 0) (b1 (aab 1) bE) ai) (cC (Yb (b2 (aa 0) (aab 0) ai) ae) gb) (az false)))))
def yk:AN->Option D:=ak 3 3 Qu
def Ww:aB P w K mg base 5 3 "clash_good" ["road","other","book"] yk:=by
 exists bl.f40,Wv,Qt bl,nz bl
def Wx:Fs 3 41 ["road","book","storms"]:=aH
def Qv:AR:=(ag (aM (c_ (aZ (b1 (cC (Yb (ab 1) (Yb (ab 0) ae)) nA) aD)) (b2 (b2 (aa 0) (aab 0) ai) (b2 (aa 0) (b1 (aab 1) bE) ai) (az false))) (ah (kD (.bl false))) au) (ah (b_ (mB (b2 (b2 (b2 (aa 0) (aab 0) ai) (aab 0) ai) (aa 2) (b7 false))) (mB (b2 (b2 (b2 (aa 0) (b1 (aab 1) bE) ai) (aab 0) ai) (aa 2) (b7 false))))))
def ym:AN->Option D:=ak 3 3 Qv
def Wz:aB P w K mg base 4 3 "cross_good" ["road","book","storms"] ym:=by
 exists bl.f41,Wx,PC bl
def WA:Fs 5 42 ["road","other","book","keepers","storms"]:=aH
def Qw:AR:=(ag (aM (aZ (b1 (cC (Yb (ab 2) (Yb (ab 0) (Yb (ab 1) ae))) Yz) aD)) (ah (kD (.bl false))) au) (ah (b_ (mB (b2 (b2 (b2 (aa 0) (aab 0) ai) (aab 0) ai) (aa 4) (b7 false))) (b_ (mB (b2 (b2 (b2 (aa 0) (b1 (aab 1) bE) ai) (aab 0) ai) (aa 3) (b7 false))) (mB (b2 (b2 (b2 (aa 0) (b1 (aab 1) bE) ai) (aab 0) ai) (b2 (b2 (aa 0) (aab 0) ai) (aab 0) ai) eQ))))))
def yn:AN->Option D:=ak 5 5 Qw
def WB:aB P w K mg base 5 5 "late_good" ["road","other","book","keepers","storms"] yn:=by
 exists bl.f42,WA,Qt bl
def WC:Fs 3 43 ["places","book","storms","whole"]:=aH
def WD:Cs ["places","book","storms","whole"] 43 ["place","book"] [none,some 1] [("place",0),("is_place",2),("book",1)]:=bh
def ID:AU:=(cC (Yb (ab 1) (Yb (ab 0) ae)) jX)
@[simp] def WE:AR:=(ah (cC (Yb (b2 (aa 1) (aab 0) ai) (Yb (ab 3) ae)) sN))
@[simp] def WG:AR:=(ag (aM (b1 (b2 (aa 3) (aab 0) ai) aD) (ah (mB (b2 (b2 (b2 (aa 3) (aab 0) ai) (b1 (aab 1) bE) ai) (aa 2) (b7 false)))) au) WE)
@[simp] def WH:AR:=(ag (ar 3 (cC (Yb (ab 1) (Yb (ab 0) ae)) sG)) WG)
def IE:AR:=(ag (aM (c_ (aZ (b1 (cC (Yb (ab 0) ae) nE) aD)) (aZ (b1 (cC (Yb (lF (Yw (b1 (ab 0) Yc) [none,some 1] (aj 0) tY (ID))) ae) cj) aD))) (ah (kD (.bl false))) au) WH)
def yo:AN->Option D:=ak 3 4 IE
def WI:aB P w K mg base 4 3 "odd_good" ["places","book","storms"] yo:=by
 exists bl.f43,WC,HR bl,WD,Iw bl,HY bl,P3 bl
def Qx:Fs 4 44 ["beacon","places","book","keepers","heads"]:=aH
def WJ:Cs ["beacon","places","book","keepers","heads"] 44 ["place","book"] [none,some 2] [("place",0),("book",1)]:=bh
def WK:Cs ["beacon","places","book","keepers","heads"] 44 ["keeper","beacon","heads"] [none,some 0,some 4] [("keeper",0),("beacon",1),("heads",1)]:=bh
def IF:AU:=(b2 (b2 (b2 (aa 1) (aab 1) ai) (aa 0) ai) (aab 1) ai)
def IG:AT:=(bU (b2 (aa 0) (aa 1) eQ) (b2 (aa 0) (aa 2) (b7 false)))
def IH:AU:=(ab 0)
@[simp] def Qy:AR:=(wF [4] (ah (lF (Yw (b1 (ab 3) Yc) [none,some 0,some 4] (aj 0) (IG) (IH)))))
@[simp] def Qz:AR:=(ag (bf 4 (Yw (b1 (ab 1) Yc) [none,some 2] (aj 0) tY (IF))) Qy)
def yp:AR:=(ag (aM (b2 (aa 0) (kD .non) (cc false)) (ah (lF (bC ae))) au) Qz)
def yq:AN->Option D:=ak 4 5 yp
def WL:aB P w K mg base 1 4 "first_ones" ["beacon","places","book","keepers"] yq:=by
 refine cm bl.f44 Qx λhr=>?_;unfold yp Qz Qy
 exists Qx,WJ,WK
def WM:Fs 4 45 ["beacon","places","book","storms"]:=aH
def II:AR:=(ag (aM (b2 (aa 0) (kD .non) (cc false)) (ah (mB (b2 (cC (Yb (aa 1) ae) bO) (aab 0) (az false)))) au) (ah (b_ (mB (b2 (aa 0) (aa 3) (b7 false))) (cC (Yb (ab 2) (Yb (ab 3) (Yb (ab 1) ae))) sQ))))
def yr:AN->Option D:=ak 4 4 II
def WN:aB P w K mg base 4 4 "is_first_part" ["beacon","places","book","storms"] yr:=by
 exists bl.f45,WM,P5 bl
def WO:Fs 4 46 ["beacon","places","book","facts","rule","known"]:=aH
@[simp] def WQ:AR:=(ah (b_ (cC (Yb (ab 4) (Yb (ab 5) ae)) jY) (mB (b2 (b2 (aa 4) (aab 1) ai) (av (Yb (kD .non) (Yb (ab 0) ae))) (b7 false)))))
@[simp] def WR:AR:=(ag (ar 5 (cC (Yb (ab 2) (Yb (ab 3) (Yb (jK (aa 1) none (some (b1 (aab 1) bE))) ae))) yi)) WQ)
@[simp] def WS:AR:=(ag (ar 4 (b2 (b2 (aa 2) (aab 1) ai) (b2 (aa 1) (b1 (aab 1) bE) ai) ai)) WR)
def sT:AR:=(ag (aM (c_ (b2 (cC (Yb (aa 1) ae) bO) (aab 0) (az false)) (c_ (aZ (b1 (cC (Yb (ab 2) (Yb (b2 (aa 1) (b1 (aab 1) bE) ai) ae)) jX) aD)) (aZ (b1 (cC (Yb (ab 2) (Yb (ab 3) (Yb (jK (aa 1) none (some (b1 (aab 1) bE))) ae))) sQ) aD)))) (ah (kD (.bl false))) au) WS)
def yt:AN->Option D:=ak 4 6 sT
def WT:aB P w K mg base 4 4 "is_last_part" ["beacon","places","book","facts"] yt:=by
 exists bl.f46,WO,Iw bl,P5 bl,Wh bl,Iy bl
def QA:Fs 4 47 ["paper","book","keepers","storms","beacon","facts"]:=aH
@[simp] def QB:AR:=(wF [5] (ah (cC (Yb (ab 4) (Yb (b2 (aa 0) (aab 3) ai) (Yb (ab 1) (Yb (ab 5) ae)))) yt)))
@[simp] def QC:AR:=(ag (bf 5 (b2 (lF (cF (Yb (cC (Yb (ab 3) (Yb (ab 4) ae)) jW) ae) eR)) (cC (Yb (ab 4) (Yb (b2 (aa 0) (aab 2) ai) (Yb (ab 1) (Yb (ab 2) ae)))) yq) cu)) QB)
@[simp] def QD:AR:=(ag (aM (aZ (b1 (cC (Yb (ab 4) (Yb (b2 (aa 0) (aab 2) ai) (Yb (ab 1) (Yb (ab 3) ae)))) yr) aD)) (ah (kD (.bl false))) au) QC)
def yu:AR:=(ag (ar 4 (b2 (aa 0) (aab 1) ai)) QD)
def sU:AN->Option D:=ak 4 6 yu
def WU:aB P w K mg base 5 4 "lone_good" ["paper","book","keepers","storms"] sU:=by
 refine cm bl.f47 QA λhr=>?_;unfold yu QD QC QB
 exists QA,WN bl,Iu bl,WL bl,WT bl
def WV:Fs 4 48 ["paper","book","keepers","storms"]:=aH
@[simp] def WW:AR:=(ah (kD (.bl false)))
@[simp] def WX:AR:=(ag (aM (b2 (b2 (aa 0) (aab 0) ai) (kD (.str "late")) (az false)) (ah (cC (Yb (b2 (aa 0) (aab 1) ai) (Yb (b2 (aa 0) (aab 2) ai) (Yb (ab 1) (Yb (ab 2) (Yb (ab 3) ae))))) yn)) au) WW)
@[simp] def WY:AR:=(ag (aM (b2 (b2 (aa 0) (aab 0) ai) (kD (.str "cross")) (az false)) (ah (cC (Yb (b2 (aa 0) (aab 1) ai) (Yb (ab 1) (Yb (ab 3) ae))) ym)) au) WX)
def yv:AR:=(ag (aM (b2 (b2 (aa 0) (aab 0) ai) (kD (.str "clash")) (az false)) (ah (cC (Yb (b2 (aa 0) (aab 1) ai) (Yb (b2 (aa 0) (aab 2) ai) (Yb (ab 1) ae))) yk)) au) WY)
def Yq:AN->Option D:=ak 4 4 yv
def WZ:aB P w K mg base 6 4 "either_paper_good" ["paper","book","keepers","storms"] Yq:=by
 exists bl.f48,WV,Ww bl,Wz bl,WB bl
def QE:Fs 4 49 ["paper","book","hands","start","keepers","storms"]:=aH
def lV(rec:AN->Option D):AR:=(ag (aM (b2 (b2 (aa 1) (aab 0) ai) (kD (.str "nots")) (az false)) (ah (cC (Yb (ab 0) (Yb (cC (Yb (ab 1) ae) i6) (Yb (ab 2) (Yb (ab 3) ae)))) rec)) au) (ag (ar 4 (cC (Yb (ab 2) (Yb (ab 3) (Yb (kD (.str "keeper")) ae))) Ys)) (ag (ar 5 (cC (Yb (ab 2) (Yb (ab 3) (Yb (kD (.str "storm")) ae))) Ys)) (ag (aM (b2 (b2 (aa 0) (aab 0) ai) (kD (.str "broken")) (az false)) (ah (cC (Yb (ab 1) ae) nK)) au) (ag (aM (b2 (b2 (aa 1) (aab 0) ai) (kD (.str "eithers")) (az false)) (ah (cC (Yb (ab 0) (Yb (ab 1) (Yb (ab 4) (Yb (ab 5) ae)))) Yq)) au) (ag (aM (bU (b2 (b2 (aa 0) (aab 0) ai) (kD (.str "odd")) (az false)) (b2 (b2 (aa 1) (aab 0) ai) (kD (.str "sums")) (az false))) (ah (cC (Yb (b2 (aa 0) (aab 1) ai) (Yb (ab 1) (Yb (ab 5) ae))) yo)) au) (ag (aM (bU (b2 (b2 (aa 0) (aab 0) ai) (kD (.str "lone")) (az false)) (b2 (b2 (aa 1) (aab 0) ai) (kD (.str "ifs")) (az false))) (ah (cC (Yb (ab 0) (Yb (ab 1) (Yb (ab 4) (Yb (ab 5) ae)))) sU)) au) (ah (kD (.bl false))))))))))
def Yr:Nat->AN->Option D
 | 0=>λ_=>none
 | k+1=>ak 4 6 (lV (Yr k))
def gc:AN->Option D:=Yr 12
def W0(bl:Bl K w mg){k j:Nat}(rc:aB P w K mg base k 4 "storm_good" ["paper","book","hands","start"] (Yr j))(hk:6<=k):aB P w K mg base (k+1) 4 "storm_good" ["paper","book","hands","start"] (Yr (j+1)):=by
 refine cm bl.f49 QE λhr=>?_
 exists x8 bl,QE,sE bl,Qk bl,WZ bl,WI bl,WU bl
def W3:aB P w K mg base 18 4 "storm_good" ["paper","book","hands","start"] gc:=i5 (L:=6) (mr:=Yr) bl.f49 rfl (W0 bl) (j:=12)
def QF:Fs 1 51 ["beacons","sayings","beacon"]:=aH
def IJ:AR:=dg 1 (lF (bC (Yb (av (Yb (ab 2) (Yb (kD (.bl false)) ae))) (Yb (av (Yb (ab 2) (Yb (kD (.bl true)) ae))) ae)))) gA
@[simp] def QG:AR:=(wF [1] (ah (ab 1)))
@[simp] def QH:AR:=ag (bq (b1 (ab 0) Yc) (aj 2) IJ) QG
def IK:AR:=ag (bf 1 (bC ae)) QH
def gg:AN->Option D:=ak 1 3 IK
def sV:aB P w K mg base 1 1 "sayings_of" ["beacons"] gg:=by
 refine cm bl.f51 QF λhr=>?_;unfold IK QH QG
 exists QF
def W4:Fs 3 52 ["ways","saying","other"]:=aH
def IL:AR:=ah (b_ (mB (b2 (aa 2) (b2 (aa 0) (aa 1) bV) (cZ false))) (mB (b2 (aa 1) (b2 (aa 0) (aa 2) bV) (cZ false))))
def y0:AN->Option D:=ak 3 3 IL
def IM:aB P w K mg base 1 3 "lead_to_one_another" ["ways","saying","other"] y0:=by
 exists bl.f52,W4
def W5:Fs 1 53 ["ways","saying","other"]:=aH
def yw:AR:=ag (ar 2 (cC (Yb (ab 1) ae) gb)) (aM (b1 (cC (Yb (ab 0) (Yb (ab 1) (Yb (ab 2) ae))) y0) aD) (ah (av (Yb (kD (.str "clash")) (Yb (cC (Yb (b2 (aa 0) (aa 1) bV) (Yb (ab 2) ae)) jU) (Yb (cC (Yb (b2 (aa 0) (aa 2) bV) (Yb (ab 1) ae)) jU) ae))))) au)
def IP:AR:=ag (bq (b1 (ab 0) sk) (aj 1) yw) (ah (kD .non))
def sW:AN->Option D:=ak 1 3 IP
def W6:aB P w K mg base 2 1 "clash_found" ["ways"] sW:=by
 exists bl.f53,W5,nz bl,IM bl,HK bl
def W8:Fs 2 54 ["ways","storms","saying","other"]:=aH
def sX:AR:=aM (bU (b2 (aa 3) (aa 2) (az true)) (b2 (aa 3) (b2 (aa 0) (aa 2) bV) (cZ false))) (ah (av (Yb (kD (.str "cross")) (Yb (cC (Yb (b2 (aa 0) (aa 2) bV) (Yb (ab 3) ae)) jU) ae)))) au
def yx:AR:=bq (b1 (cC (Yb (ab 1) ae) gg) Yc) (aj 3) sX
def IQ:AR:=ag (bq (b1 (cC (Yb (ab 1) ae) gg) Yc) (aj 2) yx) (ah (kD .non))
def sY:AN->Option D:=ak 2 4 IQ
def W9:aB P w K mg base 2 2 "cross_found" ["ways","storms"] sY:=by
 exists bl.f54,W8,sV bl,HK bl
def W_:Fs 3 55 ["ways","keepers","storms","saying","other"]:=aH
def sZ:AR:=aM (bU (b2 (b2 (aa 4) (aab 0) ai) (b2 (aa 3) (aab 0) ai) eQ) (b1 (cC (Yb (ab 0) (Yb (ab 3) (Yb (ab 4) ae))) y0) aD)) (ah (av (Yb (kD (.str "late")) (Yb (cC (Yb (b2 (aa 0) (aa 3) bV) (Yb (ab 4) ae)) jU) (Yb (cC (Yb (b2 (aa 0) (aa 4) bV) (Yb (ab 3) ae)) jU) ae))))) au
def yy:AR:=bq (b1 (cC (Yb (ab 1) ae) gg) Yc) (aj 4) sZ
def IR:AR:=ag (bq (b1 (cC (Yb (ab 2) ae) gg) Yc) (aj 3) yy) (ah (kD .non))
def s_:AN->Option D:=ak 3 5 IR
def Xa:aB P w K mg base 2 3 "late_found" ["ways","keepers","storms"] s_:=by
 exists bl.f55,W_,sV bl,IM bl,HK bl
def Xb:Fs 4 56 ["book","ways","keepers","storms","found","papers"]:=aH
def Xc:Cs ["book","ways","keepers","storms","found","papers"] 56 ["paper"] [none] [("paper",0)]:=bh
def Yv:AT:=b2 (aa 0) (kD .non) (cc true)
def y2:AU:=ab 0
@[simp] def Xd:AR:=ah (mR (b1 (aa 5) aD) (b2 (aa 5) (aab 0) ai) (kD .non))
@[simp] def Xe:AR:=ag (wF [4] (bf 5 (Yw (b1 (ab 4) Yc) [none] (aj 0) (Yv) (y2)))) Xd
@[simp] def Xf:AR:=ag (bf 4 (bC (Yb (cC (Yb (ab 1) ae) sW) (Yb (cC (Yb (ab 1) (Yb (ab 3) ae)) sY) (Yb (cC (Yb (ab 1) (Yb (ab 2) (Yb (ab 3) ae))) s_) ae))))) Xe
def y8:AR:=ag (aM (b1 (cC (Yb (ab 0) ae) nK) aD) (ah (av (Yb (kD (.str "broken")) ae))) au) Xf
def nL:AN->Option D:=ak 4 6 y8
def Xg:aB P w K mg base 5 4 "storms_paper" ["book","ways","keepers","storms"] nL:=by
 exists bl.f56,Xb,Qk bl,W6 bl,W9 bl,Xa bl,Xc
def Xh:Fs 2 57 ["keeper","ways","dark"]:=aH
def IS:AR:=ag (ar 2 (av (Yb (ab 0) (Yb (kD (.bl false)) ae)))) (ah (mR (b2 (cC (Yb (ab 2) ae) gb) (b2 (aa 1) (aa 2) bV) (cZ false)) (cC (Yb (ab 2) ae) gb) (ab 2)))
def lW:AN->Option D:=ak 2 3 IS
def Xi:aB P w K mg base 2 2 "free_saying" ["keeper","ways"] lW:=by
 exists bl.f57,Xh,nz bl
def QI:Fs 3 58 ["ways","keepers","storms","truths","saying","keeper"]:=aH
def IT:AR:=gO 3 (eY (lF (cF (Yb (b2 (aa 0) (aa 4) bV) ae) i3)))
def yz:AR:=aM (b2 (aa 5) (aa 3) (dN true)) (gO 3 (eY (lF (cF (Yb (b2 (aa 0) (cC (Yb (ab 5) (Yb (ab 0) ae)) lW) bV) ae) i3)))) au
@[simp] def yA:AR:=(wF [3] (ah (ab 3)))
@[simp] def QJ:AR:=ag (bq (b1 (ab 1) Yc) (aj 5) yz) yA
@[simp] def QK:AR:=ag (bq (b1 (cC (Yb (ab 2) ae) gg) Yc) (aj 4) IT) QJ
def IU:AR:=ag (m6 3) QK
def yB:AN->Option D:=ak 3 6 IU
def Xj:aB P w K mg base 3 3 "truths_made" ["ways","keepers","storms"] yB:=by
 refine cm bl.f58 QI λhr=>?_;unfold IU QK QJ yA
 exists QI,sV bl,Xi bl
def Xk:Fs 4 59 ["keeper","ways","storms","truths","saying"]:=aH
def yC:AR:=aM (b1 (cC (Yb (ab 1) (Yb (ab 4) (Yb (av (Yb (ab 0) (Yb (kD (.bl true)) ae))) ae))) y0) aD) (ah (av (Yb (ab 0) (Yb (b2 (aa 4) (aab 0) ai) (Yb (b2 (aa 4) (aab 1) ai) ae))))) au
def IV:AR:=ag (bq (b1 (cC (Yb (ab 2) ae) gg) Yc) (aj 4) yC) (ah (av (Yb (ab 0) (Yb (kD .non) (Yb (b2 (aa 3) (aa 0) cJ) ae)))))
def tf:AN->Option D:=ak 4 5 IV
def Xl:aB P w K mg base 2 4 "plan_row" ["keeper","ways","storms","truths"] tf:=by
 exists bl.f59,Xk,sV bl,IM bl
def QL:Fs 3 60 ["book","hands","start","keepers","storms","ways","paper","truths"]:=aH
def Xm:Cs ["book","hands","start","keepers","storms","ways","paper","truths"] 60 ["saying","book"] [none,some 0] [("saying",0),("ways_from",2),("book",1)]:=bh
def Xn:Cs ["book","hands","start","keepers","storms","ways","paper","truths"] 60 ["keeper","ways","storms","truths"] [none,some 5,some 4,some 7] [("keeper",0),("plan_row",2),("storms",1),("truths",1),("ways",1)]:=bh
def tj:AU:=av (Yb (ab 0) (Yb (cC (Yb (ab 1) (Yb (ab 0) ae)) nC) ae))
def IW:AU:=cC (Yb (ab 0) (Yb (ab 1) (Yb (ab 2) (Yb (ab 3) ae)))) tf
@[simp] def QM:AR:=(wF [5] (ah (av (Yb (kD (.str "keeper")) (Yb (av (Yb (kD (.str "plan")) (Yb (cC (Yb (lF (Yw (b1 (ab 3) Yc) [none,some 5,some 4,some 7] (aj 0) tY (IW))) ae) bD) ae))) ae)))))
@[simp] def QN:AR:=ag (wF [5] (ar 7 (cC (Yb (ab 5) (Yb (ab 3) (Yb (ab 4) ae))) yB))) QM
@[simp] def yD:AR:=ag (aM (b2 (aa 6) (kD .non) (cc true)) (ah (av (Yb (kD (.str "storm")) (Yb (ab 6) ae)))) au) QN
@[simp] def nM:AR:=ag (wF [5] (ar 6 (cC (Yb (ab 0) (Yb (ab 5) (Yb (ab 3) (Yb (ab 4) ae)))) nL))) yD
@[simp] def QO:AR:=ag (i0 5 (lF (Yw (b1 (cC (Yb (lF (b2 (aa 3) (aa 4) cu)) ae) gg) Yc) [none,some 0] (aj 0) tY (tj)))) nM
@[simp] def QQ:AR:=ag (ar 4 (cC (Yb (ab 1) (Yb (ab 2) (Yb (kD (.str "storm")) ae))) Ys)) QO
def yE:AR:=ag (ar 3 (cC (Yb (ab 1) (Yb (ab 2) (Yb (kD (.str "keeper")) ae))) Ys)) QQ
def tm:AN->Option D:=ak 3 8 yE
def QR:aB P w K mg base 6 3 "either_outcome" ["book","hands","start"] tm:=by
 refine cm bl.f60 QL λhr=>?_;unfold yE QQ QO nM yD QN QM
 exists QL,sE bl,Xm,sV bl,Vk bl,Xg bl,Xj bl,Xn,Xl bl
def Xo:Fs 1 62 ["rows"]:=aH
def Xp:Cs ["rows"] 62 ["row"] [none] [("row",0)]:=bh
def Yy:AU:=(av (Yb (b2 (aa 0) (aab 0) ai) (Yb (ab 0) ae)))
def IX:AR:=(ah (eY (lF (Yw (b1 (ab 0) Yc) [none] (aj 0) tY (Yy)))))
def lX:AN->Option D:=ak 1 1 IX
def QS:aB P w K mg base 1 1 "rows_by_beacon" ["rows"] lX:=by
 exists bl.f62,Xo,Xp
def Xq:Fs 2 63 ["row","storms"]:=aH
def yF:AR:=(ah (kO (mB (b2 (b2 (aa 0) (aab 1) ai) (kD .non) (cc false))) (b_ (mB (b2 (b2 (aa 0) (aab 1) ai) (aa 1) (b7 false))) (mB (b2 (b2 (aa 0) (aab 1) ai) (b2 (aa 0) (aab 0) ai) eQ)))))
def yG:AN->Option D:=ak 2 2 yF
def Xr:aB P w K mg base 1 2 "is_plan_row" ["row","storms"] yG:=by
 exists bl.f63,Xq
def Xs:Fs 2 64 ["saying","plan","row"]:=aH
@[simp] def Xu:AR:=(ah (av (Yb (b2 (aa 2) (aab 1) ai) (Yb (mB (b2 (b2 (aa 0) (aab 1) ai) (b2 (aa 2) (aab 2) ai) (az false))) ae))))
@[simp] def Xv:AR:=(ag (ar 2 (b2 (aa 1) (b2 (aa 0) (aab 0) ai) cJ)) Xu)
def IY:AR:=(ag (aM (b2 (b2 (aa 0) (aab 0) ai) (aa 1) (cK true)) (ah (ab 0)) au) Xv)
def yH:AN->Option D:=ak 2 3 IY
def Xw:aB P w K mg base 1 2 "come_to" ["saying","plan"] yH:=by
 exists bl.f64,Xs
def Xx:Fs 2 65 ["rule","plan","ends"]:=aH
def Xy:Cs ["rule","plan","ends"] 65 ["saying","plan"] [none,some 1] [("saying",0),("come_to",2),("plan",1)]:=bh
def Xz:Cs ["rule","plan","ends"] 65 ["end","ends"] [none,some 2] [("end",0),("contrary",2),("ends",1)]:=bh
def IZ:AU:=(cC (Yb (ab 0) (Yb (ab 1) ae)) yH)
def yI:AU:=(kO (mB (b2 (aa 0) (av (Yb (kD .non) (Yb (kD (.bl true)) ae))) (az false))) (mB (b2 (cC (Yb (ab 0) ae) gb) (aa 1) (b7 false))))
def QT:AR:=(ag (bf 2 (Yw (b1 (ab 0) Yc) [none,some 1] (aj 0) tY (IZ))) (wF [2] (ah (cC (Yb (lF (Yw (b1 (ab 2) Yc) [none,some 2] (aj 0) tY (yI))) ae) eU))))
def yJ:AN->Option D:=ak 2 3 QT
def XA:aB P w K mg base 2 2 "either_is_kept" ["rule","plan"] yJ:=by
 exists bl.f65,Xx,Xy,Xw bl,Xz,nz bl
def XB:Fs 4 66 ["rows","book","keepers","storms","plan"]:=aH
def XC:Cs ["rows","book","keepers","storms","plan"] 66 ["row"] [none] [("row",0)]:=bh
def XD:Cs ["rows","book","keepers","storms","plan"] 66 ["row","storms"] [none,some 3] [("row",0),("is_plan_row",2),("storms",1)]:=bh
def XE:Cs ["rows","book","keepers","storms","plan"] 66 ["rule","plan"] [none,some 4] [("rule",0),("either_is_kept",2),("plan",1)]:=bh
def I0:AU:=(b2 (aa 0) (aab 0) ai)
def I_:AU:=(cC (Yb (ab 0) (Yb (ab 1) ae)) yG)
def Ja:AU:=(cC (Yb (ab 0) (Yb (ab 1) ae)) yJ)
@[simp] def XF:AR:=(ah (cC (Yb (lF (Yw (b1 (b2 (aa 1) (aab 1) ai) Yc) [none,some 4] (aj 0) tY (Ja))) ae) cj))
@[simp] def XG:AR:=(ag (ar 4 (cC (Yb (ab 0) ae) lX)) XF)
def yK:AR:=(ag (aM (c_ (b2 (lF (Yw (b1 (ab 0) Yc) [none] (aj 0) tY (I0))) (aa 2) (az true)) (aZ (b1 (cC (Yb (lF (Yw (b1 (ab 0) Yc) [none,some 3] (aj 0) tY (I_))) ae) cj) aD))) (ah (kD (.bl false))) au) XG)
def yL:AN->Option D:=ak 4 5 yK
def XH:aB P w K mg base 3 4 "plan_good" ["rows","book","keepers","storms"] yL:=by
 exists bl.f66,XB,XC,XD,Xr bl,QS bl,XE,XA bl
def XI:Fs 2 67 ["row","storms"]:=aH
def XJ:Cs ["row","storms"] 67 ["beacon","storms","row"] [none,some 1,some 0] [("beacon",0),("row",1),("storms",1)]:=bh
def yM:AU:=(b_ (mB (b2 (aa 0) (aa 1) (b7 false))) (mB (b2 (aa 0) (b2 (aa 2) (aab 0) ai) eQ)))
def Jb:AR:=(ah (b_ (cC (Yb (b2 (aa 0) (aab 1) ai) ae) nE) (cC (Yb (lF (Yw (b1 (b2 (aa 0) (aab 1) ai) Yc) [none,some 1,some 0] (aj 0) tY (yM))) ae) cj)))
def yN:AN->Option D:=ak 2 2 Jb
def XM:aB P w K mg base 2 2 "is_sum_row" ["row","storms"] yN:=by
 exists bl.f67,XI,HR bl,XJ
def XO:Fs 2 68 ["rule","sums","whole","beacon","row"]:=aH
def Jc:AR:=ag (ar 4 (b3 (aa 1) (aa 3) (av (Yb (ab 3) (Yb (av (Yb (ab 3) ae)) (Yb (kD (.bl false)) ae)))) jH)) (ar 2 (cC (Yb (ab 2) (Yb (av (Yb (b2 (aa 4) (aab 1) ai) (Yb (b2 (aa 4) (aab 2) ai) ae))) ae)) jV))
@[simp] def XQ:AR:=ah (ab 2)
@[simp] def XR:AR:=ag (bq (b1 (b2 (aa 0) (aab 0) ai) Yc) (aj 3) Jc) XQ
def QU:AR:=ag (ar 2 (av (Yb (av ae) (Yb (kD (.bl false)) ae)))) XR
def nN:AN->Option D:=ak 2 5 QU
def QV:aB P w K mg base 2 2 "replaced" ["rule","sums"] nN:=by
 exists bl.f68,XO,HS bl
def XS:Fs 4 69 ["rows","book","keepers","storms","sums"]:=aH
def XT:Cs ["rows","book","keepers","storms","sums"] 69 ["row"] [none] [("row",0)]:=bh
def XU:Cs ["rows","book","keepers","storms","sums"] 69 ["row","storms"] [none,some 3] [("row",0),("is_sum_row",2),("storms",1)]:=bh
def XW:Cs ["rows","book","keepers","storms","sums"] 69 ["rule","sums"] [none,some 4] [("rule",0),("replaced",2),("sums",1)]:=bh
def Jd:AU:=(b2 (aa 0) (aab 0) ai)
def Je:AU:=(cC (Yb (ab 0) (Yb (ab 1) ae)) yN)
def Jf:AU:=(mB (b2 (cC (Yb (ab 0) (Yb (ab 1) ae)) nN) (av (Yb (av ae) (Yb (b2 (aa 0) (aab 1) ai) ae))) (az false)))
@[simp] def XY:AR:=(ah (cC (Yb (lF (Yw (b1 (b2 (aa 1) (aab 1) ai) Yc) [none,some 4] (aj 0) tY (Jf))) ae) cj))
@[simp] def XZ:AR:=(ag (ar 4 (cC (Yb (ab 0) ae) lX)) XY)
def yO:AR:=(ag (aM (c_ (b2 (lF (Yw (b1 (ab 0) Yc) [none] (aj 0) tY (Jd))) (aa 2) (az true)) (aZ (b1 (cC (Yb (lF (Yw (b1 (ab 0) Yc) [none,some 3] (aj 0) tY (Je))) ae) cj) aD))) (ah (kD (.bl false))) au) XZ)
def tp:AN->Option D:=ak 4 5 yO
def X0:aB P w K mg base 3 4 "sums_good" ["rows","book","keepers","storms"] tp:=by
 exists bl.f69,XS,XT,XU,XM bl,QS bl,XW,QV bl
def X1:Fs 2 70 ["beacons","others"]:=aH
def X2:Cs ["beacons","others"] 70 ["beacon","others"] [none,some 1] [("beacon",0),("others",1)]:=bh
def Jg:AU:=(mB (b2 (aa 0) (aa 1) (b7 false)))
def Jh:AR:=(ah (b_ (cC (Yb (ab 0) ae) nE) (cC (Yb (lF (Yw (b1 (ab 0) Yc) [none,some 1] (aj 0) tY (Jg))) ae) cj)))
def tq:AN->Option D:=ak 2 2 Jh
def QW:aB P w K mg base 2 2 "are_some_of" ["beacons","others"] tq:=by
 exists bl.f70,X1,HR bl,X2
def X3:Fs 2 71 ["beacons","beacon"]:=aH
def X4:Cs ["beacons","beacon"] 71 ["other","beacon"] [none,some 1] [("other",0),("beacon",1)]:=bh
def Ji:AT:=b2 (aa 0) (aa 1) eQ
def Jj:AU:=ab 0
def QX:AR:=ah (lF (Yw (b1 (ab 0) Yc) [none,some 1] (aj 0) (Ji) (Jj)))
def nO:AN->Option D:=ak 2 2 QX
def QY:aB P w K mg base 1 2 "ahead_of" ["beacons","beacon"] nO:=by
 exists bl.f71,X3,X4
def Jk:Fs 3 72 ["row","first","keepers"]:=aH
def Jl:AR:=(ah (b_ (cC (Yb (b2 (aa 0) (aab 1) ai) (Yb (ab 2) ae)) tq) (mB (b2 (cC (Yb (b2 (aa 0) (aab 1) ai) (Yb (b2 (aa 0) (aab 0) ai) ae)) nO) (cC (Yb (ab 1) (Yb (b2 (aa 0) (aab 0) ai) ae)) nO) (az false)))))
def yP:AN->Option D:=ak 3 3 Jl
def Jm:aB P w K mg base 3 3 "is_row" ["row","first","keepers"] yP:=by
 exists bl.f72,Jk,QW bl,QY bl
def X5:Fs 3 73 ["book","lit","count"]:=aH
def X6:Cs ["book","lit","count"] 73 ["beacon","lit"] [none,some 1] [("beacon",0),("lit",1)]:=bh
def Jn:AU:=(mB (b2 (aa 0) (aa 1) (b7 false)))
def QZ:AR:=(ah (cC (Yb (ab 0) (Yb (lF (Yw (cF (Yb (ab 2) ae) di) [none,some 1] (aj 0) tY (Jn))) ae)) ye))
def yQ:AN->Option D:=ak 3 3 QZ
def X7:aB P w K mg base 5 3 "holds_where_lit" ["book","lit","count"] yQ:=by
 exists bl.f73,X5,Io bl,X6
def Q0:Fs 6 74 ["first","rows","book","keepers","storms","count","lit_ones"]:=aH
def X8:Cs ["first","rows","book","keepers","storms","count","lit_ones"] 74 ["row"] [none] [("row",0)]:=bh
def X9:Cs ["first","rows","book","keepers","storms","count","lit_ones"] 74 ["row","first","keepers"] [none,some 0,some 3] [("row",0),("is_row",2),("first",1),("keepers",1)]:=bh
def X_:Cs ["first","rows","book","keepers","storms","count","lit_ones"] 74 ["row","storms"] [none,some 4] [("row",0),("list",2),("without",2),("storms",1)]:=bh
def YA:Cs ["first","rows","book","keepers","storms","count","lit_ones"] 74 ["lit","book","count"] [none,some 2,some 5] [("lit",0),("holds_where_lit",2),("book",1),("count",1)]:=bh
def Jo:AU:=(b2 (aa 0) (aab 0) ai)
def Jp:AU:=(cC (Yb (ab 0) (Yb (ab 1) (Yb (ab 2) ae))) yP)
def Jq:AU:=(lF (b2 (lF (cF (Yb (cC (Yb (ab 1) (Yb (b2 (aa 0) (aab 0) ai) ae)) jW) ae) eR)) (lF (cF (Yb (b2 (aa 0) (aab 1) ai) ae) eR)) cu))
def Jr:AU:=(cC (Yb (ab 1) (Yb (ab 0) (Yb (ab 2) ae))) yQ)
@[simp] def Q1:AR:=(wF [6] (ah (cC (Yb (lF (Yw (b1 (ab 6) Yc) [none,some 2,some 5] (aj 0) tY (Jr))) ae) cj)))
@[simp] def Q3:AR:=(ag (bf 6 (b2 (lF (bC (Yb (lF (b2 (aa 4) (lF (cF (Yb (aa 0) ae) eR)) cu)) ae))) (lF (Yw (b1 (ab 1) Yc) [none,some 4] (aj 0) tY (Jq))) cu)) Q1)
@[simp] def Q4:AR:=(ag (aM (aZ (b1 (cC (Yb (lF (Yw (b1 (ab 1) Yc) [none,some 0,some 3] (aj 0) tY (Jp))) ae) cj) aD)) (ah (kD (.bl false))) au) Q3)
def nP:AR:=(ag (aM (c_ (aZ (b1 (cC (Yb (ab 0) (Yb (ab 3) ae)) tq) aD)) (b2 (lF (Yw (b1 (ab 1) Yc) [none] (aj 0) tY (Jo))) (aa 4) (az true))) (ah (kD (.bl false))) au) Q4)
def yR:AN->Option D:=ak 6 7 nP
def YB:aB P w K mg base 6 6 "rows_good" ["first","rows","book","keepers","storms","count"] yR:=by
 refine cm bl.f74 Q0 λhr=>?_;unfold nP Q4 Q3 Q1
 exists QW bl,X8,X9,Jm bl,Q0,X_,Iu bl,YA,X7 bl
def Q5:Fs 4 75 ["paper","book","hands","start","keepers","storms"]:=aH
def tr(a:AN->Option D):AR:=(ag (aM (b2 (b2 (aa 1) (aab 0) ai) (kD (.str "nots")) (az false)) (ah (cC (Yb (ab 0) (Yb (cC (Yb (ab 1) ae) i6) (Yb (ab 2) (Yb (ab 3) ae)))) a)) au) (ag (ar 4 (cC (Yb (ab 2) (Yb (ab 3) (Yb (kD (.str "keeper")) ae))) Ys)) (ag (ar 5 (cC (Yb (ab 2) (Yb (ab 3) (Yb (kD (.str "storm")) ae))) Ys)) (ag (aM (bU (b2 (b2 (aa 0) (aab 0) ai) (kD (.str "plan")) (az false)) (b2 (b2 (aa 1) (aab 0) ai) (kD (.str "eithers")) (az false))) (ah (cC (Yb (b2 (aa 0) (aab 1) ai) (Yb (ab 1) (Yb (ab 4) (Yb (ab 5) ae)))) yL)) au) (ag (aM (bU (b2 (b2 (aa 0) (aab 0) ai) (kD (.str "sums")) (az false)) (b2 (b2 (aa 1) (aab 0) ai) (kD (.str "sums")) (az false))) (ah (cC (Yb (b2 (aa 0) (aab 1) ai) (Yb (ab 1) (Yb (ab 4) (Yb (ab 5) ae)))) tp)) au) (ag (aM (bU (b2 (b2 (aa 0) (aab 0) ai) (kD (.str "rows")) (az false)) (b2 (b2 (aa 1) (aab 0) ai) (kD (.str "ifs")) (az false))) (ah (cC (Yb (b2 (aa 0) (aab 1) ai) (Yb (b2 (aa 0) (aab 2) ai) (Yb (ab 1) (Yb (ab 4) (Yb (ab 5) (Yb (cC (Yb (aa 2) ae) bO) ae)))))) yR)) au) (ah (kD (.bl false)))))))))
def Yu:Nat->AN->Option D
 | 0=>λ_=>none
 | k+1=>ak 4 6 (tr (Yu k))
def i7:AN->Option D:=Yu 12
def YC(bl:Bl K w mg){k j:Nat}(rc:aB P w K mg base k 4 "keeper_good" ["paper","book","hands","start"] (Yu j))(hk:6<=k):aB P w K mg base (k+1) 4 "keeper_good" ["paper","book","hands","start"] (Yu (j+1)):=by
 refine cm bl.f75 Q5 λhr=>?_
 exists x8 bl,Q5,sE bl,XH bl,X0 bl,YB bl
def YD:aB P w K mg base 18 4 "keeper_good" ["paper","book","hands","start"] i7:=i5 (L:=6) (mr:=Yu) bl.f75 rfl (YC bl) (j:=12)
def YE:Fs 2 77 ["book","full","place","rule"]:=aH
def ts:AR:=aM (bU (b2 (b2 (aa 3) (aab 1) ai) (kD .non) (cc false)) (b1 (cC (Yb (ab 3) (Yb (b2 (aa 1) (aab 0) ai) ae)) jY) aD)) (ah (b2 (b2 (aa 1) (aab 1) ai) (av (Yb (ab 2) ae)) gJ)) au
def Q6:AR:=ag (bq (b1 (b2 (aa 0) (aab 1) ai) gz) (fD 2 3) ts) (ah (kD .non))
def tw:AN->Option D:=ak 2 4 Q6
def YF:aB P w K mg base 2 2 "places_to_none" ["book","full"] tw:=by
 exists bl.f77,YE,Iy bl
def YG:Fs 3 78 ["book","full","beacon","heads"]:=aH
def YH:Cs ["book","full","beacon","heads"] 78 ["place","book"] [none,some 0] [("place",0),("book",1)]:=bh
def Js:AU:=b2 (b2 (b2 (aa 1) (aab 1) ai) (aa 0) ai) (aab 1) ai
@[simp] def YI:AR:=ah (jK (b2 (aa 1) (aab 1) ai) none (some (b2 (b2 (aa 3) (ab 2) iZ) (aab 1) dJ)))
@[simp] def YJ:AR:=ag (aM (b2 (aa 2) (aa 3) (b7 true)) (ah (kD .non)) au) YI
def Jt:AR:=ag (bf 3 (Yw (b1 (b2 (aa 1) (aab 1) ai) Yc) [none,some 0] (aj 0) tY (Js))) YJ
def nQ:AN->Option D:=ak 3 4 Jt
def YK:aB P w K mg base 1 3 "places_to_beacon" ["book","full","beacon"] nQ:=by
 exists bl.f78,YG,YH
def YL:Fs 2 79 ["beacons","known"]:=aH
def YM:Cs ["beacons","known"] 79 ["beacon","known"] [none,some 1] [("beacon",0),("known",1)]:=bh
def Ju:AT:=b2 (aa 0) (aa 1) (b7 false)
def Jv:AU:=ab 0
def Q7:AR:=ah (cC (Yb (lF (Yw (b1 (ab 0) Yc) [none,some 1] (aj 0) (Ju) (Jv))) ae) bD)
def tB:AN->Option D:=ak 2 2 Q7
def YN:aB P w K mg base 1 2 "some_of" ["beacons","known"] tB:=by
 exists bl.f79,YL,YM
def YO:Fs 3 80 ["beacon","storms","first"]:=aH
def Q8:AR:=ah (lF (b2 (lF (cF (Yb (cC (Yb (ab 1) (Yb (ab 0) ae)) jW) ae) eR)) (cC (Yb (ab 2) (Yb (ab 0) ae)) nO) cu))
def yS:AN->Option D:=ak 3 3 Q8
def YQ:aB P w K mg base 2 3 "facts_beside" ["beacon","storms","first"] yS:=by
 exists bl.f80,YO,Iu bl,QY bl
def YR:Fs 3 81 ["book","hands","start","keepers","storms","whole","places","first","rows","beacon","full"]:=aH
def yT:AR:=ag (ar 10 (cC (Yb (ab 0) (Yb (cC (Yb (ab 9) (Yb (ab 4) (Yb (ab 7) ae))) yS) ae)) lU)) (ag (ar 6 (cC (Yb (ab 0) (Yb (ab 10) (Yb (ab 9) ae))) nQ)) (ag (aM (b2 (aa 6) (kD .non) (cc true)) (ah (av (Yb (kD (.str "storm")) (Yb (av (Yb (kD (.str "lone")) (Yb (ab 9) (Yb (b2 (aa 5) (aab 1) ai) (Yb (ab 6) ae))))) ae)))) au) (dg 8 (av (Yb (ab 9) (Yb (cC (Yb (ab 3) (Yb (b2 (aa 10) (aab 0) ai) ae)) tB) ae))) cf)))
@[simp] def YS:AR:=ah (av (Yb (kD (.str "keeper")) (Yb (av (Yb (kD (.str "rows")) (Yb (ab 7) (Yb (cC (Yb (aa 8) ae) bD) ae)))) ae)))
@[simp] def Jw:AR:=ag (bq (b1 (ab 4) Yc) (aj 9) yT) YS
@[simp] def YT:AR:=ag (bf 8 (bC ae)) Jw
@[simp] def YU:AR:=ag (ar 7 (cC (Yb (ab 3) (Yb (b2 (aa 5) (aab 0) ai) ae)) tB)) YT
@[simp] def YV:AR:=ag (aM (b2 (aa 6) (kD .non) (cc true)) (ah (av (Yb (kD (.str "storm")) (Yb (av (Yb (kD (.str "lone")) (Yb (kD .non) (Yb (av ae) (Yb (ab 6) ae))))) ae)))) au) YU
@[simp] def YW:AR:=ag (ar 6 (cC (Yb (ab 0) (Yb (ab 5) ae)) tw)) YV
@[simp] def YX:AR:=ag (ar 5 (cC (Yb (ab 0) (Yb (ab 4) ae)) lU)) YW
@[simp] def YY:AR:=ag (ar 4 (cC (Yb (ab 1) (Yb (ab 2) (Yb (kD (.str "storm")) ae))) Ys)) YX
def yU:AR:=ag (ar 3 (cC (Yb (ab 1) (Yb (ab 2) (Yb (kD (.str "keeper")) ae))) Ys)) YY
def lY:AN->Option D:=ak 3 11 yU
def Q9:aB P w K mg base 5 3 "if_outcome" ["book","hands","start"] lY:=by
 exists bl.f81,YR,sE bl,Wr bl,YF bl,YN bl,YQ bl,YK bl
def YZ:Fs 1 83 ["pair"]:=aH
def Q_:AR:=ah (b2 (b2 (b2 (aa 0) (aab 1) ai) (aab 0) ai) (b1 (aab 1) bE) ai)
def tD:AN->Option D:=ak 1 1 Q_
def Ra:aB P w K mg base 1 1 "last_beacon" ["pair"] tD:=by
 exists bl.f83,YZ
def Y0:Fs 3 84 ["pairs","void","storms","lost"]:=aH
def Y1:Cs ["pairs","void","storms","lost"] 84 ["pair","storms"] [none,some 2] [("pair",0),("last_beacon",2),("storms",1)]:=bh
def Jx:AT:=b2 (cC (Yb (ab 0) ae) tD) (aa 1) (b7 false)
def Rb:AU:=b2 (aa 0) (aab 0) ai
@[simp] def Y2:AR:=ah (mR (b1 (aa 3) aD) (b2 (aa 3) (aab 0) ai) (kD .non))
@[simp] def Y3:AR:=ag (bf 3 (Yw (b1 (ab 0) Yc) [none,some 2] (aj 0) (Jx) (Rb))) Y2
def Jy:AR:=ag (aM (b2 (aa 1) (kD .non) (cc true)) (ah (ab 1)) au) Y3
def nR:AN->Option D:=ak 3 4 Jy
def Y4:aB P w K mg base 2 3 "storms_places" ["pairs","void","storms"] nR:=by
 exists bl.f84,Y0,Y1,Ra bl
def Rc:Fs 2 85 ["pairs","keepers","rules","rows","keeper","rule","rest"]:=aH
def Y5:Cs ["pairs","keepers","rules","rows","keeper","rule","rest"] 85 ["pair"] [none] [("pair",0),("last_beacon",2)]:=bh
def Y6:Cs ["pairs","keepers","rules","rows","keeper","rule","rest"] 85 ["keeper","rows"] [none,some 3] [("keeper",0),("rows",1)]:=bh
def tE:AU:=av (Yb (cC (Yb (ab 0) ae) tD) (Yb (b2 (aa 0) (aab 1) ai) ae))
def yV:AR:=ag (ar 5 (b3 (aa 2) (aa 4) (av (Yb (av (Yb (ab 4) ae)) (Yb (kD (.bl false)) ae))) jH)) (ag (ar 6 (hV [3] (cC (Yb (av (Yb (jK (b2 (aa 5) (aab 0) ai) none (some (b1 (aab 1) bE))) (Yb (kD (.bl false)) ae))) (Yb (ab 3) ae)) nN))) (gF 3 (aa 4) (av (Yb (ab 4) (Yb (b2 (aa 6) (aab 0) ai) (Yb (mB (b2 (b2 (aa 6) (aab 1) ai) (b2 (aa 5) (aab 1) ai) (az true))) ae))))))
def Jz:AU:=b2 (aa 1) (aa 0) cJ
@[simp] def tF:AR:=(wF [3] (ah (cC (Yb (lF (Yw (b1 (ab 1) Yc) [none,some 3] (aj 0) tY (Jz))) ae) bD)))
@[simp] def Re:AR:=ag (bq (b1 (ab 1) Yc) (aj 4) yV) tF
@[simp] def Rf:AR:=ag (m6 3) Re
def JA:AR:=ag (fG 2 (lF (Yw (b1 (ab 0) Yc) [none] (aj 0) tY (tE)))) Rf
def yW:AN->Option D:=ak 2 7 JA
def Y7:aB P w K mg base 3 2 "sum_rows" ["pairs","keepers"] yW:=by
 refine cm bl.f85 Rc λhr=>?_;unfold JA Rf Re tF
 exists Rc,Y5,Ra bl,QV bl,Y6
def Y8:Fs 3 86 ["book","hands","start","keepers","storms","answer","places"]:=aH
@[simp] def Y9:AR:=ah (av (Yb (kD (.str "keeper")) (Yb (av (Yb (kD (.str "sums")) (Yb (cC (Yb (b2 (aa 5) (aab 0) ai) (Yb (ab 3) ae)) yW) ae))) ae)))
@[simp] def Y_:AR:=ag (aM (b2 (aa 6) (kD .non) (cc true)) (ah (av (Yb (kD (.str "storm")) (Yb (av (Yb (kD (.str "odd")) (Yb (ab 6) ae))) ae)))) au) Y9
@[simp] def Za:AR:=ag (ar 6 (cC (Yb (b2 (aa 5) (aab 0) ai) (Yb (b2 (aa 5) (aab 1) ai) (Yb (ab 4) ae))) nR)) Y_
@[simp] def Zb:AR:=ag (ar 5 (cC (Yb (ab 0) ae) sI)) Za
@[simp] def Zc:AR:=ag (ar 4 (cC (Yb (ab 1) (Yb (ab 2) (Yb (kD (.str "storm")) ae))) Ys)) Zb
def JB:AR:=ag (ar 3 (cC (Yb (ab 1) (Yb (ab 2) (Yb (kD (.str "keeper")) ae))) Ys)) Zc
def nS:AN->Option D:=ak 3 7 JB
def Rg:aB P w K mg base 5 3 "sum_outcome" ["book","hands","start"] nS:=by
 exists bl.f86,Y8,sE bl,VD bl,Y4 bl,Y7 bl
def Rh:Fs 3 88 ["book","hands","start"]:=aH
@[simp] def Zd:AR:=ah (cC (Yb (ab 0) (Yb (ab 1) (Yb (ab 2) ae))) lY)
@[simp] def Ze:AR:=ag (aM (b2 (b2 (aa 0) (aab 0) ai) (kD (.str "nots")) (az false)) (ah (cC (Yb (cC (Yb (ab 0) ae) i6) (Yb (ab 1) (Yb (ab 2) ae))) lY)) au) Zd
@[simp] def Zf:AR:=ag (aM (b2 (b2 (aa 0) (aab 0) ai) (kD (.str "sums")) (az false)) (ah (cC (Yb (ab 0) (Yb (ab 1) (Yb (ab 2) ae))) nS)) au) Ze
def lZ:AR:=ag (aM (b2 (b2 (aa 0) (aab 0) ai) (kD (.str "eithers")) (az false)) (ah (cC (Yb (ab 0) (Yb (ab 1) (Yb (ab 2) ae))) tm)) au) Zf
def fI:AN->Option D:=ak 3 3 lZ
def Zg:aB P w K mg base 7 3 "outcome" ["book","hands","start"] fI:=by
 refine HD bl.f88 Rh λhr=>?_
 exists QR bl,Rg bl,Q9 bl,x8 bl
def Zh:xW P w K mg base 7 2 "outcome" ["book","hands","start"] fI:=by
 refine HC bl.f88 Rh λhr=>?_
 exists QR bl,Rg bl,Q9 bl,x8 bl
def JC:Fs 5 90 ["paper","book","hands","start","hand"]:=aH
def l3:AR:=(ag (aM (b2 (aa 4) (kD (.str "keeper")) (az false)) (ah (cC (Yb (ab 0) (Yb (ab 1) (Yb (ab 2) (Yb (ab 3) ae)))) i7)) au) (ah (cC (Yb (ab 0) (Yb (ab 1) (Yb (ab 2) (Yb (ab 3) ae)))) gc)))
def yX:AN->Option D:=ak 5 5 l3
def JD:aB P w K mg base 19 5 "good" ["paper","book","hands","start","hand"] yX:=by
 exists bl.f90,JC,YD bl,W3 bl
def Zi:Fs 2 92 ["script","k"]:=aH
def JE:AR:=ag (aM (b2 (aa 1) (cC (Yb (aa 0) ae) bO) eQ) (ah (b2 (aa 0) (aa 1) ai)) au) (ah (aab 0))
def Yx:AN->Option D:=ak 2 2 JE
def Zj:aB P w K mg base 1 2 "_law_cell" ["script","k"] Yx:=by
 exists bl.f92,Zi
def Zk:Fs 2 93 ["cell","by"]:=aH
def Ri:AR:=ah (b2 (b2 (b2 (aa 0) (aab 2305843009213693951) bb) (aa 1) gn) (aab 2305843009213693951) bb)
def jZ:AN->Option D:=ak 2 2 Ri
def JF:aB P w K mg base 1 2 "_law_mixed" ["cell","by"] jZ:=by
 exists bl.f93,Zk
def Zl:Fs 2 94 ["cell","many","left"]:=aH
def Zm:Cs ["cell","many","left"] 94 ["k","left"] [none,some 2] [("k",0),("left",1)]:=bh
def yY:AU:=b2 (lF (bC (Yb (kD (.str "keeper")) (Yb (kD (.str "storm")) ae)))) (b2 (b2 (aa 1) (aa 0) gG) (aab 2) bb) ai
def Rj:AR:=ag (ar 2 (cC (Yb (ab 0) (Yb (aab 1442695040888963407) ae)) jZ)) (ah (cC (Yb (lF (Yw (cF (Yb (ab 1) ae) di) [none,some 2] (aj 0) tY (yY))) ae) bD))
def l4:AN->Option D:=ak 2 3 Rj
def Zn:aB P w K mg base 2 2 "_law_hands" ["cell","many"] l4:=by
 exists bl.f94,Zl,JF bl,Zm
def aDa:Fs 4 96 ["kind","cell","start","many","left","size","picked","k"]:=aH
def aAa:Cs ["kind","cell","start","many","left","size","picked","k"] 96 ["k","picked","left"] [none,some 6,some 4] [("k",0),("left",1),("picked",1)]:=bh
def tG:AR:=ag (aM (b2 (b2 (aa 2) (b2 (aa 4) (b2 (aa 3) (aa 2) eP) bb) dJ) (aa 6) (b7 true)) (dg 6 (b2 (aa 2) (b2 (aa 4) (b2 (aa 3) (aa 2) eP) bb) dJ) cf) au) (ar 4 (b2 (aa 4) (b2 (aa 3) (aa 2) eP) c9))
def yZ:AU:=av (Yb (b2 (aa 1) (aa 0) ai) (Yb (mB (b2 (b2 (b2 (aa 2) (aa 0) gG) (aab 2) bb) (aab 1) (az false))) ae))
@[simp] def Zo:AR:=ah (av (Yb (cC (Yb (lF (cF (Yb (aa 6) ae) fq)) ae) bD) (Yb (b2 (aa 2) (b2 (b2 (aa 4) (aab 4) c9) (b2 (aa 3) (aa 2) eP) bb) dJ) ae)))
@[simp] def Zp:AR:=ag (aM (b2 (b2 (aa 4) (aab 4) bb) (aab 1) (az false)) (bf 6 (vX (aa 6) (some (aab 1)) none)) au) Zo
@[simp] def Zq:AR:=ag (aM (b2 (b2 (aa 4) (aab 4) bb) (aab 0) (az false)) (ah (av (Yb (cC (Yb (lF (cF (Yb (aa 6) ae) fq)) ae) bD) (Yb (kD .non) ae)))) au) Zp
@[simp] def y_:AR:=ag (aM (b2 (aa 0) (kD (.str "sums")) (az false)) (ah (av (Yb (cC (Yb (lF (cF (Yb (aa 6) ae) fq)) ae) bD) (Yb (mB (b2 (b2 (aa 4) (aab 2) bb) (aab 1) (az false))) ae)))) au) Zq
@[simp] def Zr:AR:=ag (aM (b2 (aa 0) (kD (.str "eithers")) (az false)) (wF [6] (ah (cC (Yb (lF (cF (Yb (lF (Yw (cF (Yb (cC (Yb (aa 6) ae) bO) ae) di) [none,some 6,some 4] (aj 0) tY (yZ))) ae) fq)) ae) bD))) au) y_
@[simp] def Zs:AR:=ag (bq (cF (Yb (ab 5) ae) di) (aj 7) tG) Zr
@[simp] def Zt:AR:=ag (bf 6 (bC ae)) Zs
@[simp] def Zu:AR:=ag (ar 4 (b2 (aa 4) (aab 8) c9)) Zt
@[simp] def Zv:AR:=ag (aM (b2 (aa 0) (kD (.str "eithers")) (az false)) (ar 5 (cC (Yb (aa 5) (Yb (aab 2) ae)) gH)) au) Zu
@[simp] def Zw:AR:=ag (ar 5 (b2 (lF (hP [1,2,2,2,1,2,3,4])) (b2 (aa 4) (aab 8) bb) ai)) Zv
def za:AR:=ag (ar 4 (cC (Yb (ab 1) (Yb (aab 1181783497276652981) ae)) jZ)) Zw
def zb:AN->Option D:=ak 4 8 za
theorem Zx(bl:Bl K w mg):aB P w K mg base 2 4 "_law_rule" ["kind","cell","start","many"] zb:=by
 refine cm bl.f96 aDa λhr=>?_;exact(eX (qV 4 aDa.nd (FR (JF bl) hr rfl (dj (h6 1) (dj dz fv)) HE)) (eX (F6 _ _ _ _ _ _ 5 _ _ _ [1,2,2,2,1,2,3,4] aDa.nd (by decide +kernel) rfl (by trivial) (by trivial) (by intro _ _;rfl) (Yp (h7 (Yo 4) (Yp dz)))) (eX (iU (jO hr.units (Yo 0) (Yp jN)) (f6 (qV 5 aDa.nd (lB (Nj rfl) qB rfl bl.Min boot_min (ew (Yo 5) (ew (Yp dz) eE))))) iT) (eX (qV 4 aDa.nd (wK (Yo 4) (Yp dz))) (eX (FM 6 aDa.nd (qT fv)) (eX (qW jd rfl (FO rfl bl.Range (dj (h6 5) fv)) (ni 7 aDa.nd) (eX (iU (qP hr.units (Yp (wO (Yo 2) (Yp (h7 (Yo 4) (Yp (qN (Yo 3) (Yo 2))))))) (Yo 6)) (f6 (OU 6 (wO (Yo 2) (Yp (h7 (Yo 4) (Yp (qN (Yo 3) (Yo 2)))))))) iT) (f6 (qV 4 aDa.nd (wK (Yo 4) (Yp (qN (Yo 3) (Yo 2)))))))) (eX (iU (jO hr.units (Yo 0) (Yp jN)) (f6 (qU [6] (jP (iS jA jE rfl bl.Tuple boot_tuple (ew (Yp (gL (lC mW mX rfl bl.Sorted boot_sorted (ew (Yp (gL (qY aAa rfl (FO rfl bl.Range (dj (lB B7 C2 rfl bl.Len PySem.boot_len (ew (Yo 6) eE)) fv)) (λ_ _ _ _ _=>(ni 0 aAa.nd)) (λ_ _ _ _ _=>qX) (λ_ _ _ _ _=>(h8 (dj (lA (Yo 1) (Yo 0)) (dj (wL hr.units (Yp (h7 (Yp (qZ (Yo 2) (Yo 0))) (Yp dz))) (Yp dz)) fv)))) (pv (i:=0) rfl)))) eE)))) eE))))) iT) (eX (iU (jO hr.units (Yo 0) (Yp jN)) (f6 (jP (h8 (dj (iS jA jE rfl bl.Tuple boot_tuple (ew (Yp (gL (lC mW mX rfl bl.Sorted boot_sorted (ew (Yo 6) eE)))) eE)) (dj (wL hr.units (Yp (h7 (Yo 4) (Yp dz))) (Yp dz)) fv))))) iT) (eX (iU (jO hr.units (Yp (h7 (Yo 4) (Yp dz))) (Yp dz)) (f6 (jP (h8 (dj (iS jA jE rfl bl.Tuple boot_tuple (ew (Yp (gL (lC mW mX rfl bl.Sorted boot_sorted (ew (Yo 6) eE)))) eE)) (dj qM fv))))) iT) (eX (iU (jO hr.units (Yp (h7 (Yo 4) (Yp dz))) (Yp dz)) (f6 (FM 6 aDa.nd (OS (fl:=(some (aab 1))) (fh:=none) (Yo 6) (qS (Yp dz)) qR))) iT) (f6 (jP (h8 (dj (iS jA jE rfl bl.Tuple boot_tuple (ew (Yp (gL (lC mW mX rfl bl.Sorted boot_sorted (ew (Yo 6) eE)))) eE)) (dj (wO (Yo 2) (Yp (h7 (Yp (wK (Yo 4) (Yp dz))) (Yp (qN (Yo 3) (Yo 2)))))) fv)))))))))))))))
def Zy:Fs 1 97 ["part"]:=aH
def Zz:Cs ["part"] 97 ["one"] [none] [("one",0),("_law_plain",2)]:=bh
def JG(rec:AN->Option D):AU:=(cC (Yb (ab 0) ae) rec)
def nT(rec:AN->Option D):AR:=(ag (aM (b1 (mB (b1 (aa 0) (cg "tuple"))) aD) (ah (cC (Yb (lF (Yw (b1 (ab 0) Yc) [none] (aj 0) tY (JG rec))) ae) cj)) au) (ah (kO (mB (b2 (aa 0) (kD .non) (cc false))) (kO (mB (b1 (aa 0) (cg "str"))) (mB (b1 (aa 0) (cg "int")))))))
def Yj:Nat->AN->Option D
 | 0=>λ_=>none
 | k+1=>ak 1 1 (nT (Yj k))
def gh:AN->Option D:=Yj 12
def ZD(bl:Bl K w mg){k j:Nat}(rc:aB P w K mg base k 1 "_law_plain" ["part"] (Yj j))(hk:0<=k):aB P w K mg base (k+1) 1 "_law_plain" ["part"] (Yj (j+1)):=by
 refine cm bl.f97 Zy λhr=>?_
 exists Zz
def ZH:aB P w K mg base 12 1 "_law_plain" ["part"] gh:=i5 (L:=0) (mr:=Yj) bl.f97 rfl (ZD bl) (j:=12)
def ZJ:Fs 1 98 ["paper"]:=aH
def ZK:Cs ["paper"] 98 ["row"] [none] [("row",0),("isinstance",2),("bool",2)]:=bh
def ZL:Cs ["paper"] 98 ["road"] [none] [("road",0),("all",2)]:=bh
def ZM(env:Env)(h:env.scope=aFa (top 98)):relabel (gY [(".0",.local),("road",.local),("all",.globalImplicit)]) env=(gY [(".0",.local),("road",.local),("all",.globalImplicit)]):=by unfold relabel Env.kindOf;rw[h];rfl
def ZN:(["saying"]:AJ).Nodup:=by decide +kernel
def ZQ(env:Env)(h:env.scope=aFa (top 98)):fW ["road"] (relabel (gY [(".0",.local),("road",.local),("all",.globalImplicit)]) env) ["saying"] [none] (gY [(".0",.local),("saying",.local),("isinstance",.globalImplicit),("bool",.globalImplicit)]):=by rw[ZM env h];exact Cd (by decide +kernel)
def tH:AU:=(mB (b1 (b2 (aa 0) (aab 2) ai) (cg "bool")))
def JH:AU:=(mB (b1 (b2 (aa 0) (aab 1) ai) (cg "bool")))
def JK:AU:=(cC (Yb (lF (Yw (b1 (ab 0) Yc) [none] (aj 0) tY (JH))) ae) cj)
@[simp] def ZR:AR:=(ah (kD (.bl true)))
@[simp] def ZU:AR:=(ag (aM (b2 (b2 (aa 0) (aab 0) ai) (lF (bC (Yb (kD (.str "clash")) (Yb (kD (.str "cross")) (Yb (kD (.str "late")) ae))))) (b7 false)) (ah (cC (Yb (lF (Yw (b1 (jK (aa 0) (some (aab 1)) none) Yc) [none] (aj 0) tY (JK))) ae) cj)) au) ZR)
def j0:AR:=(ag (aM (c_ (b2 (b2 (aa 0) (aab 0) ai) (kD (.str "plan")) (az false)) (b2 (b2 (aa 0) (aab 0) ai) (kD (.str "sums")) (az false))) (ah (cC (Yb (lF (Yw (b1 (b2 (aa 0) (aab 1) ai) Yc) [none] (aj 0) tY (tH))) ae) cj)) au) ZU)
def Yl:AN->Option D:=ak 1 1 j0
def ZV:aB P w K mg base 1 1 "_law_truths" ["paper"] Yl:=by
 exists bl.f98,ZJ,ZK,ZL,ZQ _ rfl,ZN
def ZX:Fs 4 99 ["found","book","hands","start"]:=aH
@[simp] def ZY:AR:=(ah (mB (b2 (cC (Yb (b2 (aa 0) (aab 1) ai) (Yb (ab 1) (Yb (ab 2) (Yb (ab 3) (Yb (b2 (aa 0) (aab 0) ai) ae))))) yX) (kD (.bl true)) (qA false))))
@[simp] def JL:AR:=(ag (aM (c_ (bU (b2 (b2 (aa 0) (aab 0) ai) (kD (.str "keeper")) (az true)) (b2 (b2 (aa 0) (aab 0) ai) (kD (.str "storm")) (az true))) (c_ (aZ (b1 (cC (Yb (b2 (aa 0) (aab 1) ai) ae) gh) aD)) (aZ (b1 (cC (Yb (b2 (aa 0) (aab 1) ai) ae) Yl) aD)))) (ah (kD (.bl false))) au) ZY)
def Rk:AR:=(ag (aM (c_ (aZ (b1 (mB (b1 (aa 0) (cg "tuple"))) aD)) (c_ (b2 (cC (Yb (aa 0) ae) bO) (aab 2) (az true)) (aZ (b1 (mB (b1 (b2 (aa 0) (aab 1) ai) (cg "tuple"))) aD)))) (ah (kD (.bl false))) au) JL)
def h_:AN->Option D:=ak 4 4 Rk
def ZZ:aB P w K mg base 20 4 "_law_good" ["found","book","hands","start"] h_:=by
 exists bl.f99,ZX,ZH bl,ZV bl,JD bl
def Z0:Fs 2 100 ["kind","script","many","start","hands","way","more","far","rules"]:=aH
def Z1:Cs ["kind","script","many","start","hands","way","more","far","rules"] 100 ["k","hands","more"] [none,some 4,some 6] [("k",0),("int",2),("hands",1),("more",1)]:=bh
def Z2:Cs ["kind","script","many","start","hands","way","more","far","rules"] 100 ["cell","kind","start","far"] [none,some 0,some 3,some 7] [("cell",0),("_law_rule",2),("far",1),("kind",1),("start",1)]:=bh
def JM:AU:=(b2 (lF (bC (Yb (kD (.str "storm")) (Yb (kD (.str "keeper")) ae)))) (cC (Yb (kO (mB (b2 (b2 (aa 1) (aa 0) ai) (kD (.str "keeper")) (az false))) (mB (b2 (b2 (aa 2) (aa 0) ai) (kD (.str "keeper")) (az false)))) ae) kT) ai)
def JN:AU:=(cC (Yb (ab 1) (Yb (ab 0) (Yb (ab 2) (Yb (ab 3) ae)))) zb)
@[simp] def JO:AR:=(ah (lF (bC (Yb (av (Yb (ab 0) (Yb (cC (Yb (aa 8) ae) bD) ae))) (Yb (ab 4) (Yb (ab 3) ae))))))
@[simp] def JP:AR:=(ag (bf 8 (Yw (b1 (lF (vX (aa 1) (some (aab 4)) (some (b2 (aab 4) (b2 (b2 (aa 5) (aab 32) c9) (aab 41) bb) dJ)))) Yc) [none,some 0,some 3,some 7] (aj 0) tY (JN))) JO)
@[simp] def JQ:AR:=(ag (ar 7 (cC (Yb (aa 2) (Yb (b2 (aa 3) (b2 (lF (hP [60,60,60,3,6,12,6,12,6])) (b2 (b2 (aa 5) (aab 3) c9) (aab 9) bb) ai) dJ) ae)) gH)) JP)
@[simp] def Rm:AR:=(ag (aM (b2 (b2 (aa 5) (aab 3) bb) (aab 0) (az false)) (ag (ar 6 (cC (Yb (cC (Yb (ab 1) (Yb (aab 3) ae)) Yx) (Yb (ab 2) ae)) l4)) (ar 4 (cC (Yb (lF (Yw (cF (Yb (ab 2) ae) di) [none,some 4,some 6] (aj 0) tY (JM))) ae) bD))) au) JQ)
@[simp] def Z3:AR:=(ag (ar 5 (cC (Yb (cC (Yb (ab 1) (Yb (aab 2) ae)) Yx) (Yb (aab 1865811235122147685) ae)) jZ)) Rm)
@[simp] def Z4:AR:=(ag (ar 4 (cC (Yb (cC (Yb (ab 1) (Yb (aab 1) ae)) Yx) (Yb (ab 2) ae)) l4)) Z3)
@[simp] def Z5:AR:=(ag (ar 3 (b2 (b2 (cC (Yb (ab 1) (Yb (aab 0) ae)) Yx) (aab 60) c9) (aa 2) bb)) Z4)
def Rn:AR:=(ag (ar 2 (b2 (aab 1) (b2 (cC (Yb (ab 1) (Yb (aab 0) ae)) Yx) (aab 60) bb) dJ)) Z5)
def nU:AN->Option D:=ak 2 9 Rn
def Z6:aB P w K mg base 3 2 "_law_drawn" ["kind","script"] nU:=by
 exists bl.f100,Z0,Zj bl,Zn bl,JF bl,Z1,Z2,Zx bl
def aEa:Fs 1 101 ["book","kind","rules"]:=aH
def aBa:Cs ["book","kind","rules"] 101 ["rule"] [none] [("rule",0),("tuple",2),("sorted",2)]:=bh
def Z7(env:Env)(h:env.scope=aFa (top 101)):relabel (gY [(".0",.local),("rule",.local),("tuple",.globalImplicit),("sorted",.globalImplicit)]) env=(gY [(".0",.local),("rule",.local),("tuple",.globalImplicit),("sorted",.globalImplicit)]):=by unfold relabel Env.kindOf;rw[h];rfl
def Z8:(["one"]:AJ).Nodup:=by decide +kernel
def Z9(env:Env)(h:env.scope=aFa (top 101)):fW ["rule"] (relabel (gY [(".0",.local),("rule",.local),("tuple",.globalImplicit),("sorted",.globalImplicit)]) env) ["one"] [none] (gY [(".0",.local),("one",.local)]):=by rw[Z7 env h];exact Cd (by decide +kernel)
def aCa:Cs ["book","kind","rules"] 101 ["rule"] [none] [("rule",0),("len",2)]:=bh
def Rq:AU:=(av (Yb (b2 (aa 0) (aab 0) ai) (Yb (gq (b2 (aa 0) (aab 1) ai)) ae)))
def zc:AU:=(cC (Yb (lF (cF (Yb (lF (Yw (b1 (ab 0) Yc) [none] (aj 0) tY (Rq))) ae) fq)) ae) bD)
def zd:AU:=(av (Yb (b2 (aa 0) (aab 0) ai) (Yb (mB (b2 (b2 (aa 0) (aab 1) ai) (mB (b2 (b2 (cC (Yb (b2 (aa 0) (aab 0) ai) ae) bO) (aab 2) bb) (aab 1) (az false))) (az true))) ae)))
@[simp] def Z_:AR:=(ah (av (Yb (k9 ["ifs","nots"] [(kD (.str "nots")),(kD (.str "ifs"))] (aa 1)) (Yb (ab 2) ae))))
@[simp] def Yu4:AR:=(ag (aM (b2 (aa 1) (kD (.str "sums")) (az false)) (ah (av (Yb (ab 1) (Yb (cC (Yb (lF (Yw (b1 (ab 2) Yc) [none] (aj 0) tY (zd))) ae) bD) ae)))) au) Z_)
@[simp] def Rr:AR:=(ag (aM (b2 (aa 1) (kD (.str "eithers")) (az false)) (ah (av (Yb (ab 1) (Yb (cC (Yb (lF (Yw (b1 (ab 2) Yc) [none] (aj 0) tY (zc))) ae) bD) ae)))) au) Yu4)
def JR:AR:=(ag (gN (ab 0) (fD 1 2)) Rr)
def i8:AN->Option D:=ak 1 3 JR
theorem Yyk(bl:Bl K w mg):aB P w K mg base 1 1 "_law_turned" ["book"] i8:=by
 refine cm bl.f101 aEa λhr=>?_;exact(eX (sg (OV 1 2 rfl aEa.nd) (h6 0)) (eX (iU (jO hr.units (Yo 1) (Yp jN)) (f6 (jP (h8 (dj (h6 1) (dj (iS jA jE rfl bl.Tuple boot_tuple (ew (Yp (gL (qY aBa rfl (wN (h6 2)) (λ_ _ _ _ _=>(ni 0 aBa.nd)) (λ_ _ _ _ _=>qX) (λ_ _ _ _ _=>(iS jA jE rfl bl.Tuple boot_tuple (ew (Yp (gL (lC mW mX rfl bl.Sorted boot_sorted (ew (Yp (gL (qY (Z9 _ rfl) rfl (wN (h6 0)) (λ_ _ _ _ _=>(ni 0 Z8)) (λ_ _ _ _ _=>qX) (λ_ _ _ _ _=>(h8 (dj (lA (Yo 0) (Yp dz)) (dj (qQ (lA (Yo 0) (Yp dz))) fv)))) (pv (i:=0) rfl)))) eE)))) eE))) (pv (i:=0) rfl)))) eE)) fv))))) iT) (eX (iU (jO hr.units (Yo 1) (Yp jN)) (f6 (jP (h8 (dj (h6 1) (dj (iS jA jE rfl bl.Tuple boot_tuple (ew (Yp (gL (qY aCa rfl (wN (h6 2)) (λ_ _ _ _ _=>(ni 0 aCa.nd)) (λ_ _ _ _ _=>qX) (λ_ _ _ _ _=>(h8 (dj (lA (Yo 0) (Yp dz)) (dj (qO hr.units (Yp (lA (Yo 0) (Yp dz))) (Yp (wL hr.units (Yp (h7 (Yp (lB B7 C2 rfl bl.Len PySem.boot_len (ew (Yp (lA (Yo 0) (Yp dz))) eE))) (Yp dz))) (Yp dz)))) fv)))) (pv (i:=0) rfl)))) eE)) fv))))) iT) (f6 (jP (h8 (dj (FW hr.units [Str.ofString "ifs",Str.ofString "nots"] [(kD (.str "nots")),(kD (.str "ifs"))] (by decide +kernel) (by decide) (by decide) (OX jN (OX jN FV)) (Yo 1)) (dj (h6 2) fv))))))))
def tI:Fs 1 102 ["script","kind","book","hands","start","found","other","again"]:=aH
def JS:AR:=(ag (gN (cC (Yb (ab 1) (Yb (ab 0) ae)) nU) (xR 2 3 4)) (ag (aM (b2 (aa 4) (aab 0) (az false)) (ar 5 (cC (gD (Yb (ab 2) (Yb (ab 3) ae))) fI)) (ar 5 (cC (Yb (ab 2) (Yb (ab 3) (Yb (ab 4) ae))) fI))) (ag (aM (aZ (b1 (cC (Yb (ab 5) (Yb (ab 2) (Yb (ab 3) (Yb (ab 4) ae)))) h_) aD)) (ah (kD (.bl false))) au) (ag (ar 6 (cC (Yb (ab 2) ae) i8)) (ag (ar 7 (cC (Yb (ab 6) (Yb (ab 3) (Yb (ab 4) ae))) fI)) (aM (c_ (aZ (b1 (cC (Yb (ab 7) (Yb (ab 6) (Yb (ab 3) (Yb (ab 4) ae)))) h_) aD)) (b2 (b2 (aa 7) (aab 0) ai) (b2 (aa 5) (aab 0) ai) (az true))) (ah (kD (.bl false))) au))))))
def tJ:AR:=(ag (bq (b1 (lF (bC (Yb (kD (.str "nots")) (Yb (kD (.str "eithers")) (Yb (kD (.str "ifs")) (Yb (kD (.str "sums")) ae)))))) Yc) (aj 1) JS) (ah (kD (.bl true))))
def l5:AN->Option D:=ak 1 8 tJ
def JT(bl:Bl K w mg)(F:Fun K "law" "law" (top 102) a fd):cA P w K mg base dS 21 a fd ["script"] (de K 1 l5):=by
 refine OW (k:=20) F tI rfl rfl λcdv A outer s H E hr=>?_
 exists tI,Z6 bl,Zh bl,Zg bl,ZZ bl,Yyk bl
end
abbrev JU:Nat:=21
theorem all_mk{l:W.OpenLaw}{w:World}{K:W7}{h:Heap}{mg:AD}{fa uq:Addr}(X:K.In h)(G:h.Ns mainGlobals mg)(hfa:mg "law"=some (.ref fa)){ux ur:Option Addr}{uy:Array (Option Value)}{uz ut uu uv uo uw:Value}(F_contrary:Fk K "contrary" 1)(F_led_to:Fk K "led_to" 2)(F_is_road:Fk K "is_road" 3)(F_traced:Fk K "traced" 4)(F_ways_from:Fk K "ways_from" 5)(F_exchanged_rule:Fk K "exchanged_rule" 8)(F_exchanged:Fk K "exchanged" 9)(F_beacons_with:Fk K "beacons_with" 11)(F_is_rising:Fk K "is_rising" 12)(F_both_added:Fk K "both_added" 14)(F_added:Fk K "added" 15)(F_pairs_added:Fk K "pairs_added" 16)(F_cleared:Fk K "cleared" 17)(F_reduced:Fk K "reduced" 18)(F_either_holds:Fk K "either_holds" 20)(F_sum_holds:Fk K "sum_holds" 21)(F_if_holds:Fk K "if_holds" 22)(F_rule_holds:Fk K "rule_holds" 23)(F_broken_rules:Fk K "broken_rules" 24)(F_holds:Fk K "holds" 25)(F_beacons_in:Fk K "beacons_in" 26)(F_is_void:Fk K "is_void" 27)(F_without:Fk K "without" 28)(F_is_place:Fk K "is_place" 30)(F_body_is_known:Fk K "body_is_known" 31)(F_is_step:Fk K "is_step" 32)(F_is_derivation:Fk K "is_derivation" 33)(F_derived:Fk K "derived" 34)(F_step_to_more:Fk K "step_to_more" 35)(F_derived_in_full:Fk K "derived_in_full" 36)(F_is_broken:Fk K "is_broken" 38)(F_lead_there_and_back:Fk K "lead_there_and_back" 39)(F_clash_good:Fk K "clash_good" 40)(F_cross_good:Fk K "cross_good" 41)(F_late_good:Fk K "late_good" 42)(F_odd_good:Fk K "odd_good" 43)(F_first_ones:Fk K "first_ones" 44)(F_is_first_part:Fk K "is_first_part" 45)(F_is_last_part:Fk K "is_last_part" 46)(F_lone_good:Fk K "lone_good" 47)(F_either_paper_good:Fk K "either_paper_good" 48)(F_storm_good:Fk K "storm_good" 49)(F_sayings_of:Fk K "sayings_of" 51)(F_lead_to_one_another:Fk K "lead_to_one_another" 52)(F_clash_found:Fk K "clash_found" 53)(F_cross_found:Fk K "cross_found" 54)(F_late_found:Fk K "late_found" 55)(F_storms_paper:Fk K "storms_paper" 56)(F_free_saying:Fk K "free_saying" 57)(F_truths_made:Fk K "truths_made" 58)(F_plan_row:Fk K "plan_row" 59)(F_either_outcome:Fk K "either_outcome" 60)(F_rows_by_beacon:Fk K "rows_by_beacon" 62)(F_is_plan_row:Fk K "is_plan_row" 63)(F_come_to:Fk K "come_to" 64)(F_either_is_kept:Fk K "either_is_kept" 65)(F_plan_good:Fk K "plan_good" 66)(F_is_sum_row:Fk K "is_sum_row" 67)(F_replaced:Fk K "replaced" 68)(F_sums_good:Fk K "sums_good" 69)(F_are_some_of:Fk K "are_some_of" 70)(F_ahead_of:Fk K "ahead_of" 71)(F_is_row:Fk K "is_row" 72)(F_holds_where_lit:Fk K "holds_where_lit" 73)(F_rows_good:Fk K "rows_good" 74)(F_keeper_good:Fk K "keeper_good" 75)(F_places_to_none:Fk K "places_to_none" 77)(F_places_to_beacon:Fk K "places_to_beacon" 78)(F_some_of:Fk K "some_of" 79)(F_facts_beside:Fk K "facts_beside" 80)(F_if_outcome:Fk K "if_outcome" 81)(F_last_beacon:Fk K "last_beacon" 83)(F_storms_places:Fk K "storms_places" 84)(F_sum_rows:Fk K "sum_rows" 85)(F_sum_outcome:Fk K "sum_outcome" 86)(F_outcome:FkD K "outcome" 88)(F_good:Fk K "good" 90)(F_law_cell:Fk K "_law_cell" 92)(F_law_mixed:Fk K "_law_mixed" 93)(F_law_hands:Fk K "_law_hands" 94)(F_law_rule:Fk K "_law_rule" 96)(F_law_plain:Fk K "_law_plain" 97)(F_law_truths:Fk K "_law_truths" 98)(F_law_good:Fk K "_law_good" 99)(F_law_drawn:Fk K "_law_drawn" 100)(F_law_turned:Fk K "_law_turned" 101)(u0:W.nsIn K mainGlobals "law"=some (some (.ref uq)))(u3:K.lookup uq=some ⟨uz,ux,.func (W.fnOf "law" "law" (aIa (top 102)) (aHa (top 102)) (aFa (top 102)) .none ut uu uv ur uo uw),uy⟩)(u4:W.codeIn K uo "law"=true)(u5:W.keepIn K (.ref uq)=true){ub:Addr}{uk:_}{uc ud ue uf ug uh ui uj:_}(ul:W.nsIn K mainGlobals "EXCHANGED_KINDS"=some (some (.ref ub)))(um:K.lookup ub=some ⟨.type "dict",none,.dict #[⟨PyData.keyHash w.params (Str.ofString "eithers"),.str "eithers" uc,.str "eithers" ud⟩,⟨PyData.keyHash w.params (Str.ofString "sums"),.str "sums" ue,.str "sums" uf⟩,⟨PyData.keyHash w.params (Str.ofString "ifs"),.str "ifs" ug,.str "nots" uh⟩,⟨PyData.keyHash w.params (Str.ofString "nots"),.str "nots" ui,.str "ifs" uj⟩] uk,#[]⟩)(z_len:W.nsIn K mainGlobals "len"=some none)(z_range:W.nsIn K mainGlobals "range"=some none)(z_list:W.nsIn K mainGlobals "list"=some none)(z_tuple:W.nsIn K mainGlobals "tuple"=some none)(z_int:W.nsIn K mainGlobals "int"=some none)(z_bool:W.nsIn K mainGlobals "bool"=some none)(z_str:W.nsIn K mainGlobals "str"=some none)(z_sorted:W.nsIn K mainGlobals "sorted"=some none)(z_any:W.nsIn K mainGlobals "any"=some none)(z_all:W.nsIn K mainGlobals "all"=some none)(z_isinstance:W.nsIn K mainGlobals "isinstance"=some none)(z_enumerate:W.nsIn K mainGlobals "enumerate"=some none)(z_reversed:W.nsIn K mainGlobals "reversed"=some none)(z_set:W.nsIn K mainGlobals "set"=some none)(z_min:W.nsIn K mainGlobals "min"=some none)(z_dict:W.nsIn K mainGlobals "dict"=some none): ∃fd:FuncData,(∀(s:Shared) (v:Value),BindsTo s fd ⟨[v],[]⟩ [("script",v)])/\∀base:Heap,K.In base->base.Ns mainGlobals mg->cA l.prog w K mg base dS JU fa fd ["script"] (de K 1 l5):=by
 have e:=hfa.symm.trans (W.mg_of X G u0);cases e
 have bl:Bl K w mg:=⟨W.mg_none_of X G z_len,W.mg_none_of X G z_range,W.mg_none_of X G z_list,W.mg_none_of X G z_tuple,W.mg_none_of X G z_int,W.mg_none_of X G z_bool,W.mg_none_of X G z_str,W.mg_none_of X G z_sorted,W.mg_none_of X G z_any,W.mg_none_of X G z_all,W.mg_none_of X G z_isinstance,W.mg_none_of X G z_enumerate,W.mg_none_of X G z_reversed,W.mg_none_of X G z_set,W.mg_none_of X G z_min,W.mg_none_of X G z_dict,⟨_,_,_,_,W.mg_of X G ul,um,⟨rfl,rfl,rfl⟩,rfl,(.cons ⟨rfl,⟨_,rfl⟩,⟨_,rfl⟩,by decide +kernel⟩ (.cons ⟨rfl,⟨_,rfl⟩,⟨_,rfl⟩,by decide +kernel⟩ (.cons ⟨rfl,⟨_,rfl⟩,⟨_,rfl⟩,by decide +kernel⟩ (.cons ⟨rfl,⟨_,rfl⟩,⟨_,rfl⟩,by decide +kernel⟩ .nil))))⟩,F_contrary.on X G,F_led_to.on X G,F_is_road.on X G,F_traced.on X G,F_ways_from.on X G,F_exchanged_rule.on X G,F_exchanged.on X G,F_beacons_with.on X G,F_is_rising.on X G,F_both_added.on X G,F_added.on X G,F_pairs_added.on X G,F_cleared.on X G,F_reduced.on X G,F_either_holds.on X G,F_sum_holds.on X G,F_if_holds.on X G,F_rule_holds.on X G,F_broken_rules.on X G,F_holds.on X G,F_beacons_in.on X G,F_is_void.on X G,F_without.on X G,F_is_place.on X G,F_body_is_known.on X G,F_is_step.on X G,F_is_derivation.on X G,F_derived.on X G,F_step_to_more.on X G,F_derived_in_full.on X G,F_is_broken.on X G,F_lead_there_and_back.on X G,F_clash_good.on X G,F_cross_good.on X G,F_late_good.on X G,F_odd_good.on X G,F_first_ones.on X G,F_is_first_part.on X G,F_is_last_part.on X G,F_lone_good.on X G,F_either_paper_good.on X G,F_storm_good.on X G,F_sayings_of.on X G,F_lead_to_one_another.on X G,F_clash_found.on X G,F_cross_found.on X G,F_late_found.on X G,F_storms_paper.on X G,F_free_saying.on X G,F_truths_made.on X G,F_plan_row.on X G,F_either_outcome.on X G,F_rows_by_beacon.on X G,F_is_plan_row.on X G,F_come_to.on X G,F_either_is_kept.on X G,F_plan_good.on X G,F_is_sum_row.on X G,F_replaced.on X G,F_sums_good.on X G,F_are_some_of.on X G,F_ahead_of.on X G,F_is_row.on X G,F_holds_where_lit.on X G,F_rows_good.on X G,F_keeper_good.on X G,F_places_to_none.on X G,F_places_to_beacon.on X G,F_some_of.on X G,F_facts_beside.on X G,F_if_outcome.on X G,F_last_beacon.on X G,F_storms_places.on X G,F_sum_rows.on X G,F_sum_outcome.on X G,F_outcome.on X G,F_good.on X G,F_law_cell.on X G,F_law_mixed.on X G,F_law_hands.on X G,F_law_rule.on X G,F_law_plain.on X G,F_law_truths.on X G,F_law_good.on X G,F_law_drawn.on X G,F_law_turned.on X G⟩
 have u6:=oP (st:=(top 102)) u3 u4 u5;refine⟨W.fnOf "law" "law" (aIa (top 102)) (aHa (top 102)) (aFa (top 102)) .none ut uu uv ur uo uw,λs v=>.of_eq rfl,λbase _ _=>?_⟩;exact JT bl u6
theorem walk(hlaw:∀ns:AF,ns.length<=63->l5 [.scr ns]=some (.bl true)){l:W.OpenLaw}{K:Params->W7}(hn:l.most=some 63)(hdf:d.params.defaults=[])(hY:∀(w:World) (h:Heap),YP w h->(K w.params).In h)(F:∀(w:World) (mg:AD) (fa:Addr) (h:Heap),(K w.params).In h->h.Ns mainGlobals mg->mg d.name=some (.ref fa)->
  ∃fd:FuncData,(∀(s:Shared) (u:Value),BindsTo s fd ⟨[u],[]⟩ [("script",u)])/\∀base:Heap,(K w.params).In base->base.Ns mainGlobals mg->cA l.prog w (K w.params) mg base dS JU fa fd ["script"] (de (K w.params) 1 l5)):
 W.WalkO q loose XP YP l.row.toRowW d [] (λf vs=>PySem.call f vs):=
 L2.walk_of (n:=63) (k:=JU) (x:="script") (CX:=λ_=>dS) (sp:=λw=>de (K w.params) 1 l5) hn (by decide) hdf ⟨rfl,by decide,by decide⟩ hY F
  (λw H a ns hl _ hS=>⟨rfl,[.scr ns],.bl true,H,Same.refl H,.one (by rw[Rp];exact⟨a,rfl,hS⟩),hlaw ns hl,λv H' G' g r=>by rw[Rp]at r;exact r⟩) λ_ _ _ _ _ z=>z
end Lw
namespace Lw
open PySem L2 M Bk
theorem Rt:∀(l a:AF) (x:Int),x∈aY a l↔x∈a\/x∈l
 | [],a,x=>by simp[aY]
 | k::l,a,x=>by
   rw[aY,Rt];by_cases h:k∈a
   .rw[if_pos h]
    simp;constructor
    .rintro(b|b)
     .exact .inl b
     .exact .inr (.inr b)
    .rintro(b|b|b)
     .exact .inl b
     .subst b;exact .inl h
     .exact .inr b
   .rw[if_neg h]
    simp[or_assoc]
theorem Ru:∀(l a:AF),a.Nodup->(aY a l).Nodup
 | [],_,h=>h
 | k::l,a,h=>by
   refine Ru l _ ?_;by_cases b:k∈a
   .rwa [if_pos b]
   .rw[if_neg b,List.nodup_append]
    refine⟨h,by simp,λx d y c z=>?_⟩;simp at c;subst c;exact b (z ▸ d)
theorem Rv{n:Nat}(hn:n<64)(l:AE)(h:∀x∈l,x<n)(u:l.length<4000):∃b:AE,b.Pairwise (·<·)/\(∀x,x∈b↔x∈l)/\ng (l.map nD)=some (b.map nD):=by
 have t:l.map nD=(l.map .ofNat).map .int:=by simp[wu]
 generalize hd:aY [] (l.map .ofNat)=d
 have p:d.Nodup:=by rw[<-hd];exact Ru _ _ .nil
 have c:∀x,x∈d↔∃y∈l,y=x:=λx=>by rw[<-hd,Rt];simp
 have i:=fo d;have q:=hE d
 obtain⟨b,j⟩:∃b:AE,dy d=b.map .ofNat:=by
  refine⟨(dy d).map Int.toNat,?_⟩;rw[Qf];refine(List.map_id _).symm.trans (Qq λx k=>?_);obtain⟨y,_,rfl⟩:=(c x).mp (i.mem_iff.mp k);simp[wu]
 have e:∀x,x∈b↔x∈l:=λx=>by
  have s:x∈b↔(x:Int)∈dy d:=by
   rw[j];constructor
   .exact λh=>Qs h
   .intro h
    obtain⟨y,o,f⟩:=qy h
    have:=by simpa using f
    exact this ▸ o
  rw[s,i.mem_iff,c];constructor
  .rintro⟨y,o,f⟩
   have:y=x:=by lia
   exact this ▸ o
  .exact λh=>⟨x,h,rfl⟩
 have g:=by
  rw[j]at i q
  have m:b.Nodup:=by
   have:=i.nodup_iff.mpr p;rw[List.nodup_iff_pairwise_ne,List.pairwise_map]at this;exact this.imp λh z=>h (by rw[z])
  exact(((List.pairwise_map.mp q).imp λh=>by simpa using h).and m).imp λh=>Nat.lt_of_le_of_ne h.1 h.2
 have r:d.length<=n:=by
  rw[<-i.length_eq,j,qf];exact lQ g λx k=>h x ((e x).mp k)
 refine⟨b,g,e,?_⟩;unfold ng;rw[t,nu];dsimp only;rw[if_pos ⟨by rwa [qf],by lia⟩,hd,j];simp[wu]
def JV(ns:AF)(k:Nat):Yx [.scr ns,.int k]=some (.int (ns.getD k 0)):=by
 rw[Yx,Ye (by rfl)];by_cases h:k<ns.length
 .have e:aX (ns.map D.int) k=some (.int ns[k]):=by
   rw[f7,lK h];rfl
  simp[JE,Yd,h,e]
 .simp[JE,Yd,h]
def ze(ns:AF)(k:Nat)(i:Int)(a:i=(k:Int)):Yx [.scr ns,.int i]=some (.int (ns.getD k 0)):=by
 subst a;exact JV ns k
def JW(ns:AF)(a b:Nat):bN (ns.map D.int) (some (a:Int)) (some (b:Int))=((ns.drop (min a ns.length)).take (min b ns.length-min a ns.length)).map D.int:=by
 unfold bN;rw[HT.sIx_nat,HT.sIx_nat];simp
theorem JY(c m:Int):∃v:Int,0<=v/\jZ [.int c,.int m]=some (.int v):=by
 refine⟨c%2305843009213693951*m%2305843009213693951,Int.emod_nonneg _ (by decide),?_⟩;rw[jZ,Ye (by rfl)];have a:gn (.int (c%2305843009213693951)) (.int m)=_:=GH ⟨by lia,by lia⟩;simp[Ri,Yd,a]
section
variable {c:D}{ev:AG}(hc:Yc c=some (ev.map D.bl))
include hc
def Yu5(a:∀s∈l,s.1<ev.length):x_ [aI (.ei l),c]=some (.bl (l.any λs=>at' ev s.1==s.2)):=by
 rw[x_,Ye (by rfl)]
 simp[PY,Yd,ao,bG (fe:=Ig) (r:=[↑c]) (enc:=af) (λs=>.bl (at' ev s.1==s.2)) (l:=l) (λs b=>by
  simp[Ig,hc,iY (a s b)])]
theorem y4d(a:∀x∈b,x<ev.length):ya [aI (.su b o),c]=some (.bl (decide ((b.filter (at' ev)).length%2=1)==o)):=by
 have e:∀n:Nat,decide ((n:Int)%2=1)=decide (n%2=1):=λn=>by
  symm
 rw[ya,Ye (by rfl)]
 simp[PZ,Yd,ao,iX (fc:=Ih) (fe:=Ii) (r:=[↑c]) (enc:=nD) (at' ev) nD (l:=b) (λs d=>by
  simp[Ih,hc,iY (a s d)]) (λs _ _=>by simp[Ii]),e]
def Rw(d:∀x∈b,x<ev.length)(e:∀x,h=some x->x<ev.length):yc [aI (.im b h),c,.bl w]=some (.bl ((b.any λx=>at' ev x != w)||hd ev w h)):=by
 have a:=bG (fe:=Ij) (r:=[↑c,↑(.bl w)]) (enc:=nD) (λx=>.bl (at' ev x != w)) (l:=b) (λs i=>by
  simp[Ij,hc,iY (d s i),bne])
 rw[yc,Ye (by rfl)]
 cases f:(b.any _)with
 | true=>simp[yb,Yd,ao,a,f]
 | false=>
   cases h with
   | none=>simp[yb,Yd,ao,a,f,aq,hd]
   | some x=>simp[yb,Yd,ao,a,f,aq,hd,hc,iY (e x rfl)]
def Rx{r:Rl}(d:In k ev.length r):sL [aU k,aI r,c]=some (.bl (so k ev r)):=by
 rw[sL,Ye (by rfl)]
 cases r with
 | ei l=>
   obtain⟨rfl,a⟩:=d;simp[sJ,Yd,Yu5 hc a,so]
 | su b o=>
   obtain⟨rfl,a⟩:=d;simp[sJ,Yd,y4d hc a,so]
 | im b h=>
   obtain⟨f,a,e⟩:=d;rcases f with rfl|rfl
   .simp[sJ,Yd,Rw hc a e,so]
   .simp[sJ,Yd,Rw hc a e,so]
end
section
variable {c:D}{ev:AG}(hc:Yc c=some (ev.map D.bl))
include hc
theorem Yu6{k:Kd}{R:List Rl}(b:∀r∈R,In k ev.length r):yd [bz k R,c]=some (.lst ((brk k ev R).map nD)):=by
 rw[yd,Ye (by rfl)]
 simp[P2,Yd,ao,GY,GT (fc:=Ik) (fe:=Il) (r:=[↑(bz k R),↑c]) (e1:=λi:Nat=>.int i) (e2:=λi=>aI (lP R i)) (λi=>!so k ev (lP R i)) nD (l:=.range R.length) (λi a=>by
  simp[Ik,Rx hc (b (lP R i) (se (Qb a)))]) (λi _ _=>by simp[Il]),brk]
end
section
variable {c:D}{ev:AG}(hc:Yc c=some (ev.map D.bl))
include hc
def JZ{k:Kd}{R:List Rl}(a:∀r∈R,In k ev.length r):ye [bz k R,c]=some (.bl (decide (brk k ev R=[]))):=by
 rw[ye,Ye (by rfl)];simp[sM,Yd,Yu6 hc a]
end
theorem y1w{r:Rl}(f:In k n r)(hs:sz r<=999999):yg [aU k,aI r]=some (.lst ((d8 r).map nD)):=by
 rw[yg,Ye (by rfl)]
 cases r with
 | ei l=>
   obtain⟨rfl,_⟩:=f;have h:=bG (fe:=Ip) (r:=[]) (enc:=af) (λs=>nD s.1) (l:=l) (λs _=>by simp[Ip]);simp[yf,Yd,ao,h,d8,wu]
 | su b o=>
   obtain⟨rfl,_⟩:=f;constructor<;>lia
 | im b h=>
   obtain⟨g,_⟩:=f
   have c:¬k=.e:=by grind
   have d:¬k=.s:=by grind
   have e:b.length+1<=1000000:=by simp[sz]at hs;ext
   cases h with
   | none=>simp[yf,Yd,d8,c,aq]
   | some x=>simp[yf,Yd,d8,c,d,aq,cu,e]
noncomputable def aO(s:aF):aF:=(s.1,!s.2)
theorem tL(s:aF):gb [af s]=some (af (aO s)):=by
 rw[gb,Ye (by rfl)];constructor<;>ac_nf
def dn:AX->AX
 | [a,b]=>if dX b.1 b.2 a.1 a.2=true then [b,a]else [a,b]
 | l=>l
def tM(h:l.length<=2):fq [.lst (l.map af)]=some ((dn l).map af):=by
 match l,h with
 | [],_=>rfl
 | [a],_=>rfl
 | [a,b],_=>
   have e:fq [.lst ([a,b].map af)]=some (if dX b.1 b.2 a.1 a.2=true then _ else _):=rfl;rw[e,dn]
   split<;>rfl
def J0(l:AX):(dn l).Perm l:=by
 match l with
 | []=>exact .refl _
 | [a]=>exact .refl _
 | [a,b]=>
   rw[dn]
   split
   .exact .swap _ _ _
   .exact .refl _
 | a::b::c::l=>exact .refl _
theorem Ry{r:Rl}(b:In k n r)(hs:sz r<=999999):sN [aU k,aI r]=some (.bl (br (aI r) (aI (vd k)))):=by
 rw[sN,Ye (by rfl)];have d:=y1w b hs;by_cases a:d8 r=[]
 .have c:In k 0 r:=by
   cases r with
   | ei l=>
     simp[d8]at a;subst a;exact⟨b.1,by simp⟩
   | su l o=>
     subst a;exact⟨b.1,by simp⟩
   | im l o=>
     cases o with
     | none=>
       subst a;exact⟨b.1,by simp,by simp⟩
     | some x=>simp[d8]at a
  have f:=Rx (c:=.tup []) (ev:=[]) rfl c
  have e:br (aI r) (aI (vd k))=!so k [] r:=by
   cases r with
   | ei l=>
     obtain⟨rfl,_⟩:=b;simp[d8]at a;subst a;simp[aI,vd,so]
   | su l o=>
     obtain⟨rfl,_⟩:=b;subst a;cases o<;>simp[aI,vd,so]
   | im l o=>
     cases o with
     | none=>
       subst a
       have:br .non .non=true:=by simp[br,aG,PyData.eqv]
       rcases b.1 with rfl|rfl<;>simp[aI,vd,so,aq,hd,this]
     | some x=>simp[d8]at a
  rw[a]at d;simp[Iq,Yd,d,f,e]
 .have e:br (aI r) (aI (vd k))=false:=by
   cases r with
   | ei l=>
     obtain⟨rfl,_⟩:=b
     cases l with
     | nil=>simp[d8]at a
     | cons s l=>simp[aI,vd]
   | su l o=>
     obtain⟨rfl,_⟩:=b
     cases l with
     | nil=>simp[d8]at a
     | cons s l=>constructor<;>ac_nf
   | im l o=>
     have g:∀x,br (.int x) .non=false:=λx=>by simp[br,aG,PyData.eqv]
     cases l with
     | nil=>cases o with
       | none=>simp[d8]at a
       | some x=>rcases b.1 with rfl|rfl<;>simp[aI,vd,aq,g]
     | cons s l=>rcases b.1 with rfl|rfl<;>simp[aI,vd]
  simp[Iq,Yd,d,a,e]
def b8:Rl->Rl
 | .ei l=>.ei (dn (l.map aO))
 | .su l o=>.su l (o != decide (l.length%2=1))
 | .im l h=>.im l h
def d9:Kd->Kd
 | .e=>.e
 | .s=>.s
 | .i=>.n
 | .n=>.i
theorem tN{k:Kd}{n:Nat}{r:Rl}(h:In k n r)(hs:dU r):In (d9 k) n (b8 r)/\dU (b8 r):=by
 cases r with
 | ei l=>
   obtain⟨rfl,h⟩:=h;obtain⟨h1,h2⟩:=hs
   match l,h1,h2,h with
   | [],_,_,h=>exact⟨⟨rfl,h⟩,by simp[b8,dn,dU]⟩
   | [(x,p)],_,_,h=>
     simp at h;simp[b8,dn,aO,dU,Bk.In,d9,h]
   | [(x,p),(y,q)],_,h2,h=>
     simp[lO]at h2 h;simp only[b8,Qd,List.map_nil,dn,aO];rcases h2 with e|⟨rfl,rfl,rfl⟩
     .have h1:¬((y:Int)=x):=by ac_nf
      have h2:¬((y:Int)<x):=by ac_nf
      simp[dX,h1,h2,Bk.In,dU,d9,h,lO,e]
     .simp[dX,Bk.In,dU,d9,h,lO]
 | su l o=>
   obtain⟨rfl,h⟩:=h;exact⟨⟨rfl,h⟩,hs⟩
 | im l h=>
   obtain⟨hk,h⟩:=h;refine⟨⟨?_,h⟩,hs⟩;rcases hk with rfl|rfl
   .exact .inr rfl
   .exact .inl rfl
theorem Yp6{r:Rl}(h:In k n r)(hs:dU r):x6 [aU k,aI r]=some (aI (b8 r)):=by
 rw[x6,Ye (by rfl)]
 cases r with
 | ei l=>
   obtain⟨rfl,_⟩:=h;have b:=tM (l:=l.map aO) (by simpa using hs.1);simp[wu]at b;simp[x5,Yd,ao,bG (fe:=HM) (r:=[]) (enc:=af) (λs=>af (aO s)) (l:=l) (λs _=>by simp[HM,tL]),b,b8,GZ]
 | su l o=>
   obtain⟨rfl,_⟩:=h
   have e:((l.length:Int)%2=1)↔(l.length%2=1):=by constructor<;>lia
   simp[x5,Yd,b8];cases o<;>by_cases h:l.length%2=1<;>simp[aI,e]
 | im l h=>
   obtain⟨c,_⟩:=h;rcases c with rfl|rfl<;>simp[x5,Yd,b8]
def J1(k:Kd):iK gt_EXCHANGED_KINDS (aU k)=some (aU (d9 k)):=by
 have h:gt_EXCHANGED_KINDS.lookup (kS k)=some (kS (d9 k)):=by cases k<;>decide +kernel
 show(gt_EXCHANGED_KINDS.lookup _).map _=_;rw[h];rfl
def Rz{R:List Rl}(h:∀r∈R,In k n r/\dU r):i6 [bz k R]=some (bz (d9 k) (R.map b8)):=by
 rw[i6,Ye (by rfl)];simp[PL,Yd,bz,ao,J1,bG (fe:=HN) (r:=[↑(aU k)]) (enc:=aI) (λr=>aI (b8 r)) (l:=R) (λr b=>by simp[HN,Yp6 (h r b).1 (h r b).2]),wu]
noncomputable abbrev fJ(ev:AG):AG:=ev.map (! ·)
def nV{ev:AG}{b:Nat}(h:b<ev.length):at' (fJ ev) b=!at' ev b:=by
 simp[at',h]
def mem_ex{l:AX}{b:Nat}{p:Bool}:(b,p)∈dn (l.map aO)↔(b,!p)∈l:=by
 rw[(J0 _).mem_iff,List.mem_map];constructor
 .rintro⟨⟨x,q⟩,h,e⟩
  simp[aO]at e;obtain⟨rfl,rfl⟩:=e;simpa using h
 .intro h
  exact⟨_,h,by simp[aO]⟩
theorem tQ{ev:AG}:∀{l:AE},(∀x∈l,x<ev.length)->(l.filter (at' (fJ ev))).length+(l.filter (at' ev)).length=l.length
 | [],_=>rfl
 | a::l,h=>by
   have c:=tQ λx b=>h x (qg a b);have:=nV (h a qh);cases e:at' ev a<;>simp[this,e]<;>ac_nf
theorem tR{k:Kd}{ev:AG}{r:Rl}(f:In k ev.length r):so (d9 k) (fJ ev) (b8 r)=so k ev r:=by
 cases r with
 | ei l=>
   obtain⟨rfl,a⟩:=f;simp only[so,b8];rw[Bool.eq_iff_iff,List.any_eq_true,List.any_eq_true];constructor
   .rintro⟨⟨x,p⟩,h,e⟩
    have h:=mem_ex.mp h;refine⟨_,h,?_⟩;have:=nV (a _ h);simp at this e ⊢;rw[this]at e;cases p<;>simp at e ⊢<;>exact e
   .rintro⟨⟨x,p⟩,h,e⟩
    refine⟨(x,!p),mem_ex.mpr (by simpa using h),?_⟩;have:=nV (a _ h);simp at this e ⊢;rw[this,e]
 | su l o=>
   obtain⟨rfl,a⟩:=f;have:=tQ a;simp only[so,b8];generalize (l.filter (at' (fJ ev))).length=x at this;generalize (l.filter (at' ev)).length=y at this;by_cases d:x%2=1<;>by_cases c:y%2=1
   .have:¬l.length%2=1:=by ac_nf
    simp[d,c,this]
   .have:l.length%2=1:=by ac_nf
    cases o<;>simp[d,c,this]
   .have:l.length%2=1:=by ac_nf
    cases o<;>simp[d,c,this]
   .have:¬l.length%2=1:=by ac_nf
    simp[d,c,this]
 | im l h=>
   obtain⟨j,a,g⟩:=f
   have e:decide (d9 k=Kd.i)=!decide (k=Kd.i):=by rcases j with rfl|rfl<;>rfl
   simp only[so,b8];rw[e];generalize decide (k=Kd.i)=w
   have i:(l.any λx=>at' (fJ ev) x != !w)=l.any λx=>at' ev x != w:=by
    rw[Bool.eq_iff_iff,List.any_eq_true,List.any_eq_true];constructor
    .rintro⟨x,b,e⟩
     refine⟨x,b,?_⟩;rw[nV (a x b)]at e;cases w<;>cases h:at' ev x<;>simp[h]at e ⊢
    .rintro⟨x,b,e⟩
     refine⟨x,b,?_⟩;rw[nV (a x b)];cases w<;>cases h:at' ev x<;>simp[h]at e ⊢
   rw[i]
   cases h with
   | none=>rfl
   | some x=>
     simp only[hd];rw[nV (g x rfl)];cases w<;>cases at' ev x<;>rfl
noncomputable def kn(b a:AE):Bool:=b.all λx=>decide (x∈a)
abbrev a9:=List Nat×AL
def dA(r:a9):D:=.tup [.tup (r.1.map nD),aq r.2]
structure aaa(r:a9):Prop where
 b:∀x∈r.1,x<60
 h:∀x,r.2=some x->x<60
 p:r.1.Pairwise (·<·)
 l:r.1.length<=3
@[simp] def tS(r:a9):Yc (dA r)=some [.tup (r.1.map nD),aq r.2]:=nr rfl
def Yt(R:List a9):D:=.tup [.str "ifs",.tup (R.map dA)]
@[simp] def J2(R:List a9):Yc (Yt R)=some [.str "ifs",.tup (R.map dA)]:=nr rfl
def J3(r:a9)(fs:AE)(hd:Yc d=some (fs.map nD)):jY [dA r,d]=some (.bl (kn r.1 fs)):=by
 rw[jY,Ye (by rfl)];simp[yh,Yd,ao,bG (fe:=nG) (r:=[↑d]) (enc:=nD) (λx=>.bl (decide (x∈fs))) (l:=r.1) (λx _=>by simp[nG,cv x fs false hd]),kn]
def zf(R:List a9)(i:Int):jX [Yt R,.int i]=some (.bl (decide (0<=i/\i<R.length))):=by
 rw[jX,Ye (by rfl)];by_cases h:0<=i<;>simp[Iv,Yd,h]
noncomputable def aw(R:List a9)(i:Int):a9:=R.getD i.toNat ([],none)
theorem j3(h:0<=i/\i<R.length):aX (R.map dA) i=some (dA (aw R i)):=by
 rw[f7,rR (j:=i.toNat) (v:=aw R i) (by(simp;lia)) (by rw[aw,List.getD_eq_getElem?_getD,qr (by ext)];simp)];rfl
def eZ(R:List a9)(fs:AE)(i:Int):Bool:=decide (0<=i/\i<R.length)&&((aw R i).2.isSome&&kn (aw R i).1 fs)
def J4(R:List a9){d:D}(fs:AE)(i:Int)(hd:Yc d=some (fs.map nD)):lT [Yt R,d,.int i]=some (.bl (eZ R fs i)):=by
 rw[lT,Ye (by rfl)];by_cases h:0<=i/\i<R.length
 .have h1:=j3 h
  have h2:=J3 (aw R i) fs hd;have h3:=zf R i;rw[wn h]at h3;unfold eZ;rw[wn h]
  cases hh:(aw R i).2 with
  | none=>simp[nH,Yd,h3,h1,hh,aq]
  | some x=>simp[nH,Yd,h3,h1,h2,hh,aq]
 .have h3:=zf R i
  rw[wo h]at h3;unfold eZ;rw[wo h];simp[nH,Yd,h3]
noncomputable def bj(r:a9):Nat:=r.2.getD 0
noncomputable def bP(R:List a9):AE->AF->Bool
 | _,[]=>true
 | fs,i::is=>eZ R fs i&&bP R (fs++[bj (aw R i)]) is
def RA{R:List a9}{fs:AE}{i:Int}(h:eZ R fs i=true):(0<=i/\i<R.length)/\aq (aw R i).2=nD (bj (aw R i)):=by
 unfold eZ at h;simp only[Qe,wm]at h;refine⟨h.1,?_⟩;obtain⟨x,hx⟩:=Option.isSome_iff_exists.mp h.2.1;rw[bj,hx];rfl
theorem RC(R:List a9)(c d:D):∀(is:AF) (fs:AE) (y:AQ),fs.length+is.length<=1000->
 (bP R fs is=true/\∃ρ',M.forM (aj 4) nI (is.map D.int) [↑(Yt R),↑c,↑d,some (.ow (fs.map nD)),y]=some (.nx ρ'))\/
 (bP R fs is=false/\M.forM (aj 4) nI (is.map D.int) [↑(Yt R),↑c,↑d,some (.ow (fs.map nD)),y]=some (.rt (.bl false)))
 | [],fs,y,_=>.inl ⟨rfl,_,rfl⟩
 | i::is,fs,y,hl=>by
   have hs:=J4 R (d:=.lst (fs.map nD)) fs i rfl;rw[bP,Qd,M.forM]
   cases h:eZ R fs i with
   | false=>
     rw[h]at hs;right;refine⟨rfl,?_⟩;simp[nI,hs]
   | true=>
     rw[h]at hs;obtain⟨h1,h2⟩:=RA h;have ih:=RC R c d is (fs++[bj (aw R i)]) (↑(.int i)) (by simp at hl ⊢;ac_nf)
     have hb:nI [↑(Yt R),↑c,↑d,some (.ow (fs.map nD)),↑(.int i)]=some (.nx [↑(Yt R),↑c,↑d,some (.ow ((fs++[bj (aw R i)]).map nD)),↑(.int i)]):=by
      have hcap:fs.length<1000000:=by simp at hl;ac_nf
      simp[nI,hs,j3 h1,h2,cf,hcap]
     simp only[GC,List.set,qd,hb,Bool.true_and];exact ih
def RD(R:List a9){c d:D}(fs:AE)(is:AF)(hc:Yc c=some (fs.map nD))(hd:Yc d=some (is.map D.int))(hl:fs.length+is.length<=1000):sQ [Yt R,c,d]=some (.bl (bP R fs is)):=by
 rw[sQ,Ye (by rfl)];rcases RC R c d is fs none hl with⟨h1,ρ',h2⟩|⟨h1,h2⟩
 .simp[Iz,Yd,hc,hd,h2,h1]
 .simp[Iz,Yd,hc,hd,h2,h1]
noncomputable abbrev fl(n:Nat)(P:AH):AE:=(List.range n).filter P
theorem tU(d:l.Pairwise (·<·))(h:∀x∈l,x<n):l=fl n λx=>decide (x∈l):=by
 have c:(fl n λx=>decide (x∈l)).Pairwise _:=List.pairwise_lt_range.filter _;have e:∀{m:AE},m.Pairwise (·<·)->_:=λh=>h.imp qm
 exact((List.perm_ext_iff_of_nodup (e d) (e c)).mpr λx=>by
  ext).eq_of_pairwise (λa b _ _ c f=>absurd (Nat.lt_trans c f) (Nat.lt_irrefl _)) d c
theorem gP(l:AE):intsD (l.map nD)=some (l.map λx:Nat=>(x:Int)):=by ext
def mem_castI{l:AE}{x:Nat}:(x:Int)∈l.map (λy:Nat=>(y:Int))↔x∈l:=by simp
theorem J5(n:Nat)(P:AH):(fl n P).length<=n:=by grind
theorem RE(hn:m.Nodup)(h:∀x:Int,x∈m↔∃y:Nat,y∈fl n R/\(y:Int)=x):dy m=(fl n R).map λy:Nat=>(y:Int):=by
 have hs:((fl n R).map λy:Nat=>(y:Int)).Pairwise (·<=·):=by
  rw[List.pairwise_map]
  exact(List.pairwise_lt_range.filter R).imp λh=>by lia
 have hnd:((fl n R).map λy:Nat=>(y:Int)).Nodup:=by
  rw[List.nodup_iff_pairwise_ne,List.pairwise_map]
  exact(List.pairwise_lt_range.filter R).imp λh=>by lia
 have hperm:m.Perm ((fl n R).map λy:Nat=>(y:Int)):=(List.perm_ext_iff_of_nodup hn hnd).mpr λx=>by
  rw[h,List.mem_map]
 exact W.ksm_same ((fo m).trans hperm) (hE m) hs
theorem tV(q:n<64)(P Q:AH):iR ((fl n P).map nD) ((fl n Q).map nD)=some ((fl n λx=>P x != Q x).map nD):=by
 unfold iR;rw[gP,gP,qd,qd];generalize i:((fl n P).map _)=a;generalize t:((fl n Q).map _)=b
 have s:a.length<=n:=by symm
 have m:b.length<=n:=by symm
 have d:∀l,(aY [] l).length<=l.length:=λl=>by
  have:∀(r c:AF),(aY c r).length<=c.length+r.length:=λr=>by
   induction r with
   | nil=>intro c;simp[aY]
   | cons k r j=>
     intro c;rw[aY];symm
  symm
 have f:∀x,x∈dZ a b↔∃y:Nat,y∈(fl n λx=>P x != Q x)/\y=x:=λx=>by
  rw[OR,<-t];symm
 have h:(dZ a b).length<=n:=by
  have e:=RE (Fc a b) f;have:=(fo (dZ a b)).length_eq;symm
 have g:(b.all λk=>decide (0<=k/\k<1024))=true:=by
  symm
 have o:=d a;have p:=d b;rw[if_pos ⟨by ac_nf,by ac_nf,by ac_nf,by ac_nf,g,by ac_nf⟩,RE (Fc a b) f,Qf];rfl
abbrev cn(P:AH)(o:Bool):D:=.tup [.tup ((fl 60 P).map nD),.bl o]
def J6(P Q:AH)(o a:Bool):jV [cn P o,cn Q a]=some (cn (λx=>P x != Q x) (o != a)):=by
 rw[jV,Ye (by rfl)];have e:(!_)=(o != a):=rfl;have d:Yd 2 [cn P o,cn Q a]=[_,_]:=rfl;have b:Yc (cn P o)=some _:=rfl;have c:Yc (cn Q a)=some _:=rfl;rw[d];simp[PQ,tV (n:=60) (by decide) P Q,b,c,e]
abbrev Sm:=(AH)×Bool
abbrev aW(r:Sm):D:=cn r.1 r.2
noncomputable def rg(R:List Sm)(p:Nat):Sm:=R.getD p (λ_=>false,false)
def a_(R:List Sm)(ps:AE)(x:Nat):Nat:=(ps.filter λp=>decide (x∈fl 60 (rg R p).1)).length
def aJ(R:List Sm)(ps:AE):Bool:=ps.foldl (λo p=>o != (rg R p).2) false
theorem zg(R:List Sm)(ps:AE)(p x:Nat):a_ R (ps++[p]) x=if x∈fl 60 (rg R p).1 then a_ R ps x+1 else a_ R ps x:=by
 unfold a_
 split<;>ext
def RF(R:List Sm)(ps:AE)(p:Nat):aJ R (ps++[p])=(aJ R ps != (rg R p).2):=by
 unfold aJ;rw[List.foldl_append];rfl
theorem J7(h:∀x,x<60->P x=Q x):cn P o=cn Q o:=by
 have:=List.filter_congr λx a=>h x (Qb a);grind
def J8{R:List Sm}{p:Nat}(h:p<R.length):aX (R.map aW) (p:Int)=some (aW (rg R p)):=by
 rw[f7,lK h];simp[rg,h]
abbrev aV(R:List Sm)(ps:AE):D:=cn (λx=>decide (a_ R ps x%2=1)) (aJ R ps)
theorem J9(R:List Sm)(q:AE)(p:Nat):cn (λx=>decide (a_ R q x%2=1)!=(rg R p).1 x) (aJ R q != (rg R p).2)=aV R (q++[p]):=by
 unfold aV;rw[RF];refine J7 λx hx=>?_;rw[zg];by_cases h:(rg R p).1 x=true
 .rw[if_pos (List.mem_filter.mpr ⟨List.mem_range.mpr hx,h⟩),h]
  by_cases z:a_ R q x%2=1
  .have z2:¬(a_ R q x+1)%2=1:=by ac_nf
   simp[z,z2]
  .have z2:(a_ R q x+1)%2=1:=by ac_nf
   simp[z,z2]
 .rw[if_neg λz=>h (Qc z).2]
  simp[h]
theorem J_{cp:D}{R:List Sm}{ps:AE}(hp:Yc cp=some (ps.map nD))(hlt:∀p∈ps,p<R.length):sG [.tup [.str "sums",.tup (R.map aW)],cp]=some (aV R ps):=by
 rw[sG,Ye (by rfl)];generalize hb:D.tup [.str "sums",.tup (R.map aW)]=Bo
 have hbi:Yc Bo=some [.str "sums",.tup (R.map aW)]:=by rw[<-hb];rfl
 have h0:aV R []=.tup [.tup [],.bl false]:=by
  have:(fl 60 λx=>decide (a_ R [] x%2=1))=[]:=by
   rw[List.filter_eq_nil_iff];intro x _;simp[a_]
  unfold aV cn;rw[this];rfl
 obtain⟨ρ1,e1,y3,rfl⟩:=gM (gt:=aj 3) (fb:=HV) nD (λpre ρ=>∃y3:AQ,ρ=[↑Bo,↑cp,↑(aV R pre),y3]) ps []
  [↑Bo,↑cp,↑(.tup [.tup [],.bl false]),none] ⟨none,by rw[h0]⟩ (by
   rintro q p r ρ e ⟨y3,rfl⟩;have hpl:p<R.length:=hlt p (by rw[Qj]at e;rw[e];simp);have hat:=J8 hpl;have hba:=J6 (λx=>decide (a_ R q x%2=1)) (rg R p).1 (aJ R q) (rg R p).2;rw[J9]at hba;refine⟨_,[↑Bo,↑cp,↑(aV R (q++[p])),↑(nD p)],rfl,?_,_,rfl⟩;have hpn:nD p=.int (p:Int):=rfl;rw[hpn];generalize aV R (q++[p])=T2,R.map aW=A at *;have hat':aX A (p:Int)=some (cn (rg R p).1 (rg R p).2):=hat;generalize cn (rg R p).1 (rg R p).2=S at *
   change jV [aV R q,S]=_ at hba
   generalize aV R q=T1 at *
   simp[HV,hbi,hat',hba])
 have hst:Yd 4 [Bo,cp]=[↑Bo,↑cp,none,none]:=rfl;rw[hst];rw[Qj]at e1;generalize aV R ps=T at *;simp[sF,hp]at e1 ⊢;rw[e1];simp
def tW{l:AE}(a:l.Pairwise (·<·))(h:∀x∈l,x<60)(o:Bool):D.tup [.tup (l.map nD),.bl o]=aW (λx=>decide (x∈l),o):=by
 unfold aW cn;rw[<-tU a h]
theorem tX(f g:AH):∀l:AE,(l.filter λp=>f p != g p).length+2*(l.filter λp=>f p&&g p).length=(l.filter f).length+(l.filter g).length
 | []=>rfl
 | a::l=>by
   have d:=tX f g l;cases c:f a<;>cases b:g a<;>simp[c,b]<;>lia
theorem Ka(R:List Sm)(ps:AE):aJ R ps=decide ((ps.filter λp=>(rg R p).2).length%2=1):=by
 have b:∀(l:AE) (o:Bool),l.foldl (λo p=>o != (rg R p).2) o=(o != decide ((l.filter λp=>(rg R p).2).length%2=1)):=λl=>by
  induction l with
  | nil=>intro o;simp
  | cons a l c=>
    symm
 unfold aJ
 ext
theorem tZ(h:a+2*k=b+c):decide (a%2=1)=(decide (b%2=1)!=decide (c%2=1)):=by grind
theorem Kb(R:List Sm)(W V:AH):cn (λx=>decide (a_ R (fl 60 W) x%2=1)!=decide (a_ R (fl 60 V) x%2=1)) (aJ R (fl 60 W)!=aJ R (fl 60 V))=aV R (fl 60 λp=>W p != V p):=by
 have hx:∀h:AH,(((fl 60 λp=>W p != V p).filter h).length+2*((List.range 60).filter λp=>(W p&&h p)&&(V p&&h p)).length)=((fl 60 W).filter h).length+((fl 60 V).filter h).length:=λh=>by
  have:=tX (λp=>W p&&h p) (λp=>V p&&h p) (List.range 60);rw[List.filter_filter,List.filter_filter,List.filter_filter]
  have e1:((List.range 60).filter λp=>h p&&(W p != V p))=(List.range 60).filter λp=>(W p&&h p)!=(V p&&h p):=List.filter_congr λp _=>by cases h p<;>cases W p<;>cases V p<;>rfl
  have e2:((List.range 60).filter λp=>h p&&W p)=(List.range 60).filter λp=>W p&&h p:=List.filter_congr λp _=>by cases h p<;>cases W p<;>rfl
  have e3:((List.range 60).filter λp=>h p&&V p)=(List.range 60).filter λp=>V p&&h p:=List.filter_congr λp _=>by cases h p<;>cases V p<;>rfl
  rw[e1,e2,e3];exact this
 unfold aV;rw[Ka,Ka,Ka,<-tZ (hx λp=>(rg R p).2)];refine J7 λx _=>?_;exact(tZ (hx λp=>decide (x∈fl 60 (rg R p).1))).symm
abbrev aP(R:List Sm)(W:AH):D:=.tup [.tup ((fl 60 W).map nD),aV R (fl 60 W)]
def Yyo(R:List Sm)(W V:AH):x9 [aP R W,aP R V]=some (aP R λp=>W p != V p):=by
 rw[x9,Ye (by rfl)];have b:=J6 (λx=>decide (a_ R (fl 60 W) x%2=1)) (λx=>decide (a_ R (fl 60 V) x%2=1)) (aJ R (fl 60 W)) (aJ R (fl 60 V));rw[Kb]at b;have a:Yd 2 [aP R W,aP R V]=[_,_]:=rfl;rw[a];simp[PR,tV (n:=60) (by decide) W V,b]
def tP(R:List Sm)(W:AH):AH:=λx=>decide (a_ R (fl 60 W) x%2=1)
def Last(P:AH)(b:Nat):Prop:=b<60/\P b=true/\∀x,x<60->P x=true->x<=b
theorem Kc(P:AH):fl 60 P=[]\/∃b,Last P b/\fl 60 P≠[]/\aX ((fl 60 P).map nD) (-1)=some (nD b):=by
 cases e:(fl 60 P).getLast? with
 | none=>exact .inl (List.getLast?_eq_none_iff.mp e)
 | some b=>
   right;obtain⟨d,f⟩:=List.getLast?_eq_some_iff.mp e;have c:(fl 60 P).Pairwise _:=List.pairwise_lt_range.filter _
   have g:b∈fl 60 P:=by rw[f];simp
   refine⟨b,⟨Qb (Qc g).1,(Qc g).2,λx i j=>?_⟩,by rw[f];simp,?_⟩
   .have a:x∈fl 60 P:=List.mem_filter.mpr ⟨List.mem_range.mpr i,j⟩
    rw[f]at a c;rcases qw a with a|a
    .exact Nat.le_of_lt ((List.pairwise_append.mp c).2.2 x a b nofun)
    .rw[List.mem_singleton.mp a];exact qv _
   .rw[f,wt]
    unfold aX fB
    have h:(d.map nD++[b].map nD).length=d.length+1:=by simp
    rw[h,if_neg ∅,if_pos (by ext<;>ac_nf)]
    have:((-1:Int)+((d.length+1:Nat))).toNat=d.length:=by ac_nf
    rw[this];simp
def Last.uniq(h:Last P a)(h':Last P b):a=b:=Nat.le_antisymm (h'.2.2 a h.1 h.2.1) (h.2.2 b h'.1 h'.2.1)
abbrev dq:=Nat×(AH)
abbrev bQ(BL:List dq):AN:=(BL.map (·.1)).map nD
abbrev bo(R:List Sm)(BL:List dq):AN:=BL.map λr=>aP R r.2
theorem RG:∀{a:List dq},b∈a.map (·.1)->∃r∈a,r.1=b/\Yn ((a.map (·.1)).map λx:Nat=>(x:Int)) (bo R a) (b:Int)=some (aP R r.2)
 | [],h=>nomatch h
 | r::a,h=>by
   show ∃s∈_,_/\Yn (_::_) (_::_) _=_;rw[Yn];by_cases e:r.1=b
   .exact⟨r,qh,e,by rw[if_pos ∅]⟩
   .have c:b∈a.map (·.1):=by
     rcases qu h with z|z
     .exact absurd z.symm e
     .exact z
    obtain⟨s,f,d,g⟩:=RG c;exact⟨s,qg _ f,d,by rwa [if_neg ∅]⟩
theorem t4(R:List Sm)(W V:AH)(x:Nat)(f:x<60):tP R (λp=>W p != V p) x=(tP R W x != tP R V x):=by
 have b:=congrArg (λd=>match d with|.tup [.tup l,_]=>M.intsD l|_=>none) (Kb R W V);dsimp only at b;rw[gP,gP]at b
 have a:x∈(fl 60 λx=>decide (a_ R (fl 60 W) x%2=1)!=decide (a_ R (fl 60 V) x%2=1))↔x∈(fl 60 λx=>decide (a_ R (fl 60 λp=>W p != V p) x%2=1)):=by
  rw[<-mem_castI,<-mem_castI,w4 b]
 rw[Ql,Ql]at a;have c:=List.mem_range.mpr f;show decide _=_;cases e:decide (a_ R _ x%2=1)
 .cases g:(tP R W x != tP R V x)
  .rfl
  .exact absurd (a.mp ⟨c,g⟩).2 (by ext)
 .exact(a.mpr ⟨c,e⟩).2.symm
theorem Ke(R:List Sm)(W V:AH):aJ R (fl 60 λp=>W p != V p)=(aJ R (fl 60 W)!=aJ R (fl 60 V)):=by
 have h:=Kb R W V
 ext
inductive Red (R:List Sm) (BL:List dq) (e:Bool):(AH)->Bool->Prop
 | zero {T:AH}{o:Bool}:(∀x,x<60->T x=false)->(e=false->o=false)->Red R BL e T o
 | step {T:AH}{o:Bool} (r:dq):r∈BL->Last T r.1->Red R BL e (λx=>T x != tP R r.2 x) (o != aJ R (fl 60 r.2))->Red R BL e T o
theorem Last.congr(h:Last T b)(e:∀x,x<60->T x=a x):Last a b:=⟨h.1,by rw[<-e b h.1];exact h.2.1,λx c d=>h.2.2 x c (by ext)⟩
theorem Red.congr(h:Red R BL e T o):∀{a:AH},(∀x,x<60->T x=a x)->Red R BL e a o:=by
 induction h with
 | zero j g=>exact λb=>.zero (λx c=>by ext) g
 | step r d i _ f=>exact λb=>.step r d (i.congr b) (f λx c=>by ext)
theorem Red.mono(i:∀r∈BL,r∈a)(k:e=true->d=true)(h:Red R BL e T o):Red R a d T o:=by
 induction h with
 | zero g f=>
   refine .zero g λz=>f ?_;grind
 | step r b j _ c=>exact .step r (i r b) j c
theorem RH(A:∀r∈BL,Last (tP R r.2) r.1/\∀p,r.2 p=true->p<n)(w:AQ):∀(k a:Nat) (W:AH),(∀x,x<60->tP R W x=true->x<k)->k<a->(∀p,W p=true->p<n)->
 ∃V:AH,(∀p,V p=true->p<n)/\(fl 60 (tP R V)=[]\/∃b,Last (tP R V) b/\b∉BL.map (·.1))/\(∀(c:List dq) (e:Bool),(∀r∈BL,r∈c)->Red R c e (tP R V) (aJ R (fl 60 V))->Red R c e (tP R W) (aJ R (fl 60 W)))/\
  dw (bU (b1 (b2 (b2 (aa 2) (aab 1) ai) (aab 0) ai) aD) (b2 (b2 (b2 (b2 (aa 2) (aab 1) ai) (aab 0) ai) (b1 (aab 1) bE) ai) (aa 1) (cK false))) HZ a [w,↑(.dct false (bQ BL) (bo R BL)),↑(aP R W)] =
   some (.nx [w,↑(.dct false (bQ BL) (bo R BL)),↑(aP R V)])
 | k,0,W,_,h,_=>absurd h (Nat.not_lt_zero _)
 | k,a+1,W,Z,hf,y=>by
   have F:Yc (aP R W)=some [.tup ((fl 60 W).map nD),.tup [.tup ((fl 60 (tP R W)).map nD),.bl (aJ R (fl 60 W))]]:=rfl;rw[dw];rcases Kc (tP R W)with J|⟨b,m,G,i⟩
   .refine⟨W,y,.inl J,λ_ _ _ z=>z,?_⟩
    ext
   .have f:((fl 60 (tP R W)).map nD).isEmpty=false:=by
     ext
    have d:cK false (.int (b:Int)) (.dct false (bQ BL) (bo R BL))=some (decide (b∈BL.map (·.1))):=by
     rw[qH,gP,Option.map_some]
     ext
    have t:nD b=.int (b:Int):=rfl;rw[t]at i;by_cases s:b∈BL.map (·.1)
    .obtain⟨r,D,o,g⟩:=RG (R:=R) s
     have O:cJ (.dct false (bQ BL) (bo R BL)) (.int (b:Int))=some (aP R r.2):=by
      rw[jI,gP,qd];exact g
     have u:=Yyo R W r.2;obtain⟨l,L⟩:=A r D;rw[o]at l;have I:b<k:=Z b m.1 m.2.1
     obtain⟨v,rfl⟩:∃v,k=v+1:=⟨k-1,by lia⟩
     obtain⟨V,U,T,N,Q⟩:=RH A w v a (λp=>W p != r.2 p) (λx q j=>by
      rw[t4 R W r.2 x q]at j
      have M:x≠b:=λz=>by
       subst z;rw[m.2.1,l.2.1]at j;grind
      have H:x<=b:=by
       cases E:tP R W x
       .rw[E]at j
        cases S:tP R r.2 x
        .grind
        .exact l.2.2 x q S
       .exact m.2.2 x q E
      lia) (by lia) (λp hp=>by
      grind)
     refine⟨V,U,T,λc e C Y=>?_,?_⟩
     .refine .step r (C r D) (o ▸ m) ?_
      rw[<-Ke];exact(N c e C Y).congr λx q=>t4 R W r.2 x q
     rw[wn s]at d;generalize bQ BL=K,bo R BL=VV at *;simp[F,f,i,d,HZ,O,u,-qH,-jI];exact Q
    .refine⟨W,y,.inr ⟨b,m,s⟩,λ_ _ _ z=>z,?_⟩
     rw[wo s]at d;generalize aP R W=PW,bQ BL=K,bo R BL=VV at *;simp[F,f,i,d,-qH]
theorem Kf(h:∀r∈BL,Last (tP R r.2) r.1/\∀p,r.2 p=true->p<n)(W:AH)(d:∀p,W p=true->p<n):
 ∃V:AH,(∀p,V p=true->p<n)/\(fl 60 (tP R V)=[]\/∃b,Last (tP R V) b/\b∉BL.map (·.1))/\(∀(a:List dq) (e:Bool),(∀r∈BL,r∈a)->Red R a e (tP R V) (aJ R (fl 60 V))->Red R a e (tP R W) (aJ R (fl 60 W)))/\nF [aP R W,.dct false (bQ BL) (bo R BL)]=some (aP R V):=by
 obtain⟨V,j,g,f,l⟩:=RH h (↑(aP R W)) 60 4000 W (λx c _=>c) (by lia) d;refine⟨V,j,g,f,?_⟩;rw[nF,Ye (by rfl)];have i:Yd 3 [aP R W,.dct false (bQ BL) (bo R BL)]=[_,_,none]:=rfl;generalize D.dct _ _ _=k at *;rw[PU]
 ext
theorem l6(l:AE):er (l.map nD)=true:=by
 induction l with
 | nil=>rfl
 | cons a l b=>
   rw[Qd,er,b];rfl
def Kg(R:List Sm)(W:AH):jF (aP R W)=true:=by
 show jF (.tup [_,.tup [.tup ((fl 60 (tP R W)).map nD),_]])=true;simp [jF,er,l6 (fl 60 W),l6 (fl 60 (tP R W))]
theorem zh(a:p<60):fl 60 (λx=>decide (x=p))=[p]:=by
 have h:=tU (n:=60) (l:=[p]) nofun (by ext)
 ext
theorem Kh(R:List Sm)(p:Nat):aV R [p]=aW (rg R p):=by
 have a:aJ R [p]=(rg R p).2:=by
  unfold aJ
  ext
 unfold aV aW;rw[a];refine J7 λx b=>?_;have:=zg R [] p x;have c:a_ R [] x=0:=rfl
 ext<;>lia
def Ki(R:List Sm)(a:p<60):D.tup [.tup [nD p],aW (rg R p)]=aP R λx=>decide (x=p):=by
 show _=D.tup _;rw[zh a,Kh];rfl
def c7:Option AH->D
 | none=>.non
 | some U=>.tup ((fl 60 U).map nD)
def t5(R:List Sm)(n:Nat)(U:Option AH):Prop:=∀a,U=some a->fl 60 (tP R a)=[]/\aJ R (fl 60 a)=true/\∀p,a p=true->p<n
def j4(R:List Sm)(n:Nat)(BL:List dq):Prop:=(∀r∈BL,Last (tP R r.2) r.1/\∀p,r.2 p=true->p<n)/\(BL.map (·.1)).Nodup
theorem Kj(hn:n<=60)(hB:j4 R n BL)(hU:t5 R n U)(hl:BL.length<=1000)(hp:p<n)(d0 y5 y6:AQ):
 ∃(BL':List dq) (U':Option AH) (y5' y6':AQ),j4 R n BL'/\t5 R n U'/\BL'.length<=BL.length+1/\(∀r∈BL,r∈BL')/\(U.isSome=true->U'.isSome=true)/\Red R BL' U'.isSome (tP R λx=>decide (x=p)) (aJ R (fl 60 λx=>decide (x=p)))/\
  sH [d0,some (.od false (bQ BL) (bo R BL)),↑(c7 U),↑(nD p),↑(aW (rg R p)),y5,y6]=some (.nx [d0,some (.od false (bQ BL') (bo R BL')),↑(c7 U'),↑(nD p),↑(aW (rg R p)),y5',y6']):=by
 have h0:=Ki R (p:=p) (by lia)
 obtain⟨V,v1,v2,v4,v3⟩:=Kf hB.1 (λx=>decide (x=p)) (n:=n) (λq hq=>by
  have:q=p:=by simpa using hq
  lia)
 rw[<-h0]at v3;have hpl:=Kg R V;have hi:Yc (aP R V)=some [.tup ((fl 60 V).map nD),.tup [.tup ((fl 60 (tP R V)).map nD),.bl (aJ R (fl 60 V))]]:=rfl;have hfz:frz [1] [d0,some (.od false (bQ BL) (bo R BL)),↑(c7 U),↑(nD p),↑(aW (rg R p)),y5,y6]=[d0,↑(.dct false (bQ BL) (bo R BL)),↑(c7 U),↑(nD p),↑(aW (rg R p)),y5,y6]:=rfl
 have hlend:∀f:AU,f [d0,↑(.dct false (bQ BL) (bo R BL)),↑(c7 U),↑(nD p),↑(aW (rg R p)),y5,y6]=some (aP R V)->hV [1] f [d0,some (.od false (bQ BL) (bo R BL)),↑(c7 U),↑(nD p),↑(aW (rg R p)),y5,y6]=some (aP R V):=λf hf=>by
  unfold hV;rw[hfz,hf,qd,if_pos hpl]
 have hcall:cC (Yb (av (Yb (av (Yb (ab 3) ae)) (Yb (ab 4) ae))) (Yb (ab 1) ae)) nF [d0,↑(.dct false (bQ BL) (bo R BL)),↑(c7 U),↑(nD p),↑(aW (rg R p)),y5,y6]=some (aP R V):=by
  generalize aP R V=PV,aW (rg R p)=S1,nD p=P1,D.dct false (bQ BL) (bo R BL)=DD at *;simp[v3]
 have hc5:ar 5 (hV [1] (cC (Yb (av (Yb (av (Yb (ab 3) ae)) (Yb (ab 4) ae))) (Yb (ab 1) ae)) nF)) [d0,some (.od false (bQ BL) (bo R BL)),↑(c7 U),↑(nD p),↑(aW (rg R p)),y5,y6]=some (.nx [d0,some (.od false (bQ BL) (bo R BL)),↑(c7 U),↑(nD p),↑(aW (rg R p)),↑(aP R V),y6]):=by
  rw[GA,hlend _ hcall];rfl
 rw[sH,h9,hc5,qd,nj];generalize hPV:aP R V=PV at hi ⊢;generalize aW (rg R p)=S1;generalize nD p=P1;rcases Kc (tP R V)with he|⟨b,hb,hne,hat⟩
 .rw[he]at hi
  have hz:∀x,x<60->tP R V x=false:=λx hx=>by
   cases h:tP R V x
   .rfl
   .have:x∈fl 60 (tP R V):=List.mem_filter.mpr ⟨List.mem_range.mpr hx,h⟩
    rw[he]at this;exact nomatch this
  cases ho:aJ R (fl 60 V)with
  | false=>
    refine⟨BL,U,↑PV,↑(.tup []),hB,hU,by lia,λ_ h=>h,λh=>h,v4 BL _ (λ_ h=>h) (.zero hz λ_=>ho),?_⟩;rw[ho]at hi;generalize bQ BL=K;generalize bo R BL=VV;simp[hi]
  | true=>
    cases U with
    | some U0=>
      refine⟨BL,some U0,↑PV,↑(.tup []),hB,hU,by lia,λ_ h=>h,λh=>h,v4 BL _ (λ_ h=>h) (.zero hz λh=>nomatch h),?_⟩;rw[ho]at hi;generalize bQ BL=K;generalize bo R BL=VV;simp[hi,c7]
    | none=>
      refine⟨BL,some V,↑PV,↑(.tup []),hB,λU' hU'=>?_,by lia,λ_ h=>h,λ_=>rfl,v4 BL _ (λ_ h=>h) (.zero hz λh=>nomatch h),?_⟩
      .cases hU'
       exact⟨he,ho,v1⟩
      .rw[ho]at hi
       generalize bQ BL=K;generalize bo R BL=VV;simp[hi,c7]
 .have hbn:b∉BL.map (·.1):=by
   rcases v2 with z|⟨c,hc,hcn⟩
   .exact absurd z hne
   .rw[hb.uniq hc];exact hcn
  refine⟨BL++[(b,V)],U,↑PV,↑(.tup ((fl 60 (tP R V)).map nD)),⟨λr hr=>?_,?_⟩,hU,by simp,λr hr=>List.mem_append_left _ hr,λh=>h,v4 _ _ (λr hr=>List.mem_append_left _ hr) (.step (b,V) nofun hb (.zero (λx _=>by simp) λ_=>by simp)),?_⟩
  .rcases qw hr with hr|hr
   .exact hB.1 r hr
   .rw[List.mem_singleton.mp hr];exact⟨hb,v1⟩
  .rw[wt]
   exact List.nodup_append.mpr ⟨hB.2,by simp,λx hx y hy z=>by
    simp at hy;subst hy
    exact hbn (z ▸ hx)⟩
  .have hemp:((fl 60 (tP R V)).map nD).isEmpty=false:=by
    cases e:fl 60 (tP R V)with
    | nil=>exact absurd e hne
    | cons a l=>rfl
   have hput:m7 (bQ BL) (bo R BL) (.int (b:Int)) PV=some (bQ (BL++[(b,V)]),bo R (BL++[(b,V)])):=by
    rw[m8,gP,qd,if_pos (show(bo R BL).length<aA by rw[qf];show BL.length<1000000;lia),if_neg (λz=>hbn (mem_castI.mp z)),<-hPV];simp[nD]
   have hnb:nD b=.int (b:Int):=rfl;rw[hnb]at hat;generalize bQ (BL++[(b,V)])=K2,bo R (BL++[(b,V)])=V2,bQ BL=K,bo R BL=VV,(fl 60 (tP R V)).map nD=L at *;simp[hi,hemp,hat,hput,-m8]
def Kk(R:List Sm)(hp:p<60)(x:Nat)(hx:x<60):tP R (λx=>decide (x=p)) x=(rg R p).1 x:=by
 unfold tP;rw[zh hp];have:=zg R [] p x;rw[Qj]at this;rw[this];have h1:a_ R [] x=0:=rfl;rw[h1];cases e:(rg R p).1 x
 .rw[if_neg λz=>by rw[Ql,e]at z;exact qi z.2]
  rfl
 .rw[if_pos (List.mem_filter.mpr ⟨List.mem_range.mpr hx,e⟩)]
  rfl
theorem Kl(R:List Sm)(a:p<60):aJ R (fl 60 λx=>decide (x=p))=(rg R p).2:=by
 rw[zh a];unfold aJ
 ext
noncomputable def cw:List dq->Nat->AH
 | [],_=>λ_=>false
 | r::BL,b=>if r.1=b then r.2 else cw BL b
theorem nW(f:(AH)->D):∀{BL:List dq},b∈BL.map (·.1)->(b,cw BL b)∈BL/\Yn ((BL.map (·.1)).map λx:Nat=>(x:Int)) (BL.map λr=>f r.2) (b:Int)=some (f (cw BL b))
 | [],h=>nomatch h
 | r::BL,h=>by
   show _/\Yn (_::_) (f r.2::_) _=_;rw[Yn,cw];by_cases e:r.1=b
   ·(subst_vars;simp)
   .have a:b∈BL.map (·.1):=by
     symm
    obtain⟨c,d⟩:=nW f a
    ext
theorem RI{BL:List dq}(h:(BL.map (·.1)).Nodup)(c:r∈BL)(hs:s∈BL)(e:r.1=s.1):r=s:=by
 induction BL with
 | nil=>grind
 | cons a BL b=>
   grind
theorem zi{l:AE}(hn:l.Nodup)(b:∀x∈l,x<60):l.length<=60:=by
 have a:l.Perm (fl 60 λx=>decide (x∈l)):=(List.perm_ext_iff_of_nodup hn (List.nodup_range.filter _)).mpr λx=>by
  ext
 rw[a.length_eq];grind
theorem Km(l:AE)(hn:l.Nodup):∃l':AE,l'.Perm l/\l'.Pairwise (·<·)/\dy (l.map λx:Nat=>(x:Int))=l'.map λx:Nat=>(x:Int):=by
 have hp:=fo (l.map λx:Nat=>(x:Int));have hs:=hE (l.map λx:Nat=>(x:Int))
 have e2:∃l':AE,dy (l.map λx:Nat=>(x:Int))=l'.map λx:Nat=>(x:Int):=by
  refine⟨(dy (l.map λx:Nat=>(x:Int))).map Int.toNat,?_⟩;rw[Qf];refine(List.map_id _).symm.trans (Qq λx hx=>?_);obtain⟨y,_,rfl⟩:=qy (hp.mem_iff.mp hx);simp
 obtain⟨l',e2⟩:=e2;rw[e2]at hp hs
 have hp':l'.Perm l:=by
  have:=hp.map Int.toNat;simpa [wu]using this
 have hn':l'.Nodup:=hp'.nodup_iff.mpr hn
 have hs':l'.Pairwise (·<=·):=(List.pairwise_map.mp hs).imp λh=>by ac_nf
 exact⟨l',hp',(hs'.and hn').imp λh=>Nat.lt_of_le_of_ne h.1 h.2,e2⟩
theorem Kn(hR:R.length<=60):∃(BL:List dq) (U:Option AH),j4 R R.length BL/\t5 R R.length U/\BL.Pairwise (λr s=>r.1<s.1)/\
 (∀p,p<R.length->Red R BL U.isSome (rg R p).1 (rg R p).2)/\
 sI [.tup [.str "sums",.tup (R.map aW)]]=some (.tup [.lst (bo R BL),c7 U]):=by
 generalize l:D.tup [.str "sums",.tup (R.map aW)]=a
 have hbi:Yc a=some [.str "sums",.tup (R.map aW)]:=by rw[<-l];rfl
 obtain⟨ρ1,e1,BL,U,u,t,j,k,f,Q,G,A,rfl⟩:=gM (gt:=fD 3 4) (fb:=sH) (λi:Nat=>D.tup [.int (i:Int),aW (rg R i)]) (λw V=>∃(BL:List dq) (U:Option AH) (u t j k:AQ),j4 R R.length BL/\t5 R R.length U/\BL.length<=w.length/\(∀p∈w,Red R BL U.isSome (tP R λx=>decide (x=p)) (aJ R (fl 60 λx=>decide (x=p))))/\
  V=[↑a,some (.od false (bQ BL) (bo R BL)),↑(c7 U),u,t,j,k]) (List.range R.length) []
  [↑a,some (.od false [] []),↑.non,none,none,none,none] ⟨[],none,none,none,none,none,⟨by simp,by simp⟩,λ_ h=>(nomatch h),by simp,by simp,rfl⟩ (by
   rintro q p r V e ⟨BL,U,u,t,j,k,f,Q,G,A,rfl⟩
   have O:p<R.length:=by
    have:p∈List.range R.length:=by ext
    grind
   have hq:q.length<=R.length:=by have:=congrArg List.length e;grind
   obtain⟨C,U',E,S,H,I,hL',hs,hu,T,n⟩:=Kj hR f Q (by lia) O (↑a) j k;refine⟨_,_,rfl,n,C,U',_,_,E,S,H,I,by simp;lia,λp' c=>?_,rfl⟩;rcases qw c with z|z
   .exact(A p' z).mono hs hu
   ext)
 rw[Qj]at G A;rw[List.length_range]at G
 have g:∀x∈BL.map (·.1),x<60:=λx M=>by
  obtain⟨r,o,rfl⟩:=qy M;exact(f.1 r o).1.1
 obtain⟨d,c,hpw,K⟩:=Km (BL.map (·.1)) f.2;have Y:=zi f.2 g;have v:∀b∈d,(b,cw BL b)∈BL:=λb l=>(nW (aP R) (c.mem_iff.mp l)).1
 have m:(d.map λb=>(b,cw BL b)).map (·.1)=d:=by
  rw[Qf];exact List.map_id _
 have y:∀r∈BL,r∈d.map λb=>(b,cw BL b):=λr o=>by
  have h1:r.1∈d:=c.mem_iff.mpr (Qs (f:=(·.1)) o);have h2:=RI f.2 o (v r.1 h1) rfl;grind
 refine⟨d.map λb=>(b,cw BL b),U,⟨λr o=>?_,?_⟩,Q,?_,λp O=>?_,?_⟩
 .obtain⟨b,l,rfl⟩:=qy o
  exact f.1 _ (v b l)
 .rw[m];exact c.nodup_iff.mpr f.2
 .grind
 .have:=(A p (List.mem_range.mpr O)).mono y (λh=>h)
  rw[Kl R (by lia)]at this;exact this.congr λx M=>Kk R (by lia) x M
 .rw[sI,Ye (by rfl)]
  have n:Yd 7 [a]=[↑a,none,none,none,none,none,none]:=rfl;have hen:fY (R.map aW)=(List.range R.length).map λi:Nat=>D.tup [.int (i:Int),aW (rg R i)]:=O_ aW (λ_=>false,false) R
  have N:lr [.dct false (bQ BL) (bo R BL)]=some (d.map nD):=by
   rw[OB,gP,qd,if_pos (by grind),K,Qf];rfl
  have L:=bG (fe:=H_) (r:=[↑(.dct false (bQ BL) (bo R BL))]) (enc:=nD) (λb=>aP R (cw BL b)) (l:=d) (λb l=>by
   have hg:cJ (.dct false (bQ BL) (bo R BL)) (.int (b:Int))=some (aP R (cw BL b)):=by
    rw[jI,gP,qd];exact(nW (aP R) (c.mem_iff.mp l)).2
   have F:nD b=.int (b:Int):=rfl;rw[F];generalize aP R (cw BL b)=PB,D.dct false (bQ BL) (bo R BL)=DD at *
   simp[H_,hg,-jI])
  have J:bo R (d.map λb=>(b,cw BL b))=d.map λb=>aP R (cw BL b):=by
   ext
  rw[J];rw[n,Ie,h9];have e0:m6 1 [↑a,none,none,none,none,none,none]=some (.nx [↑a,some (.od false [] []),none,none,none,none,none]):=rfl;rw[e0,qd,nj,Ic,h9];have e2:ar 2 (kD .non) [↑a,some (.od false [] []),none,none,none,none,none]=some (.nx [↑a,some (.od false [] []),↑.non,none,none,none,none]):=rfl;rw[e2,qd,nj,Ib,h9]
  have Z:bq (b1 (b2 (aa 0) (aab 1) ai) gz) (fD 3 4) sH [↑a,some (.od false [] []),↑.non,none,none,none,none]=some (.nx [↑a,some (.od false (bQ BL) (bo R BL)),↑(c7 U),u,t,j,k]):=by
   ext
  rw[Z,qd,nj,Ia,lI];have e4:frz [1] [↑a,some (.od false (bQ BL) (bo R BL)),↑(c7 U),u,t,j,k]=[↑a,↑(.dct false (bQ BL) (bo R BL)),↑(c7 U),u,t,j,k]:=rfl;rw[e4];generalize (d.map λb=>aP R (cw BL b))=RR,D.dct false (bQ BL) (bo R BL)=DD,c7 U=VU at *;simp[N,ao,L]
theorem Ko{Q:(AH)->Bool->Prop}(h0:Q (λ_=>false) false)(c:∀{T S o u},Q T o->Q S u->Q (λx=>T x != S x) (o != u))(f:∀{T d o},Q T o->(∀x,x<60->T x=d x)->Q d o)(h:∀p∈ps,Q (rg R p).1 (rg R p).2):Q (λx=>decide (a_ R ps x%2=1)) (aJ R ps):=by
 have b:∀l:AE,(∀p∈l,Q (rg R p).1 (rg R p).2)->Q (λx=>decide (a_ R l.reverse x%2=1)) (aJ R l.reverse):=λl=>by
  induction l with
  | nil=>exact λ_=>f h0 λx _=>rfl
  | cons p l g=>
    intro e;rw[List.reverse_cons,RF];refine f (c (g λq i=>e q (qg _ i)) (e p qh)) λx c=>?_;rw[zg];cases a:(rg R p).1 x
    .rw[if_neg λz=>by rw[Ql,a]at z;exact qi z.2]
     cases decide (a_ R _ x%2=1)<;>rfl
    .rw[if_pos (List.mem_filter.mpr ⟨List.mem_range.mpr c,a⟩)]
     by_cases z:a_ R l.reverse x%2=1
     .rw[wn z,wo ∅];rfl
     .rw[wo z,wn ∅];rfl
 have:=b _ λp a=>h p (List.mem_reverse.mp a)
 rwa [List.reverse_reverse]at this
noncomputable def aK(b:Bool):D:=.str (if b=true then .ofString "keeper" else .ofString "storm")
theorem RJ(c:Int)(n:Nat)(hn:n<=1000):∃hs:AG,hs.length=n/\l4 [.int c,.int n]=some (.tup (hs.map aK)):=by
 obtain⟨v,h,g⟩:=JY c 1442695040888963407;rw[l4,Ye (by rfl)];have e:=nt (n:=n) (by lia) (by lia);rw[jT]at e
 have f:=bG (fe:=yY) (r:=[↑(.int v)]) (enc:=λi:Nat=>.int (0+i)) (λi=>aK (decide (v/2^i%2=0))) (l:=.range ((n:Int)-0).toNat) (λi _=>by
  have d:=qC v i
  have b:v/2^i%2=0\/v/2^i%2=1:=by lia
  rcases b with b|b
  .simp[yY,d,b,aK]
  .simp[yY,d,b,aK])
 refine⟨(List.range n).map λi=>decide (v/2^i%2=0),by simp,?_⟩;simp[Rj,Yd,g,e,ao]at f ⊢;rw[f];simp[wu]
theorem Kq(l:AE)(hn:l.Nodup)(j:l.length<64):∃a:AE,a.Perm l/\a.Pairwise (·<·)/\fq [.lst (l.map nD)]=some (a.map nD):=by
 have i:l.map nD=(l.map .ofNat).map .int:=by ext
 have g:=fo (l.map .ofNat);have f:=hE (l.map .ofNat)
 have d:∃a:AE,dy (l.map .ofNat)=a.map .ofNat:=by
  refine⟨(dy (l.map .ofNat)).map Int.toNat,?_⟩;rw[Qf];refine(List.map_id _).symm.trans (Qq λx k=>?_);grind
 obtain⟨a,d⟩:=d;rw[d]at g f
 have c:=by
  have:=g.map Int.toNat;simpa [wu]using this
 refine⟨a,c,?_,?_⟩
 .have e:a.Pairwise (·<=·):=by
   have:=List.pairwise_map.mp f
   ext
  exact(e.and (c.nodup_iff.mpr hn)).imp λh=>Nat.lt_of_le_of_ne h.1 h.2
 .show mV _=_
  rw[i];unfold mV;rw[nu]
  ext
theorem Kr(l:AX)(h:l.length<=2)(hn:(l.map (·.1)).Nodup):∃d:AX,d.Perm l/\d.Pairwise lO/\fq [.lst (l.map af)]=some (d.map af):=by
 match l,h,hn with
 | [],_,_=>exact⟨[],.refl _,.nil,rfl⟩
 | [a],_,_=>exact⟨[a],.refl _,by simp,rfl⟩
 | [a,b],_,hn=>
   have f:=by simpa using hn
   have e:fq [.lst ([a,b].map af)]=some (if dX b.1 b.2 a.1 a.2=true then _ else _):=rfl;obtain⟨x,p⟩:=a;obtain⟨y,q⟩:=b
   cases c:dX y q x p with
   | true=>
     refine⟨[(y,q),(x,p)],.swap _ _ [],?_,by rw[e];simp[c]⟩;unfold dX at c;rw[if_neg (λz=>f (by lia))]at c;simp at c;simp[lO,c]
   | false=>
     refine⟨[(x,p),(y,q)],.refl _,?_,by rw[e];simp[c]⟩;unfold dX at c
     have:x<y:=by ext<;>lia
     simp[lO,this]
theorem Ks(k:Kd)(c:Int)(st n:Nat)(h0:st<n)(hn:n<=1000):∃r:Rl,In k n r/\dU r/\(∀x∈d8 r,st<=x)/\zb [aU k,.int c,.int st,.int n]=some (aI r):=by
 obtain⟨v,hv0,hv⟩:=JY c 1181783497276652981
 have S:(0:Int)<(n:Int)-st:=by ext
 have hd1:(n:Int)-st<1073741824:=by lia
 have w:∀x:Int,bb (.int x) (.int ((n:Int)-st))=some (.int (x%((n:Int)-st))):=λx=>O4 S;have O:∀x:Int,c9 (.int x) (.int ((n:Int)-st))=some (.int (x/((n:Int)-st))):=λx=>GI S hd1
 have V:∀x:Int,∃b:Nat,st<=b/\b<n/\(st:Int)+x%((n:Int)-st)=(b:Int):=λx=>by
  have Z:=Int.emod_nonneg x (show(n:Int)-st≠0 by lia);have h2:=Int.emod_lt_of_pos x S;exact⟨((st:Int)+x%((n:Int)-st)).toNat,by lia,by lia,by lia⟩
 have hst:Yd 8 [aU k,.int c,.int st,.int n]=[↑(aU k),↑(.int c),↑(.int st),↑(.int n),none,none,none,none]:=rfl;rw[zb,Ye (by rfl),hst];obtain⟨u,hsm,hsa⟩:=rT (l:=([1,2,2,2,1,2,3,4]:AF)) (i:=v%8) (by lia) (by simp;lia)
 have hsz0:1<=u/\u<=4:=by
  simp at hsm;lia
 have C:aX [D.int 1,D.int 2,D.int 2,D.int 2,D.int 1,D.int 2,D.int 3,D.int 4] (v%8)=some (.int u):=by
  rw[show[D.int 1,D.int 2,D.int 2,D.int 2,D.int 1,D.int 2,D.int 3,D.int 4]=([1,2,2,2,1,2,3,4]:AF).map D.int from rfl,f7,hsa];rfl
 have F:∀ρ:Ro,hP [1,2,2,2,1,2,3,4] ρ=some (([1,2,2,2,1,2,3,4]:AF).map D.int):=λρ=>by
  unfold hP;rw[if_pos (by decide)]
 have K:∀(f:Int),0<=f->f<=4->∃(l:AE) (d:Int) (y:AQ),(l.length:Int)<=f/\l.Nodup/\(∀x∈l,st<=x/\x<n)/\
  M.forM (aj 7) tG ((List.range (f-0).toNat).map λi:Nat=>D.int (0+(i:Nat))) [↑(aU k),↑(.int c),↑(.int st),↑(.int n),↑(.int (v/8)),↑(.int f),some (.ow []),none] =
   some (.nx [↑(aU k),↑(.int c),↑(.int st),↑(.int n),↑(.int d),↑(.int f),some (.ow (l.map nD)),y]):=by
  intro f hs0 hs4
  obtain⟨ρ',A,l,d,y,hl,o,p,rfl⟩:=gM (gt:=aj 7) (fb:=tG) (λi:Nat=>D.int (0+(i:Nat))) (λpre ρ=>∃(l:AE) (d:Int) (y:AQ),l.length<=pre.length/\l.Nodup/\(∀s∈l,st<=s/\s<n)/\
   ρ=[↑(aU k),↑(.int c),↑(.int st),↑(.int n),↑(.int d),↑(.int f),some (.ow (l.map nD)),y]) (List.range (f-0).toNat) []
   [↑(aU k),↑(.int c),↑(.int st),↑(.int n),↑(.int (v/8)),↑(.int f),some (.ow []),none] ⟨[],v/8,none,qv _,.nil,by simp,rfl⟩ (by
    rintro q a r ρ e ⟨l,d,y,hl,o,p,rfl⟩
    have hq:q.length<1000:=by have:=congrArg List.length e;simp at this;lia
    have hcap:l.length<1000000:=by lia
    obtain⟨b,H,J,hb⟩:=V d;have T:=cv (c:=.lst (l.map nD)) b l true rfl;simp only[nD]at T;by_cases Y:b∈l
    .refine⟨_,_,rfl,?_,l,d/((n:Int)-st),↑(.int (0+(a:Int))),by simp;lia,o,p,rfl⟩
     simp[tG,w,O,hb,T,Y,nD]
    .refine⟨_,_,rfl,?_,l++[b],d/((n:Int)-st),↑(.int (0+(a:Int))),by simp;lia,?_,?_,rfl⟩
     .simp[aab,tG,w,O,hb,T,Y,cf,hcap,nD]
     .rw[List.nodup_append]
      refine⟨o,by simp,?_⟩;intro x j y hy z;simp at hy;subst hy;exact Y (z ▸ j)
     .intro s g
      rcases qw g with g|g
      .exact p s g
      .simp at g
       subst g
       exact⟨H,J⟩)
  refine⟨l,d,y,?_,o,p,A⟩;simp at hl
  ext
 by_cases N:k=.e
 .subst N
  obtain⟨f,hsz,hs0,hs2⟩:∃f:Int,(if (2:Int)<u then 2 else u)=f/\0<=f/\f<=2:=⟨_,rfl,by split<;>lia,by split<;>lia⟩
  obtain⟨l,d,y,hl,o,p,A⟩:=K f hs0 (by lia);have L:=nt (n:=f) (by lia) (by lia);rw[jT]at L;have hr2:=nt (n:=(l.length:Int)) (by lia) (by lia);rw[jT]at hr2
  have hc:=bG (fe:=yZ) (r:=[↑(.lst (l.map nD)),↑(.int d)]) (enc:=λi:Nat=>D.int (0+(i:Nat))) (λi:Nat=>af (l.getD i 0,decide (d/2^i%2=1))) (l:=List.range ((l.length:Int)-0).toNat) (λi hi=>by
   have hi':i<l.length:=by simpa using hi
   have Z:=qC d i
   have e0:(0:Int)+(i:Int)=(i:Int):=by lia
   have hat:aX (l.map nD) (i:Int)=some (.int (l.getD i 0:Nat)):=by
    rw[f7,lK hi'];simp[hi',nD]
   rw[e0]
   simp[yZ,Z,hat,af])
  generalize I:(List.range l.length).map (λi:Nat=>((l.getD i 0,decide (d/2^i%2=1)):aF))=sl
  have Q:sl.map (·.1)=l:=by
   rw[<-I,Qf];refine List.ext_getElem nofun λi Z h2=>?_;simp[h2]
  obtain⟨U,hp,E,g⟩:=Kr sl (by rw[<-I];simp;lia) (by rw[Q];exact o);have h:∀s∈U,st<=s.1/\s.1<n:=λs g=>p s.1 (by rw[<-Q];exact Qs (hp.mem_iff.mp g));refine⟨.ei U,⟨rfl,λs g=>(h s g).2⟩,⟨by rw[hp.length_eq,<-I];simp;lia,E⟩,λx j=>?_,?_⟩
  .obtain⟨s,hs',rfl⟩:=qy j
   exact(h s hs').1
  .have hc':cS (aj 0) tY yZ [none,↑(.lst (l.map nD)),↑(.int d)] ((List.range ((l.length:Int)-0).toNat).map λi:Nat=>D.int (0+(i:Nat)))=some (sl.map af):=by
    rw[hc,<-I,Qf];constructor<;>lia
   simp[za,hv,F,C,hsz,L]at A ⊢;rw[A];simp[hr2,ao]at hc' ⊢;rw[hc'];simp[g,aI]
 .obtain⟨l,d,y,hl,o,p,A⟩:=K u (by lia) hsz0.2
  have L:=nt (n:=u) (by lia) (by lia);rw[jT]at L;obtain⟨U,hp,E,g⟩:=Kq l o (by lia);have h:∀s∈U,st<=s/\s<n:=λs g=>p s (hp.mem_iff.mp g)
  have W:za [↑(aU k),↑(.int c),↑(.int st),↑(.int n),none,none,none,none]=y_ [↑(aU k),↑(.int c),↑(.int st),↑(.int n),↑(.int d),↑(.int u),some (.ow (l.map nD)),y]:=by
   simp[-y_,za,hv,F,C,L,N]at A ⊢;rw[A];simp[-y_,N]
  rw[W];by_cases t:k=.s
  .subst t
   refine⟨.su U (decide (d%2=1)),⟨rfl,λs g=>(h s g).2⟩,E,λx j=>(h x j).1,?_⟩;simp[g,aI]
  .have G:k=.i\/k=.n:=by cases k<;>simp at N t ⊢
   by_cases h4:d%4=0
   .refine⟨.im U none,⟨G,λs g=>(h s g).2,λx j=>by cases j⟩,E,λx j=>(h x j).1,?_⟩
    simp[g,aI,t,h4,N,aq]
   .obtain⟨b,H,J,hb⟩:=V (d/4)
    by_cases Z:d%4=1
    .have hcut:bN (l.map nD) (some 1) none=(l.map nD).drop 1:=by
      have Y:=HT.sIx_nat (l.map nD).length 0 1;unfold bN;simp at Y;simp[Y,HT.sIx]
      cases l with
      | nil=>simp
      | cons a l=>simp;exact List.take_of_length_le nofun
     obtain⟨m,hpm,hpwm,R⟩:=Kq (l.drop 1) (o.sublist (List.drop_sublist 1 l)) (by simp;lia);have hmm:∀s∈m,st<=s/\s<n:=λs g=>p s (List.mem_of_mem_drop (hpm.mem_iff.mp g));refine⟨.im m (some b),⟨G,λs g=>(hmm s g).2,λx j=>by cases j;exact J⟩,hpwm,λx j=>?_,?_⟩
     .simp[aab,d8]at j
      rcases j with j|rfl
      .exact(hmm x j).1
      .exact H
     .simp at R
      simp[g,aI,t,h4,Z,N,aq,hcut,w,hb,R]
    .refine⟨.im U (some b),⟨G,λs g=>(h s g).2,λx j=>by cases j;exact J⟩,E,λx j=>?_,?_⟩
     .simp[aab,d8]at j
      rcases j with j|rfl
      .exact(h x j).1
      .exact H
     .simp[aab,g,aI,t,h4,Z,N,aq,w,hb]
def l7(a b:Bool):az false (aK a) (aK b)=some (a==b):=by
 cases a<;>cases b<;>decide +kernel
noncomputable def ax(hs:AG)(st:Nat)(b:Bool):AE:=(List.range hs.length).filter λi=>decide (st<=i)&&(hs.getD i false==b)
theorem Yi(hs:AG)(h:Yc c=some (hs.map aK))(q:hs.length<=1000)(st:Nat)(n:st<=hs.length)(b:Bool):Ys [c,.int st,aK b]=some (.lst ((ax hs st b).map nD)):=by
 rw[Ys,Ye (by rfl)];have g:=rS (a:=st) (n:=hs.length) (by lia) (by lia) (by lia) (by lia);rw[jT]at g
 have d:=iX (fc:=HP) (fe:=HQ) (r:=[↑c,↑(aK b)]) (enc:=λi:Nat=>D.int (st+i)) (λi=>hs.getD (st+i) false==b) (λi=>nD (st+i)) (l:=List.range ((hs.length:Int)-st).toNat) (λi p=>by
  have e:st+i<hs.length:=by grind
  have k:st+(i:Int)=((st+i:Nat)):=by lia
  have f:aX (hs.map aK) ((st+i:Nat))=some (aK (hs.getD (st+i) false)):=by
   rw[f7,lK e];simp[e]
  rw[k]
  simp only[HP,Gv,U2,UZ,qd,GK,h,f,l7]) (λi _ _=>by simp[HQ,nD])
 have m:(((List.range ((hs.length:Int)-st).toNat).filter λi=>hs.getD (st+i) false==b).map λi=>nD (st+i))=(ax hs st b).map nD:=by
  unfold ax
  have o:List.range hs.length=List.range st++(List.range (hs.length-st)).map (st+·):=by
   rw[<-List.range_add]
   ext
  rw[o,List.filter_append,List.filter_map]
  have l:(List.range st).filter (λi=>decide (st<=i)&&(hs.getD i false==b))=[]:=by
   rw[List.filter_eq_nil_iff];grind
  rw[l,Qj];simp[wu]
 have j:((hs.length:Int)-st).toNat=hs.length-st:=by ext
 rw[m,j]at d;simp[PM,Yd,h,g,ao,d]
def fw(k:Kd)(r:Rl):Bool:=br (aI r) (aI (vd k))
def RL{R:List Rl}(b:∀r∈R,In k n r/\sz r<=999999):nK [bz k R]=some (.bl (R.any (fw k))):=by
 rw[nK,Ye (by rfl)]
 simp[P_,Yd,ao,bG (fe:=IC) (r:=[↑(bz k R)]) (enc:=aI) (λr=>.bl (fw k r)) (λr a=>by
  have:=Ry (b r a).1 (b r a).2
  simp[IC,this,fw])]
abbrev t6:D:=.tup [.str "broken"]
def Kt{r:Rl}{n:Nat}(h:In .n n r):fw .i (b8 r)=fw .n r:=by
 cases r with
 | ei l=>cases h.1
 | su l o=>cases h.1
 | im l o=>rfl
def cL{a b:String}(h:(Str.ofString a==Str.ofString b)=false)(neg:Bool):az neg (.str (Str.ofString a)) (.str (Str.ofString b))=some neg:=by
 rw[fH nofun nofun,rO,h];cases neg<;>rfl
def d_(a:String)(neg:Bool):az neg (.str (Str.ofString a)) (.str (Str.ofString a))=some (!neg):=by
 rw[fH nofun nofun,rO];cases neg<;>simp
theorem RM(j:Nat){k:Kd}(hk:k≠.n){n:Nat}{R:List Rl}(hR:∀r∈R,In k n r/\dU r)(hn:n<=60){c:D}{hs:AG}(hc:Yc c=some (hs.map aK))(hl:hs.length<=1000){st:Nat}(hst:st<=hs.length):
 Yr (j+1) [t6,bz k R,c,.int st]=some (.bl (R.any (fw k))):=by
 rw[Yr,Ye (by rfl)];have h1:=RL (k:=k) (n:=n) (R:=R) (λr hr=>⟨(hR r hr).1,by have:=G6 (hR r hr).1 (hR r hr).2;ac_nf⟩);have b1:=Yi hs hc hl st hst true;have b2:=Yi hs hc hl st hst false;simp[aK]at b1 b2;have e1:=d_ "broken" false;simp at e1;simp[lV,Yd,hk,b1,b2,e1,h1]
theorem y10{k:Kd}{n:Nat}{R:List Rl}(hR:∀r∈R,In k n r/\dU r)(hn:n<=60){c:D}{hs:AG}(hc:Yc c=some (hs.map aK))(hl:hs.length<=1000){st:Nat}(hst:st<=hs.length):
 gc [t6,bz k R,c,.int st]=some (.bl (R.any (fw k))):=by
 by_cases hk:k=.n
 .subst hk
  have hx:=Rz hR
  have hX:∀r∈R.map b8,In .i n r/\dU r:=λr hr=>by
   obtain⟨q,hq,rfl⟩:=qy hr;exact tN (hR q hq).1 (hR q hq).2
  have h1:=RM 10 (k:=.i) (by decide) hX hn hc hl hst
  have ha:(R.map b8).any (fw .i)=R.any (fw .n):=by
   have:∀Q:List Rl,(∀r∈Q,In .n n r)->(Q.map b8).any (fw .i)=Q.any (fw .n):=by
    intro Q
    induction Q with
    | nil=>intro _;rfl
    | cons r Q ih=>
      intro h;rw[Qd,List.any_cons,List.any_cons,Kt (h r qh),ih λq hq=>h q (qg _ hq)]
   exact this R λr hr=>(hR r hr).1
  rw[ha]at h1;rw[gc,Yr,Ye (by rfl)];simp only[d9]at hx;simp[lV,Yd,hx,h1]
 .exact RM 11 hk hR hn hc hl hst
def cD(ks:AE):D:=.dct false (ks.map nD) (ks.map λ_=>.bl true)
theorem t7(l:AE):intsD (l.map nD)=some (l.map λx:Nat=>(x:Int)):=by ext
def zj(x:Nat)(ks:AE):((x:Int)∈ks.map λx:Nat=>(x:Int))↔x∈ks:=by simp
def Ku(x:Nat)(ks:AE)(a:Bool):dN a (nD x) (cD ks)=some (decide (x∈ks)!=a):=by
 rw[cD,Em,t7,Option.map_some,decide_eq_decide.mpr (zj x ks)]
def Kv(x:Nat)(ks:AE)(a:Bool):cK a (.int (x:Int)) (cD ks)=some (decide (x∈ks)!=a):=by
 rw[cD,qH,t7,Option.map_some,decide_eq_decide.mpr (zj x ks)]
theorem Kw(ks:AE)(hk:∀x∈ks,x<60)(neg:Bool):cK neg .non (cD ks)=some (false != neg):=by
 rw[cD,EI,t7,qd,if_pos];unfold nc;rw[List.all_eq_true];intro n hn;obtain⟨y,hy,rfl⟩:=qy hn;have:=hk y hy;simp only[wm];lia
def Kx(x:Nat)(ks:AE):b7 false (nD x) (cD ks)=none:=rfl
def Yp7(r:a9)(ks:AE):jY [dA r,cD ks]=some (.bl (kn r.1 ks)):=by
 rw[jY,Ye (by rfl)];simp[yh,Yd,ao,bG (fe:=nG) (r:=[↑(cD ks)]) (enc:=nD) (λx=>.bl (decide (x∈ks))) (l:=r.1) (λx _=>by simp[nG,Ku x ks false,Kx x ks]),kn]
theorem y80(R:List a9)(ks:AE)(i:Nat)(h:i<R.length):lT [Yt R,cD ks,.int (i:Int)]=some (.bl ((aw R i).2.isSome&&kn (aw R i).1 ks)):=by
 rw[lT,Ye (by rfl)];have b:=j3 (R:=R) (i:=i) ⟨by lia,by ext⟩;have a:=zf R i;rw[wn (by ext)]at a
 cases c:(aw R i).2 with
 | none=>simp[nH,Yd,a,b,c,aq]
 | some x=>simp[nH,Yd,a,b,Yp7 (aw R i) ks,c,aq]
def t8(R:List a9)(ks:AE)(i:Nat):Bool:=match (aw R i).2 with
 | none=>false
 | some x=>!decide (x∈ks)&&kn (aw R i).1 ks
def d3(R:List a9)(ks:AE):AL:=(List.range R.length).find? (t8 R ks)
theorem Ky{f:Type}(enc:f->D)(p:f->Bool)(e:f->D)(I:Ro->Prop):∀(l:List f) (ρ:Ro),I ρ->
 (∀a∈l,∀ρ,I ρ->∃d,gt (enc a) ρ=some d/\((p a=false/\∃c,fb d=some (.nx c)/\I c)\/(p a=true/\fb d=some (.rt (e a)))))->
 (∃a,l.find? p=some a/\M.forM gt fb (l.map enc) ρ=some (.rt (e a)))\/(l.find? p=none/\∃ρ',M.forM gt fb (l.map enc) ρ=some (.nx ρ')/\I ρ')
 | [],ρ,g,_=>.inr ⟨rfl,ρ,rfl,g⟩
 | a::l,ρ,g,k=>by
   obtain⟨d,m,h⟩:=k a qh ρ g;rw[Qd,M.forM,m,qd,List.find?_cons];rcases h with⟨i,c,j,n⟩|⟨i,j⟩
   .rw[j,i]
    exact Ky enc p e I l c n λb o=>k b (qg _ o)
   ext
def zk(R:List a9):fY (R.map dA)=(List.range R.length).map λi:Nat=>D.tup [.int (i:Int),dA (aw R i)]:=by
 unfold fY;rw[qf];refine Qq λi a=>?_;rw[aw,w5,List.getD_eq_getElem?_getD,Qm,List.getD_eq_getElem?_getD,qr (Qb a)];rfl
theorem RN(R:List a9)(ks:AE)(o:∀x∈ks,x<60):sR [Yt R,cD ks]=some (aq (d3 R ks)):=by
 rw[sR,Ye (by rfl)];have k:Yd 4 [Yt R,cD ks]=[some _,some _,none,none]:=rfl;rw[k]
 have h:=Ky (gt:=fD 2 3) (fb:=nJ) (λi:Nat=>.tup [.int i,dA (aw R i)]) (t8 R ks) (λi=>.int i) (λm=>∃y z,m=[↑(Yt R),↑(cD ks),y,z]) _
  _ ⟨none,none,rfl⟩ (by
   rintro i p m ⟨y,z,rfl⟩;have f:i<R.length:=Qb p;refine⟨[some _,some _,some _,some _],rfl,?_⟩;have a:=y80 R ks i f;have g:=Kw ks o true;unfold t8
   cases d:(aw R i).2 with
   | none=>
     left;refine⟨rfl,[some _,some _,↑(.int i),↑(dA (aw R i))],?_,_,_,rfl⟩;simp[nJ,d,aq,g,a]
   | some x=>
     have e:=Kv x ks true;by_cases c:x∈ks
     .left
      refine⟨by simp[c],[some _,some _,↑(.int i),↑(dA (aw R i))],?_,_,_,rfl⟩;simp[nJ,d,aq,e,c]
     .cases b:kn _ ks with
      | false=>
        left;rw[b]at a;refine⟨by simp,[some _,some _,↑(.int i),↑(dA (aw R i))],?_,_,_,rfl⟩;simp[nJ,d,aq,e,c,a]
      | true=>
        right;rw[b]at a;refine⟨by simp[c],?_⟩
        simp[nJ,d,aq,e,c,a])
 rw[P8];rcases h with⟨i,j,l⟩|⟨j,n,l,q⟩
 .simp[gz,zk,l,d3,j,aq]
 .simp[gz,zk,l,d3,j,aq]
theorem RO(h:d3 R ks=some i):i<R.length/\∃x,(aw R i).2=some x/\x∉ks/\kn (aw R i).1 ks=true:=by
 unfold d3 at h;have a:=List.find?_some h;unfold t8 at a;grind
theorem Kz(h:d3 R ks=none)(a:i<R.length)(c:(aw R i).2=some x)(b:kn (aw R i).1 ks=true):x∈ks:=by
 have:=List.find?_eq_none.mp h i (List.mem_range.mpr a);unfold t8 at this
 ext
theorem nX:∀(n:Nat) (l:AE),l.Nodup->(∀x∈l,x<n)->l.length<=n
 | 0,l,_,h=>by
   cases l with
   | nil=>simp
   | cons a l=>exact absurd (h a qh) (by lia)
 | n+1,l,b,h=>by
   have d:=nX n _ (b.erase n) λx c=>by
    grind
   grind
def Der(R:List a9):AE->AE->Prop
 | _,[]=>True
 | ks,i::is=>(i<R.length/\(∃x,(aw R i).2=some x)/\kn (aw R i).1 ks=true)/\Der R (ks++[bj (aw R i)]) is
theorem RP(h:∀x,x∈ks↔x∈fs):kn b ks=kn b fs:=by
 unfold kn
 ext
theorem Der.congr:∀{a ks fs:AE},(∀x,x∈ks↔x∈fs)->Der R ks a->Der R fs a
 | [],_,_,_,_=>trivial
 | i::a,ks,fs,h,d=>by
   obtain⟨⟨b,c,e⟩,d⟩:=d;refine⟨⟨b,c,by rwa [<-RP h]⟩,.congr (λx=>?_) d⟩;simp[h x]
theorem KA(R:List a9)(g:∀r∈R,∀x,r.2=some x->x<60)(y:AQ):∀(m a:Nat) (ks b:AE),60<=ks.length+m->m+1<=a->ks.Nodup->(∀x∈ks,x<60)->b.length+m<=1000->
 ∃js:AE,d3 R (ks++js.map λi:Nat=>bj (aw R i))=none/\(ks++js.map λi:Nat=>bj (aw R i)).Nodup/\(∀x∈ks++js.map (λi:Nat=>bj (aw R i)),x<60)/\Der R ks js/\js.length<=m/\
  dw (b2 (aa 4) (kD .non) (cc true)) yj a [↑(Yt R),y,some (.od false (ks.map nD) (ks.map λ_=>.bl true)),some (.ow (b.map nD)),↑(aq (d3 R ks))] =
   some (.nx [↑(Yt R),y,some (.od false ((ks++js.map λi:Nat=>bj (aw R i)).map nD) ((ks++js.map λi:Nat=>bj (aw R i)).map λ_=>.bl true)),some (.ow ((b++js).map nD)),↑.non]):=by
 intro m
 induction m with
 | zero=>
   intro a ks b J L E A G
   have s:d3 R ks=none:=by
    cases h:d3 R ks with
    | none=>rfl
    | some i=>
      obtain⟨C,x,e,l,_⟩:=RO h
      have j:x<60:=by
       refine g (aw R i) ?_ x e;unfold aw
       ext
      have:=nX 60 (ks++[x]) (by
       symm) (λz F=>by
       symm)
      ext<;>ac_nf
   refine⟨[],by ext,by ext,by ext,trivial,qv _,?_⟩
   cases a with
   | zero=>ext
   | succ a=>
     rw[dw,s];simp[aq]
 | succ m H=>
   intro a ks b J L E A G
   cases a with
   | zero=>ext
   | succ a=>
     cases h:d3 R ks with
     | none=>
       refine⟨[],by simpa using h,by ext,by ext,trivial,Qh _,?_⟩;rw[dw];simp[aq]
     | some i=>
       obtain⟨C,x,e,l,p⟩:=RO h
       have j:x<60:=by
        refine g (aw R i) ?_ x e;unfold aw
        ext
       have u:bj (aw R i)=x:=by simp[bj,e]
       have t:(ks++[x]).Nodup:=by
        symm
       have k:∀z∈ks++[x],z<60:=λz F=>by
        symm
       obtain⟨js,k1,Z,k3,U,T,N⟩:=H a (ks++[x]) (b++[i]) (by simp;ac_nf) (by ext) t k (by simp;ac_nf)
       have I:ks++(i::js).map (λi:Nat=>bj (aw R i))=ks++[x]++js.map λi:Nat=>bj (aw R i):=by simp[u]
       refine⟨i::js,by symm,by symm,by symm,⟨⟨C,⟨x,e⟩,p⟩,by symm⟩,by simp;ac_nf,?_⟩;rw[I]
       have O:b++i::js=b++[i]++js:=by simp
       rw[O,<-N,dw]
       have c:b.length<1000000:=by ac_nf
       have d:ks.length<1000000:=by have:=nX 60 ks E A;ac_nf
       have w:=RN R (ks++[x]) k;have v:=j3 (R:=R) (i:=(i:Int)) ⟨by ac_nf,by ac_nf⟩
       have n:m7 (ks.map nD) (ks.map λ_=>.bl true) (.int (x:Int)) (.bl true)=some ((ks++[x]).map nD,(ks++[x]).map λ_=>.bl true):=by
        have Q:¬(x:Int)∈ks.map λx:Nat=>(x:Int):=λz=>l ((zj x ks).mp z);rw[m8,t7,qd,qf,if_pos (show ks.length<aA from d),if_neg Q];simp[nD]
       have o:scal (aq (d3 R (ks++[x])))=some (aq (d3 R (ks++[x]))):=by cases d3 R (ks++[x])<;>simp[aq]
       have q:frz1 2 [↑(Yt R),y,some (.od false ((ks++[x]).map nD) ((ks++[x]).map λ_=>.bl true)),some (.ow ((b++[i]).map nD)),↑(.int (i:Int))]=[↑(Yt R),y,↑(cD (ks++[x])),some (.ow ((b++[i]).map nD)),↑(.int (i:Int))]:=rfl
       have M:yj [↑(Yt R),y,some (.od false (ks.map nD) (ks.map λ_=>.bl true)),some (.ow (b.map nD)),↑(.int (i:Int))] =
        some (.nx [↑(Yt R),y,some (.od false ((ks++[x]).map nD) ((ks++[x]).map λ_=>.bl true)),some (.ow ((b++[i]).map nD)),↑(aq (d3 R (ks++[x])))]):=by
        have f:b.map nD++[D.int (i:Int)]=(b++[i]).map nD:=by simp[nD]
        unfold yj;simp only[h9,GB];have K:aq (some x)=.int (x:Int):=rfl;generalize aq (d3 R (ks++[x]))=nx,(ks++[x]).map nD=V,((ks++[x]).map λ_=>D.bl true)=Y,(b++[i]).map nD=S at *;simp[cf,c,v,e,K,n,f,q,w,o,-m8]
       simp[aq,M,-wt]
theorem RQ[DecidableEq a](x:a)(y:b):∀(ks:List a),aQ ks (ks.map λ_=>y) x y=ks.map λ_=>y
 | []=>rfl
 | k::ks=>by
   rw[Qd,aQ]
   split
   .rfl
   .rw[RQ x y ks]
noncomputable def dd(ks:AE):AE->AE
 | []=>ks
 | x::fs=>dd (if x∈ks then ks else ks++[x]) fs
theorem l8:∀(fs ks:AE) (x:Nat),x∈dd ks fs↔x∈ks\/x∈fs
 | [],ks,x=>by simp[dd]
 | k::fs,ks,x=>by
   rw[dd,l8 fs];grind
theorem RT:∀(fs ks:AE),ks.Nodup->(dd ks fs).Nodup
 | [],_,h=>h
 | k::fs,ks,h=>by
   rw[dd];refine RT fs _ ?_;by_cases hk:k∈ks
   .rw[if_pos hk];exact h
   .rw[if_neg hk,List.nodup_append]
    refine⟨h,by simp,λx hx y hy z=>?_⟩;simp at hy;subst hy;exact hk (z ▸ hx)
theorem l9:∀(fs ks:AE),aC (ks.map λx:Nat=>(x:Int)) (ks.map λ_=>D.bl true) (fs.map λx:Nat=>((x:Int),D.bl true))=((dd ks fs).map (λx:Nat=>(x:Int)),(dd ks fs).map λ_=>D.bl true)
 | [],ks=>rfl
 | x::fs,ks=>by
   rw[Qd,aC,dd];unfold bx;by_cases h:x∈ks
   .rw[if_pos ((zj x ks).mpr h),if_pos h]
    have e:=RQ (x:Int) (D.bl true) (ks.map λx:Nat=>x);rw[Qf]at e;have a:aQ _ (ks.map λ_=>D.bl _) _ _=_:=e;rw[a];exact l9 fs ks
   .have:=l9 fs (ks++[x])
    ext
theorem t9:∀fs:AE,eu (fs.map λx=>D.tup [nD x,.bl true])=some (fs.map λx:Nat=>((x:Int),D.bl true))
 | []=>by simp[eu]
 | x::fs=>by
   rw[Qd,eu,t9 fs];rfl
def KC(l:AE)(vs:AN)(hn:l.Nodup)(hl:l.length<64):∃l':AE,l'.Perm l/\l'.Pairwise (·<·)/\lr [.dct false (l.map nD) vs]=some (l'.map nD):=by
 obtain⟨l',h1,h2,h3⟩:=Kq l hn hl;refine⟨l',h1,h2,?_⟩;rw[<-h3,OB];show _=mV _;unfold mV;rw[t7];simp[hl]
structure cR(R:List a9)(fs l js:AE):Prop where
 pw:l.Pairwise (·<·)
 mem:∀x,x∈l↔x∈fs++js.map λi:Nat=>bj (aw R i)
 der:Der R fs js
 none:∀i,i<R.length->∀x,(aw R i).2=some x->kn (aw R i).1 l=true->x∈l
 lt:∀x∈l,x<60
 len:js.length<=60
theorem t_(R:List a9)(j:∀r∈R,∀x,r.2=some x->x<60)(fs:AE)(I:∀x∈fs,x<60)(w:fs.length<=1000)(E:Yc c=some (fs.map nD)):
 ∃l js,cR R fs l js/\lU [Yt R,c]=some (.tup [.lst (l.map nD),.tup (js.map nD)]):=by
 have e:∀x∈dd [] fs,x<60:=λx b=>by
  rw[l8]at b
  ext
 have g:(dd [] fs).Nodup:=RT fs [] .nil;obtain⟨js,A,p,n,u,B,J⟩:=KA R j (↑c) 60 4000 (dd [] fs) [] (by lia) (by lia) g e nofun;have q:=nX 60 _ p n;obtain⟨l,h,F,H⟩:=KC (dd [] fs++js.map λi:Nat=>bj (aw R i)) ((dd [] fs++js.map λi:Nat=>bj (aw R i)).map λ_=>.bl true) p (by lia)
 have f:∀x,x∈dd [] fs↔x∈fs:=λx=>by rw[l8];simp
 refine⟨l,js,⟨F,λx=>?_,u.congr f,λi G x b t=>?_,λx b=>n x (h.mem_iff.mp b),B⟩,?_⟩
 .grind
 .rw[h.mem_iff]
  exact Kz A G b (by rw[<-t];exact RP λz=>h.mem_iff.symm)
 .rw[lU,Ye (by rfl)]
  have k:Yd 5 [Yt R,c]=[↑(Yt R),↑c,none,none,none]:=rfl;rw[k];have a:=bG (fe:=IB) (r:=[]) (enc:=nD) (λx=>D.tup [nD x,.bl true]) (l:=fs) (λx _=>by constructor<;>lia);have m:=RN R (dd [] fs) e
  have y:scal (aq (d3 R (dd [] fs)))=some (aq (d3 R (dd [] fs))):=by cases d3 R (dd [] fs)<;>simp[aq]
  have d:=l9 fs [];rw[List.map_nil,List.map_nil]at d
  have o:(fs.map λx:Nat=>((x:Int),D.bl true)).length<1000000:=by ext<;>lia
  have C:((dd [] fs).map λx:Nat=>(x:Int)).map D.int=(dd [] fs).map nD:=by ext
  have s:frz1 2 [↑(Yt R),↑c,some (.od false ((dd [] fs).map nD) ((dd [] fs).map λ_=>.bl true)),some (.ow []),none]=[↑(Yt R),↑c,↑(cD (dd [] fs)),some (.ow []),none]:=rfl
  have v:(fG 2 (lF (Yw (b1 (ab 1) Yc) [none] (aj 0) tY (IB)))) [↑(Yt R),↑c,none,none,none]=some (.nx [↑(Yt R),↑c,some (.od false ((dd [] fs).map nD) ((dd [] fs).map λ_=>.bl true)),none,none]):=by
   simp only[qF];simp[E,ao,a,t9]
   ext
  rw[P9]
  ext
def nY(c:Bool)(a b:aF):az c (af a) (af b)=some (if c then !decide (a=b)else decide (a=b)):=by
 rw[fH nofun nofun,rZ]
noncomputable def i9(a:aF)(l:AX):Option aF:=if a∈l then some ((l.filter λt=>!decide (t=a)).headD a)else none
def bR(L:AW)(s:aF):AX:=L.filterMap (i9 (aO s))
abbrev nZ(l:AX):D:=aI (.ei l)
abbrev aR(L:AW):D:=.tup [aU .e,.tup (L.map nZ)]
theorem RU(p:L.length<=1000)(s:aF):sC [aR L,af s]=some (.lst ((bR L s).map af)):=by
 have k:∀a,(∃r,[]++L=a++r)->(bR a s).length<1000000:=λa ⟨r,e⟩=>by
  have u:(bR a s).length<=a.length:=List.length_filterMap_le _ _
  ext<;>lia
 obtain⟨n,m,y,z,rfl⟩:=gM (gt:=aj 4) (fb:=sA) nZ (λa j=>∃(y z:AQ),
  j=[some _,some _,some _,some (.ow ((bR a s).map af)),y,z]) L []
  [some _,some _,↑(af (aO s)),some (.ow []),none,none] ⟨none,none,rfl⟩ (by
   rintro q l r j e ⟨y,z,rfl⟩;have f:=r0 (c:=nZ l) (aO s) l false rfl
   have b:bR (q++[l]) s=bR q s++(i9 (aO s) l).toList:=by
    simp only[bR];grind
   by_cases h:aO s∈l
   .have g:=iX (fc:=HF) (fe:=HG) (r:=[↑(af (aO s))]) (enc:=af) (λt=>!decide (t=aO s)) af (l:=l) (λx _=>by
     simp[HF,nY]) (λx _ _=>by simp[HG])
    have i:i9 (aO s) l=some ((l.filter λt=>!decide (t=aO s)).headD (aO s)):=by rw[i9,if_pos h]
    rw[i]at b;generalize (l.filter _)=os at g b;have c:∀d:D,cf ((bR q s).map af) d=_:=λd=>xG (by ext);refine⟨_,_,rfl,?_,↑(nZ l),some (.ow (os.map af)),rfl⟩
    cases os with
    | nil=>simp[sA,f,h,ao,g,c,b]
    | cons o os=>simp[sA,f,h,ao,g,c,b]
   .have i:i9 (aO s) l=none:=by rw[i9,if_neg h]
    rw[i]at b;refine⟨_,_,rfl,?_,↑(nZ l),z,rfl⟩
    simp[sA,f,h,b])
 rw[sC,Ye (by rfl)];simp[HH,Yd,tL];rw[m];constructor<;>lia
noncomputable def cT(a:AX)(i:Nat):aF:=a.getD i (0,false)
def KD{road:AX}{i:Nat}(h:i<road.length):aX (road.map af) (i:Int)=some (af (cT road i)):=by
 rw[f7,lK h];simp[cT,h]
def uA(L:AW)(a:AX)(i:Nat):Bool:=decide (cT a (i+1)∈bR L (cT a i))
def fL(L:AW)(a:AX):Bool:=decide (0<a.length)&&(List.range (a.length-1)).all (uA L a)
theorem KE{c:D}{L:AW}(hL:L.length<=1000){road:AX}(hc:Yc c=some (road.map af))(hl:road.length<=200):nA [aR L,c]=some (.bl (fL L road)):=by
 rw[nA,Ye (by rfl)]
 have e:((road.length:Int)-1).toNat=road.length-1:=by ac_nf
 have hall:=O6 (gt:=aj 2) (fb:=xY) (λi:Nat=>D.int (1+(i:Nat))) (uA L road) (.bl false)
  (λρ=>∃y,ρ=[↑(aR L),↑c,y]) (List.range (road.length-1)) [↑(aR L),↑c,none] ⟨_,rfl⟩ (by
   rintro i hi ρ ⟨y,rfl⟩
   have hi':i+1<road.length:=by
    have:=Qb hi;ac_nf
   have a1:aX (road.map af) (1+(i:Int))=some (af (cT road (i+1))):=by
    have:=KD hi';rw[show((i+1:Nat):Int)=1+(i:Int) by ac_nf]at this;exact this
   have a2:aX (road.map af) (i:Int)=some (af (cT road i)):=KD ∅
   have hi1:1+(i:Int)-1=(i:Int):=by ac_nf
   have hled:=RU hL (cT road i);have hin:b7 true (af (cT road (i+1))) (.lst ((bR L (cT road i)).map af))=some (!uA L road i):=r0 (cT road (i+1)) (bR L (cT road i)) true rfl;refine⟨_,rfl,?_⟩;generalize aR L=bk at *
   cases hm:uA L road i with
   | true=>exact .inl ⟨rfl,[↑bk,↑c,↑(.int (1+(i:Int)))],by simp[xY,hc,a1,a2,hi1,hled,hin,hm],_,rfl⟩
   | false=>exact .inr ⟨rfl,by simp[xY,hc,a1,a2,hi1,hled,hin,hm]⟩)
 have hr:=rS (a:=1) (n:=(road.length:Int)) ∅ ∅ (by decide) (by decide);rw[jT,e]at hr;unfold fL;generalize aR L=bk at *;rcases hall with⟨h1,ρ',e1,y,rfl⟩|⟨h1,e1⟩
 .rw[h1]
  simp[HI,Yd,hc,hr,e1]
 .rw[h1]
  simp[HI,Yd,hc,hr,e1]
def i_(l:AX):aF:=cT l (l.length-1)
theorem KF{l:AX}(h:0<l.length):aX (l.map af) (-1)=some (af (i_ l)):=by
 have e:fB (l.map af).length (-1)=some (l.length-1):=by
  unfold fB;rw[qf,if_neg ∅,if_pos ∅]
  congr 1
  ac_nf
 unfold aX;have hx:l[l.length-1]?=some (l[l.length-1]'∅):=qr _;rw[e,qd,Qm,i_,cT,List.getD_eq_getElem?_getD,hx];rfl
def KG{l:AX}(h:0<l.length):aX (l.map af) 0=some (af (cT l 0)):=KD (i:=0) h
theorem uB(h:fL L l=true):0<l.length:=by
 unfold fL at h
 ext
def l_(L:AW):bz .e (L.map Rl.ei)=aR L:=by simp[bz,wu]
def there(L:AW)(o k:AX):Bool:=fL L o&&(fL L k&&(decide (i_ o=cT k 0)&&decide (i_ k=cT o 0)))
def KH{L:AW}(hL:L.length<=1000){o k:AX}{co ck:D}(ho:Yc co=some (o.map af))(hk:Yc ck=some (k.map af))(hol:o.length<=200)(hkl:k.length<=200):
 Yz [aR L,co,ck]=some (.bl (there L o k)):=by
 have h1:=KE hL ho hol;have h2:=KE hL hk hkl;rw[Yz,Ye (by rfl)];unfold there;generalize aR L=bk at *
 cases d1:fL L o with
 | false=>simp[sS,Yd,h1,d1]
 | true=>
   cases d2:fL L k with
   | false=>simp[sS,Yd,h1,h2,d1,d2]
   | true=>
     have p1:=uB d1;have p2:=uB d2;have a1:=KF p1;have a2:=KF p2;have a3:=KG p1;have a4:=KG p2;by_cases e:i_ o=cT k 0
     .simp[sS,Yd,h1,h2,d1,d2,ho,hk,a1,a2,a3,a4,nY,e]
     .simp[sS,Yd,h1,h2,d1,d2,ho,hk,a1,a2,a3,a4,nY,e]
noncomputable abbrev n0(x:String)(ps:AN):D:=.tup (.str (Str.ofString x)::ps)
def zl(x:String)(l:List String):Prop:=∀y∈l,(Str.ofString x==Str.ofString y)=false
def KI{R:List Rl}{c:D}{hs:AG}(hc:Yc c=some (hs.map aK))(hl:hs.length<=1000){st:Nat}(hst:st<=hs.length){x:String}{ps:AN}(hx:zl x ["broken"]){d:Bool}(h:Yq [n0 x ps,bz .e R,.lst ((ax hs st true).map nD),.lst ((ax hs st false).map nD)]=some (.bl d)):gc [n0 x ps,bz .e R,c,.int st]=some (.bl d):=by
 rw[gc,Yr,Ye (by rfl)];have b1:=Yi hs hc hl st hst true;have b2:=Yi hs hc hl st hst false;simp[aK]at b1 b2;have e1:=cL (hx "broken" nofun) false;simp[lV,Yd,b1,b2,e1]at h ⊢;rw[h];simp
noncomputable def n3(r:a9):Rl:=.im r.1 r.2
def KJ(R:List a9):(R.map n3).map aI=R.map dA:=by rw[Qf];rfl
def KM(R:List a9):bz .i (R.map n3)=Yt R:=by unfold bz Yt;rw[KJ];rfl
def bg(R:List a9)(a:AF):AE:=a.map λi=>bj (aw R i)
theorem KN{R:List a9}:∀{is:AF}{fs:AE},bP R fs is=true->∀i∈is,(0<=i/\i<R.length)/\aq (aw R i).2=nD (bj (aw R i))/\∃x,(aw R i).2=some x
 | [],_,_,i,hi=>by simp at hi
 | j::is,fs,h,i,hi=>by
   rw[bP,Qe]at h;rcases qu hi with rfl|hi
   .obtain⟨h1,h2⟩:=RA h.1
    refine⟨h1,h2,?_⟩;have:=h.1;unfold eZ at this;simp only[Qe]at this;exact Option.isSome_iff_exists.mp this.2.1
   .exact KN h.2 i hi
theorem KO{R:List a9}{n:Nat}(hR:∀r∈R,∀x,r.2=some x->x<n){is:AF}{fs:AE}(h:bP R fs is=true):∀x∈bg R is,x<n:=λx hx=>by
 obtain⟨i,hi,rfl⟩:=qy hx;obtain⟨h1,_,y,hy⟩:=KN h i hi
 have hm:aw R i∈R:=by
  unfold aw;rw[List.getD_eq_getElem?_getD,qr ∅];exact List.getElem_mem _
 rw[bj,hy];exact hR _ hm y hy
def RV{R:List a9}{is:AF}{fs:AE}(h:bP R fs is=true){fe:AU}{r:Ro}(hf:∀i∈is,(0<=i/\i<R.length)->fe (some (.sh (.int i))::r)=some (aq (aw R i).2)):
 cS (aj 0) tY fe (none::r) (is.map D.int)=some ((bg R is).map nD):=by
 rw[bG (fe:=fe) (r:=r) (enc:=D.int) (λi=>nD (bj (aw R i))) (l:=is) (λi hi=>by
  obtain⟨h1,h2,_⟩:=KN h i hi
  rw[hf i hi h1,h2])]
 simp[bg,wu]
theorem KP(R:List a9){n:Nat}(hn:n<64)(hR:∀r∈R,∀x,r.2=some x->x<n){c d:D}{fs:AE}{is:AF}(hfs:∀x∈fs,x<n)(hc:Yc c=some (fs.map nD))(hd:Yc d=some (is.map D.int))(hl:fs.length+is.length<=1000)(h:bP R fs is=true):
 ∃l:AE,(∀x,x∈l↔x∈fs++bg R is)/\yi [Yt R,c,d]=some (.lst (l.map nD)):=by
 have hcm:=RV h (fe:=IA) (r:=[↑(Yt R)]) (λi hi hv=>by
  have hat:=j3 hv
  simp[IA,hat])
 obtain⟨l,_,hm,hs⟩:=Rv hn (fs++bg R is) (λx hx=>(qw hx).elim (hfs x) (KO hR h x)) (by simp[bg];ac_nf);refine⟨l,hm,?_⟩;have hcat:=lM (a:=fs.map nD) (b:=(bg R is).map nD) (by simp[bg];ac_nf);rw[wt]at hs;rw[yi,Ye (by rfl)];generalize Yt R=bk,fs.map nD=F1,(bg R is).map nD=F2 at *;simp[P6,Yd,hc,hd,ao,hcm,hcat,hs]
theorem KQ{α:Type}(f:α->D)(l:List α):bN (l.map f) none (some (-1))=l.dropLast.map f:=by
 have e:HT.sIx (l.map f).length (l.map f).length (some (-1))=l.length-1:=by
  rw[qf];unfold HT.sIx;simp;ac_nf
 unfold bN;rw[e,HT.sIx_none];simp[List.dropLast_eq_take]
theorem KU{l:AF}(h:0<l.length):aX (l.map D.int) (-1)=some (.int (l.getD (l.length-1) 0)):=by
 have e:fB (l.map D.int).length (-1)=some (l.length-1):=by
  unfold fB;rw[qf,if_neg ∅,if_pos ∅]
  congr 1
  ac_nf
 have hx:l[l.length-1]?=some (l[l.length-1]'∅):=qr _;unfold aX;rw[e,qd,Qm,List.getD_eq_getElem?_getD,hx];rfl
theorem RX(a:Bool)(x:Nat)(b:AL):az a (.int (x:Int)) (aq b)=some (if a then !decide (some x=b)else decide (some x=b)):=by
 cases b with
 | none=>
   have:br (.int x) .non=false:=by simp[br,aG,PyData.eqv]
   rw[fH nofun nofun];simp[aq,this]
 | some y=>simp[aq]
theorem RY(neg:Bool)(a b:AL):az neg (aq a) (aq b)=some (if neg then !decide (a=b)else decide (a=b)):=by
 cases a with
 | some x=>exact RX neg x b
 | none=>
   rw[fH nofun nofun]
   cases b with
   | none=>
     have:br .non .non=true:=by simp[br,aG,PyData.eqv]
     simp[aq,this]
   | some y=>
     have:br .non (.int (y:Int))=false:=by simp[br,aG,PyData.eqv]
     simp[aq,this]
noncomputable def eF(b:AL)(S:AE):AE:=S.filter λy=>!decide (some y=b)
theorem RZ(S:AE)(b:AL):jW [.lst (S.map nD),aq b]=some (.tup ((eF b S).map nD)):=by
 rw[jW,Ye (by rfl)]
 have h:=iX (fc:=sO) (fe:=sP) (r:=[↑(aq b)]) (enc:=nD) (λy=>!decide (some y=b)) nD (l:=S) (λy _=>by
  simp[sO,RX]) (λ_ _ _=>by simp[sP])
 generalize S.map nD=SS at *;simp[Ir,Yd,ao,h,eF]
def n4(R:List a9)(S:AE)(b:AL)(a:AF):Bool:=match b with
 | none=>decide (a.length=0)
 | some x=>decide (x∈S)&&bP R S a
theorem Ytf(R:List a9){S:AE}(b:AL){is:AF}(hl:S.length+is.length<=1000):yr [aq b,.tup (is.map D.int),Yt R,.lst (S.map nD)]=some (.bl (n4 R S b is)):=by
 have hd:=RD R (c:=.lst (S.map nD)) (d:=.tup (is.map D.int)) S is rfl rfl hl;rw[yr,Ye (by rfl)]
 have hlen:((is.map D.int).length:Int)=(is.length:Int):=by simp
 unfold n4
 cases b with
 | none=>
   have:((is.length:Int)=0)↔is.length=0:=by ac_nf
   simp[II,Yd,aq,hlen,this]
 | some x=>
   have hin:=cv (c:=.lst (S.map nD)) x S false rfl;generalize hS:D.lst (S.map nD)=SS at *;generalize Yt R=bk at *;generalize D.tup (is.map D.int)=ii at *;by_cases hx:x∈S<;>simp[II,Yd,aq,hin,hx,hd]
def eG(R:List a9)(a:AE)(b:AL)(c:AF):AE:=match b with
 | none=>[]
 | some x=>a.filter λy=>decide (y<x)&&decide (y∈bg R c)
theorem y13(R:List a9){S Kp:AE}(b:AL){is:AF}(h:n4 R S b is=true):yq [aq b,.tup (is.map D.int),Yt R,.lst (Kp.map nD)]=some (.lst ((eG R Kp b is).map nD)):=by
 rw[yq,Ye (by rfl)];unfold eG
 cases b with
 | none=>simp[yp,Yd,aq]
 | some x=>
   unfold n4 at h;rw[Qe]at h
   have hcm:=RV h.2 (fe:=IF) (r:=[↑(Yt R)]) (λi hi hv=>by
    have hat:=j3 hv
    simp[IF,hat])
   have hc2:=iX (fc:=IG) (fe:=IH) (r:=[↑(.int (x:Int)),↑(.lst ((bg R is).map nD))]) (enc:=nD) (λy=>decide (y<x)&&decide (y∈bg R is)) nD (l:=Kp) (λy _=>by
    have hin:=cv (c:=.lst ((bg R is).map nD)) y (bg R is) false rfl;generalize D.lst ((bg R is).map nD)=hh at *
    by_cases hy:y<x<;>simp[IG,hy,hin]) (λ_ _ _=>by simp[IH])
   have hsh:aq (some x)=.int (x:Int):=rfl;rw[hsh];generalize Yt R=bk,(bg R is).map nD=hh,Kp.map nD=kk at *;have hit:Yc (.tup (is.map D.int))=some (is.map D.int):=rfl;generalize hti:D.tup (is.map D.int)=ii at *;simp[yp,Yd,hit,ao,hcm,hc2]
def n5(R:List a9)(b:AL)(a:AF)(fs:AE):Bool:=decide (0<a.length)&&(decide (0<=a.getD (a.length-1) 0/\a.getD (a.length-1) 0<R.length)&&(bP R fs a.dropLast&&(kn (aw R (a.getD (a.length-1) 0)).1 (fs++bg R a.dropLast)&&(decide ((aw R (a.getD (a.length-1) 0)).2=none)||decide ((aw R (a.getD (a.length-1) 0)).2=b)))))
theorem uC(h:∀x,x∈ks↔x∈fs):kn b ks=kn b fs:=by
 unfold kn;grind
theorem Yu7(R:List a9){n:Nat}(hn:n<64)(hR:∀r∈R,∀x,r.2=some x->x<n)(b:AL){is:AF}{fs:AE}(hfs:∀x∈fs,x<n)(hl:fs.length+is.length<=1000):
 yt [aq b,.tup (is.map D.int),Yt R,.lst (fs.map nD)]=some (.bl (n5 R b is fs)):=by
 rw[yt,Ye (by rfl)]
 have hlen:((is.map D.int).length:Int)=(is.length:Int):=by simp
 unfold n5;by_cases h0:0<is.length
 .have hne:¬is=[]:=λz=>by subst z;simp at h0
  have hla:=KU h0
  have hz:¬(is.length:Int)=0:=by ac_nf
  have hcut:=KQ D.int is
  have hdl:is.dropLast.length<=is.length:=by simp
  have hd:=RD R (c:=.lst (fs.map nD)) (d:=.tup (is.dropLast.map D.int)) fs is.dropLast rfl rfl ∅;generalize is.getD (is.length-1) 0=la at *;have hp:=zf R la;by_cases hv:0<=la/\la<R.length
  .have hat:=j3 hv
   cases hdb:bP R fs is.dropLast with
   | false=>
     rw[hdb]at hd;rw[wn hv]at hp;generalize Yt R=bk,fs.map nD=FF,is.dropLast.map D.int=dd,is.map D.int=ii at *;simp[sT,Yd,hlen,hne,hla,hp,hcut,hd]
   | true=>
     obtain⟨l,hm,hde⟩:=KP R hn hR (c:=.lst (fs.map nD)) (d:=.tup (is.dropLast.map D.int)) hfs rfl rfl ∅ hdb;have hbk:=J3 (d:=.lst (l.map nD)) (aw R la) l rfl;rw[uC hm]at hbk;rw[hdb]at hd;rw[wn hv]at hp
     have hin:b7 false (aq (aw R la).2) (.tup [.non,aq b])=some (decide ((aw R la).2=none)||decide ((aw R la).2=b)):=by
      have q1:=RY false none (aw R la).2;have q2:=RY false b (aw R la).2;rw[fH nofun nofun]at q1 q2
      have q1':br .non (aq (aw R la).2)=decide (none=(aw R la).2):=by simpa [aq]using q1
      have q2':br (aq b) (aq (aw R la).2)=decide (b=(aw R la).2):=by simpa using q2
      rw[xx (l:=[.non,aq b]) rfl nofun nofun];have e1:decide ((aw R la).2=none)=decide (none=(aw R la).2):=decide_eq_decide.mpr ⟨Eq.symm,Eq.symm⟩;have e2:decide ((aw R la).2=b)=decide (b=(aw R la).2):=decide_eq_decide.mpr ⟨Eq.symm,Eq.symm⟩;rw[e1,e2,<-q1',<-q2'];simp[g_]
     have hib:(Yc (Yt R))=some [.str "ifs",.tup (R.map dA)]:=rfl;have hir:Yc (dA (aw R la))=some [.tup ((aw R la).1.map nD),aq (aw R la).2]:=rfl;generalize Yt R=bk,kn (aw R la).1 (fs++bg R is.dropLast)=kk,l.map nD=LL,fs.map nD=FF,is.dropLast.map D.int=dd,is.map D.int=ii,dA (aw R la)=rr at *;cases kk<;>simp[sT,Yd,hlen,hne,hla,hp,hcut,hd,hde,hib,hat,hbk,hir,hin,h0,hv.1,hv.2]
  .rw[wo hv]at hp
   generalize Yt R=bk,is.map D.int=ii at *;simp[sT,Yd,hlen,hne,hla,hp,hv]
 .have hz:is.length=0:=by ac_nf
  have:is=[]:=List.eq_nil_of_length_eq_zero hz;subst this;simp[sT,Yd]
def jh(R:List a9)(c S:AE)(b:AL)(a js:AF):Bool:=n4 R S b a&&n5 R b js (eF b S++eG R c b a)
theorem y4j(R:List a9){n:Nat}(hn:n<64)(hR:∀r∈R,∀x,r.2=some x->x<n){Kp S:AE}(hK:∀x∈Kp,x<n)(hS:∀x∈S,x<n)(hKl:Kp.length<=100)(hSl:S.length<=100)(b:AL){is js:AF}(hil:is.length<=300)(hjl:js.length<=300):
 sU [.tup [.str "lone",aq b,.tup (is.map D.int),.tup (js.map D.int)],Yt R,.lst (Kp.map nD),.lst (S.map nD)]=some (.bl (jh R Kp S b is js)):=by
 have h1:=Ytf R (S:=S) b (is:=is) ∅;have hw:=RZ S b;have hwl:(eF b S).length<=100:=Qg (Qn _ _) hSl
 have hfl:(eG R Kp b is).length<=100:=by
  unfold eG
  cases b with
  | none=>simp
  | some x=>exact Qg (Qn _ _) hKl
 have h3:=Yu7 R hn hR b (is:=js) (fs:=eF b S++eG R Kp b is) (λx hx=>by
  rcases qw hx with hx|hx
  .exact hS x (Qc hx).1
  .unfold eG at hx
   cases b with
   | none=>simp at hx
   | some y=>exact hK x (Qc hx).1) (by simp;ac_nf)
 rw[sU,Ye (by rfl)];have a2:∀a b c d:D,aX [a,b,c,d] 2=some c:=λa b c d=>rfl;have a3:∀a b c d:D,aX [a,b,c,d] 3=some d:=λa b c d=>rfl;unfold jh
 cases hf:n4 R S b is with
 | false=>
   rw[hf]at h1;generalize D.tup (is.map D.int)=ii,D.tup (js.map D.int)=jj,Yt R=bk,S.map nD=SS,Kp.map nD=KK at *;simp[yu,Yd,a2,h1]
 | true=>
   have h2:=y13 R (Kp:=Kp) b hf;have hcat:=lM (a:=(eF b S).map nD) (b:=(eG R Kp b is).map nD) (by simp;ac_nf);rw[<-wt]at hcat;rw[hf]at h1;generalize D.tup (is.map D.int)=ii,D.tup (js.map D.int)=jj,Yt R=bk,(eF b S++eG R Kp b is).map nD=WF,(eF b S).map nD=W1,(eG R Kp b is).map nD=W2,S.map nD=SS,Kp.map nD=KK at *;simp[yu,Yd,a2,a3,h1,hw,h2,hcat,h3]
abbrev c4:=Nat×Option Nat×Bool
def aS(r:c4):D:=.tup [.int r.1,aq r.2.1,.bl r.2.2]
@[simp] def R0(r:c4):Yc (aS r)=some [.int r.1,aq r.2.1,.bl r.2.2]:=nr rfl
def R3(a b c:D):aX [a,b,c] 1=some b:=rfl
def uD(a b c:D):aX [a,b,c] 2=some c:=rfl
abbrev e_:=Option Nat×Bool
def bJ(e:e_):D:=.tup [aq e.1,.bl e.2]
@[simp] def n6(e:e_):Yc (bJ e)=some [aq e.1,.bl e.2]:=nr rfl
def R4(a:Bool)(b:AL):cc a (aq b) .non=some (if a then !decide (b=none)else decide (b=none)):=by
 cases b<;>cases a<;>rfl
def KW(a b:AL):br (aq a) (aq b)=decide (a=b):=by
 cases a with
 | none=>
   cases b with
   | none=>simp[aq,br,aG,PyData.eqv]
   | some y=>simp[aq,br,aG,PyData.eqv]
 | some x=>
   cases b with
   | none=>simp[aq,br,aG,PyData.eqv]
   | some y=>exact(nv x y).trans nofun
def uE(e f:e_):br (bJ e) (bJ f)=decide (e=f):=by
 obtain⟨a,p⟩:=e;obtain⟨b,q⟩:=f;simp [bJ,KW,rN];by_cases d:a=b<;>by_cases c:p=q<;>simp[c]
def zm(e:e_):bA (bJ e)<=60:=by simp[bJ]
def KY(e:e_)(l:List e_):b7 false (bJ e) (.lst (l.map bJ))=some (decide (e∈l)):=by
 rw[xx rfl (zm e) (xO zm l),xK uE];simp
def KZ(e f:e_):az false (bJ e) (bJ f)=some (decide (e=f)):=by
 rw[fH (zm e) (zm f),uE];simp
theorem K0(c:Bool)(a b:AE):az c (.lst (a.map nD)) (.lst (b.map nD))=some (if c then !decide (a=b)else decide (a=b)):=by
 have h:∀l:AE,bB (l.map nD)<=1:=λl=>xO (λx=>by simp) l;have f:=h a;have d:=h b
 have e:br (.lst (a.map nD)) (.lst (b.map nD))=eh (a.map nD) (b.map nD):=by simp
 rw[fH (by simp;ac_nf) (by simp;ac_nf),e,xN nv]
noncomputable def cO(rows:List c4)(s:aF):e_:=
 match rows.find? (λr=>r.1==s.1)with
 | none=>(some s.1,s.2)
 | some r=>(r.2.1,s.2==r.2.2)
def ia(rows:List c4):D:=.dct false (rows.map λr=>nD r.1) (rows.map aS)
theorem R5:∀rows:List c4,eu (rows.map λr=>.tup [.int r.1,aS r])=some (rows.map λr=>((r.1:Int),aS r))
 | []=>rfl
 | r::l=>by rw[Qd,eu,R5 l];rfl
theorem R6{a:Type}:∀(ps:List (Int×a)) (ns:AF) (vs:List a),(ns++ps.map (·.1)).Nodup->aC ns vs ps=(ns++ps.map (·.1),vs++ps.map (·.2))
 | [],ns,vs,_=>by simp[aC]
 | p::ps,ns,vs,h=>by
   rw[aC,bx,if_neg (λb=>by
    rw[List.nodup_append]at h
    exact h.2.2 _ b p.1 nofun rfl)]
   have h':((ns++[p.1])++ps.map (·.1)).Nodup:=by simpa using h
   rw[R6 ps _ _ h'];simp
theorem y4k{l:AE}(h:l.Nodup):(l.map λx:Nat=>(x:Int)).Nodup:=by
 induction l with
 | nil=>simp
 | cons a l d=>
   rw[Qd,List.nodup_cons];rw[List.nodup_cons]at h;refine⟨λc=>?_,d h.2⟩;obtain⟨b,hb,e⟩:=qy c
   have:b=a:=by ac_nf
   exact h.1 (this ▸ hb)
theorem Yp8{rows:List c4}(h:rows.length<=1000)(f:(rows.map (·.1)).Nodup):lX [.tup (rows.map aS)]=some (ia rows):=by
 have g:bL (.lst (rows.map λr=>.tup [.int r.1,aS r]))=some (rows.map λr=>((r.1:Int),aS r)):=R5 rows;have d:=y4k f
 have c:(rows.map λr=>((r.1:Int),aS r)).length<1000000:=by rw[qf];ac_nf
 rw[lX,Ye (by rfl)]
 have a:(lF (Yw (b1 (ab 0) Yc) [none] (aj 0) tY Yy)) [↑(.tup (rows.map aS))]=some (.lst (rows.map λr=>.tup [.int r.1,aS r])):=by
  simp[ao,(bG (fe:=Yy) (r:=[]) (enc:=aS) (λr=>.tup [.int r.1,aS r]) (l:=rows) (λr _=>by
  simp[Yy]))]
 have e:Yd 1 [D.tup (rows.map aS)]=[↑(.tup (rows.map aS))]:=rfl
 rw[IX,e,rh,sy,a,qd,g,qd,GS,if_pos c,(R6 (rows.map λr=>(r.1,aS r)) [] [] (by
  rw[Qf];rw[Qf]at d
  exact d))]
 simp[ia,wu]
theorem R7(x:Nat):∀rows:List c4,Yn (rows.map λr=>((r.1:Nat):Int)) (rows.map aS) (x:Int)=(rows.find? (λr=>r.1==x)).map aS
 | []=>rfl
 | r::l=>by
   rw[Qd,Qd,Yn,R7 x l,List.find?_cons];by_cases h:r.1=x
   .simp[h]
   .have h':¬(r.1)=(x:Int):=by ac_nf
    have a:(r.1==x)=false:=by simp[h]
    rw[if_neg h',a]
theorem K1(rows:List c4)(s:aF):yH [af s,ia rows]=some (bJ (cO rows s)):=by
 have f:intsD (rows.map λr=>nD r.1)=some (rows.map λr=>(r.1:Int)):=rV _ rows
 have d:cJ (ia rows) (.int s.1)=(rows.find? (λr=>r.1==s.1)).map aS:=by
  rw[ia,jI,f,qd,R7 s.1 rows]
 have b:cK true (.int s.1) (ia rows)=some (rows.find? (λr=>r.1==s.1)).isNone:=by
  rw[ia,qH,f,Option.map_some]
  cases a:rows.find? (λr=>r.1==s.1)with
  | none=>
    rw[List.find?_eq_none]at a
    have:¬(s.1:Int)∈rows.map λr=>r.1:=λg=>by
     obtain⟨r,c,e⟩:=qy g;have:=a r c;ac_nf
    simp only[wo this];rfl
  | some r=>
    have h:=List.find?_some a;have:(s.1:Int)∈rows.map λr=>r.1:=List.mem_map.mpr ⟨r,(List.mem_of_find?_eq_some a),by ac_nf⟩;simp only[wn this];rfl
 rw[yH,Ye (by rfl)];unfold cO
 cases a:rows.find? (λr=>r.1==s.1)with
 | none=>
   rw[a]at b;have hs:bJ (some s.1,s.2)=af s:=rfl;rw[hs];have h0:=GX s;simp[IY,Yd,b]
 | some r=>
   rw[a]at b d;have c:=R0 r;simp[IY,Yd,b,d,uD,bJ]
noncomputable def ic(e:e_):e_:=(e.1,!e.2)
def y4l(e:e_):gb [bJ e]=some (bJ (ic e)):=by
 rw[gb,Ye (by rfl)];have a:bJ (ic e)=.tup [aq e.1,.bl !e.2]:=rfl;rw[a];simp[Pu,Yd]
def ig(a:List e_):Bool:=a.any λe=>decide (e=(none,true))||decide (ic e∈a)
theorem Yp9(rows:List c4)(l:AX):yJ [aI (.ei l),ia rows]=some (.bl (ig (l.map (cO rows)))):=by
 have c:=bG (fe:=IZ) (r:=[↑(ia rows)]) (enc:=af) (λs=>bJ (cO rows s)) (l:=l) (λs _=>by
  simp[IZ,K1 rows s])
 have e1:(l.map λs=>bJ (cO rows s))=(l.map (cO rows)).map bJ:=by rw[Qf];rfl
 rw[e1]at c;generalize l.map (cO rows)=b at *;rw[yJ,Ye (by rfl)]
 simp[QT,Yd,ao,c,(bG (fe:=yI) (r:=[↑(.lst (b.map bJ))]) (enc:=bJ) (λe=>.bl (decide (e=(none,true))||decide (ic e∈b))) (l:=b) (λe _=>by
  have a:=KZ e (none,true);have d:bJ (none,true)=.tup [.non,.bl true]:=rfl;rw[d]at a;by_cases hd:e=(none,true)
  .rw[wn hd]at a ⊢
   simp[yI,a]
  .rw[wo hd]at a ⊢
   simp[yI,a,(KY (ic e) b),y4l e])),ig]
noncomputable def dQ(S:AE)(r:c4):Bool:=match r.2.1 with
 | none=>true
 | some x=>decide (x∈S)&&decide (x<r.1)
def Yyu(r:c4)(S:AE):yG [aS r,.lst (S.map nD)]=some (.bl (dQ S r)):=by
 rw[yG,Ye (by rfl)];have a:=R0 r;unfold dQ
 cases h:r.2.1 with
 | none=>
   rw[h]at a;have b:=R4 false none;simp[yF,Yd,a,b]
 | some x=>
   rw[h]at a;have b:=R4 false (some x);have i2:=cv (c:=.lst (S.map nD)) x S false rfl;have d:aq (some x)=.int x:=rfl;rw[d]at a b;by_cases c:x∈S
   .simp[yF,Yd,a,b,i2,c]
   .simp[yF,Yd,a,b,i2,c]
def ma(rows:List c4)(L:AW)(K S:AE):Bool:=decide (rows.map (·.1)=K)&&rows.all (dQ S)&&L.all λl=>ig (l.map (cO rows))
theorem y4n{rows:List c4}(g:rows.length<=1000)(L:AW){K:AE}(j:K.Nodup)(S:AE):
 yL [.tup (rows.map aS),bz .e (L.map Rl.ei),.lst (K.map nD),.lst (S.map nD)]=some (.bl (ma rows L K S)):=by
 have h0:=bG (fe:=I0) (r:=[]) (enc:=aS) (λr=>nD r.1) (l:=rows) (λr _=>by
  simp[I0])
 have i:(rows.map λr=>nD r.1)=(rows.map (·.1)).map nD:=by rw[Qf];rfl
 rw[i]at h0
 have f:=bG (fe:=I_) (r:=[↑(.lst (S.map nD))]) (enc:=aS) (λr=>.bl (dQ S r)) (l:=rows) (λr _=>by
  have h:=Yyu r S
  simp[I_,h])
 have b:=K0 true (rows.map (·.1)) K;rw[yL,Ye (by rfl)];have hb:Yc (bz .e (L.map Rl.ei))=some [aU .e,.tup ((L.map Rl.ei).map aI)]:=rfl;by_cases a:rows.map (·.1)=K
 .have n:(rows.map (·.1)).Nodup:=by rw[a];exact j
  have hd:=Yp8 g n
  have d:=bG (fe:=Ja) (r:=[↑(ia rows)]) (enc:=λl=>aI (.ei l)) (λl=>.bl (ig (l.map (cO rows)))) (l:=L) (λl _=>by
   have h:=Yp9 rows l
   simp[Ja,h])
  have e2:(L.map λl=>aI (.ei l))=(L.map Rl.ei).map aI:=by rw[Qf];rfl
  rw[e2]at d;simp [a]at b
  have c:ma rows L K S=(rows.all (dQ S)&&L.all λl=>ig (l.map (cO rows))):=by simp[ma,a]
  rw[c];rw[a]at h0;generalize (L.map Rl.ei).map aI=o at *;generalize m:dQ S=k at *
  cases e:rows.all k with
  | true=>simp[yK,Yd,ao,h0,f,b,e,hd,hb,d]
  | false=>simp[yK,Yd,ao,h0,f,b,e]
 .have c:ma rows L K S=false:=by simp[ma,a]
  rw[c];simp only[a]at b;generalize (rows.map (·.1)).map nD=p at *;simp[yK,Yd,ao,h0,b]
theorem zo(c:Bool)(a b:AE):az c (.lst (a.map nD)) (.lst (b.map nD))=some (if c then !decide (a=b)else decide (a=b)):=by
 have h:∀l:AE,bB (l.map nD)<=1:=λl=>xO (λx=>by simp) l;have f:=h a;have d:=h b
 have e:br (.lst (a.map nD)) (.lst (b.map nD))=eh (a.map nD) (b.map nD):=by simp
 rw[fH (by simp;ac_nf) (by simp;ac_nf),e,xN nv]
noncomputable def gQ(l:AE):Bool:=decide (l.Pairwise (·<·))
theorem K3:∀{a b:AE},a.Pairwise (·<·)->b.Pairwise (·<·)->(∀x,x∈a↔x∈b)->a=b
 | [],[],_,_,_=>rfl
 | [],y::b,_,_,h=>absurd ((h y).mpr qh) nofun
 | x::a,[],_,_,h=>absurd ((h x).mp qh) nofun
 | x::a,y::b,d,g,h=>by
   rw[List.pairwise_cons]at d g
   have c:x=y:=by
    have f:=(h x).mp qh;have e:=(h y).mpr qh;grind
   subst c
   have:=K3 d.2 g.2 λz=>by
    grind
   rw[this]
theorem K4{l:AE}(h:∀x∈l,x<60)(g:l.length<=3700):∃a:AE,ng (l.map nD)=some (a.map nD)/\decide (l=a)=gQ l:=by
 obtain⟨a,b,c,f⟩:=Rv ∅ l h ∅;refine⟨a,f,?_⟩;unfold gQ;by_cases d:l.Pairwise (·<·)
 .have:=K3 d b λx=>(c x).symm
  simp[d,<-this]
 .have:¬l=a:=λe=>d (e ▸ b)
  simp[d,this]
def K5{l:AE}(h:∀x∈l,x<60)(d:l.length<=3700):nE [.tup (l.map nD)]=some (.bl (gQ l)):=by
 obtain⟨c,a,e⟩:=K4 h d;have b:=zo false l c;simp [e]at b;rw[nE,Ye (by rfl)];simp[PN,Yd,a,b]
abbrev b9:=Nat×List Nat×Bool
def aE(r:b9):D:=.tup [.int r.1,.tup (r.2.1.map nD),.bl r.2.2]
@[simp] def R8(r:b9):Yc (aE r)=some [.int r.1,.tup (r.2.1.map nD),.bl r.2.2]:=nr rfl
def K6(a b c:D):aX [a,b,c] 1=some b:=rfl
def uF(a b c:D):aX [a,b,c] 2=some c:=rfl
def ij(S:AE)(r:b9):Bool:=gQ r.2.1&&r.2.1.all λx=>decide (x∈S)&&decide (x<r.1)
def y17{r:b9}(h:∀x∈r.2.1,x<60)(f:r.2.1.length<=3700)(S:AE):yN [aE r,.lst (S.map nD)]=some (.bl (ij S r)):=by
 have b:=R8 r;have a:=K5 h f
 have e:=bG (fe:=yM) (r:=[↑(.lst (S.map nD)),↑(aE r)]) (enc:=nD) (λx=>.bl (decide (x∈S)&&decide (x<r.1))) (l:=r.2.1) (λx _=>by
  have i2:=cv (c:=.lst (S.map nD)) x S false rfl;by_cases c:x∈S
  .simp[yM,b,i2,c]
  .simp[yM,b,i2,c])
 rw[yN,Ye (by rfl)];unfold ij;generalize gQ r.2.1=d at *
 cases d with
 | true=>simp[Jb,Yd,b,a,ao,e]
 | false=>simp[Jb,Yd,b,a]
def fM(rows:List b9):D:=.dct false (rows.map λr=>nD r.1) (rows.map aE)
theorem R9:∀rows:List b9,eu (rows.map λr=>.tup [.int r.1,aE r])=some (rows.map λr=>((r.1:Int),aE r))
 | []=>rfl
 | r::l=>by rw[Qd,eu,R9 l];rfl
theorem K7:∀(c:List (Int×a)) (ns:AF) (vs:List a),(ns++c.map (·.1)).Nodup->aC ns vs c=(ns++c.map (·.1),vs++c.map (·.2))
 | [],ns,vs,_=>by simp[aC]
 | p::c,ns,vs,h=>by
   rw[aC,bx,if_neg (λb=>by
    grind)]
   have d:((ns++[p.1])++c.map (·.1)).Nodup:=by simpa using h
   rw[K7 c _ _ d];simp
theorem R_{l:AE}(h:l.Nodup):(l.map λx:Nat=>(x:Int)).Nodup:=by grind
theorem Yox{rows:List b9}(h:rows.length<=1000)(f:(rows.map (·.1)).Nodup):lX [.tup (rows.map aE)]=some (fM rows):=by
 have g:bL (.lst (rows.map λr=>.tup [.int r.1,aE r]))=some (rows.map λr=>((r.1:Int),aE r)):=R9 rows;have d:=R_ f
 have c:(rows.map λr=>((r.1:Int),aE r)).length<1000000:=by rw[qf];ac_nf
 rw[lX,Ye (by rfl)]
 have a:(lF (Yw (b1 (ab 0) Yc) [none] (aj 0) tY Yy)) [↑(.tup (rows.map aE))]=some (.lst (rows.map λr=>.tup [.int r.1,aE r])):=by
  simp[ao,(bG (fe:=Yy) (r:=[]) (enc:=aE) (λr=>.tup [.int r.1,aE r]) (l:=rows) (λr _=>by
  simp[Yy]))]
 have e:Yd 1 [D.tup (rows.map aE)]=[↑(.tup (rows.map aE))]:=rfl
 rw[IX,e,rh,sy,a,qd,g,qd,GS,if_pos c,(K7 (rows.map λr=>(r.1,aE r)) [] [] (by
  rw[Qf];rw[Qf]at d
  exact d))]
 simp[fM,wu]
theorem K8(x:Nat):∀rows:List b9,Yn (rows.map λr=>((r.1:Nat):Int)) (rows.map aE) (x:Int)=(rows.find? (λr=>r.1==x)).map aE
 | []=>rfl
 | r::l=>by
   rw[Qd,Qd,Yn,K8 x l]
   split<;>ext
noncomputable def c5(rows:List b9)(x:Nat):b9:=(rows.find? (λr=>r.1==x)).getD (x,[x],false)
def cM(rows:List b9)(x:Nat):Sm:=(λy=>decide (y∈(c5 rows x).2.1),(c5 rows x).2.2)
theorem K9(h:∀r∈rows,r.2.1.Pairwise (·<·)/\∀y∈r.2.1,y<60)(b:x<60):(c5 rows x).2.1.Pairwise (·<·)/\∀y∈(c5 rows x).2.1,y<60:=by
 unfold c5
 cases e:rows.find? _ with
 | none=>exact⟨by simp,λy a=>by ext⟩
 | some r=>exact h r (List.mem_of_find?_eq_some e)
def K_(rows:List b9)(x:Nat):jH (fM rows) (.int (x:Int)) (.tup [.int (x:Int),.tup [.int (x:Int)],.bl false])=some (aE (c5 rows x)):=by
 rw[fM,En,rV _ _,Option.map_some,K8];unfold c5;cases rows.find? _<;>rfl
def La(h:∀r∈rows,r.2.1.Pairwise (·<·)/\∀y∈r.2.1,y<60)(b:x<60):D.tup [.tup ((c5 rows x).2.1.map nD),.bl (c5 rows x).2.2]=aW (cM rows x):=by
 obtain⟨a,c⟩:=K9 h b;exact tW a c _
def fN(rows:List b9)(a:Sm)(x:Nat):Sm:=(λy=>a.1 y != (cM rows x).1 y,a.2 != (cM rows x).2)
def ba(rows:List b9)(l:AE):Sm:=l.foldl (fN rows) (λ_=>false,false)
theorem Lb(rows:List b9)(q:AE)(x:Nat):ba rows (q++[x])=fN rows (ba rows q) x:=by
 unfold ba;grind
theorem Sa(h:∀r∈rows,r.2.1.Pairwise (·<·)/\∀y∈r.2.1,y<60)(a:Sm):nN [aW a,fM rows]=some (aW (ba rows (fl 60 a.1))):=by
 have k:∀x∈fl 60 a.1,x<60:=λx c=>Qb (Qc c).1;have i:Yc (aW a)=some _:=rfl;generalize aW a=d,fl 60 a.1=F at *
 obtain⟨o,n,g,f,rfl⟩:=gM (gt:=aj 3) (fb:=Jc) nD (λj l=>∃(g f:AQ),l=[↑d,↑(fM rows),↑(aW (ba rows j)),g,f]) F []
  _ ⟨none,none,rfl⟩ (by
   rintro q x r l e ⟨g,f,rfl⟩;have c:=k x (by ext)
   have b:jV [aW (ba rows q),aW (cM rows x)]=some (aW (ba rows (q++[x]))):=by rw[Lb];exact(J6 _ _ _ _)
   rw[<-(La h c)]at b;refine⟨_,[some _,some _,some _,↑(nD x),↑(aE (c5 rows x))],rfl,?_,_,_,rfl⟩
   simp[Jc,K_ rows x,uF,b])
 rw[nN,Ye (by rfl)];have m:.tup [.tup [],.bl false]=aW (ba rows []):=rfl;simp[QU,Yd,m,i,n]
def j5(rows:List b9)(a:Sm):Bool:=decide (fl 60 (ba rows (fl 60 a.1)).1=[])&&((ba rows (fl 60 a.1)).2==a.2)
theorem Lc(a:Sm)(o:Bool):az false (aW a) (.tup [.tup [],.bl o])=some (decide (fl 60 a.1=[])&&(a.2==o)):=by
 have hd:bB ((fl 60 a.1).map nD)<=1:=xO (λx=>by simp) _;have e:eh ((fl 60 a.1).map nD) []=decide (fl 60 a.1=[]):=xN nv (fl 60 a.1) [];rw[fH (by simp;ac_nf) nofun];simp only[GM,O5,e];simp
def md(rows:List b9)(R:List Sm)(K S:AE):Bool:=decide (rows.map (·.1)=K)&&rows.all (ij S)&&R.all (j5 rows)
theorem y4q{rows:List b9}(s:rows.length<=1000)(f:∀r∈rows,r.2.1.length<=3700/\∀y∈r.2.1,y<60)(R:List Sm){K:AE}(n:K.Nodup)(S:AE):
 tp [.tup (rows.map aE),.tup [.str "sums",.tup (R.map aW)],.lst (K.map nD),.lst (S.map nD)]=some (.bl (md rows R K S)):=by
 have h0:=bG (fe:=Jd) (r:=[]) (enc:=aE) (λr=>nD r.1) (l:=rows) (λr _=>by
  have u:=R8 r
  simp[Jd])
 have m:(rows.map λr=>nD r.1)=(rows.map (·.1)).map nD:=by rw[Qf];rfl
 rw[m]at h0
 have l:=bG (fe:=Je) (r:=[↑(.lst (S.map nD))]) (enc:=aE) (λr=>.bl (ij S r)) (λr d=>by
  have h:=y17 (f r d).2 (f r d).1 S
  simp[Je,h])
 have e:=zo true (rows.map (·.1)) K;rw[tp,Ye (by rfl)];have k:bw (rows.map λr=>D.bl (ij S r))=some (rows.map (ij S)):=f_ _ rows;have hb:Yc (.tup [.str "sums",.tup (R.map aW)])=some [.str "sums",.tup (R.map aW)]:=rfl;by_cases c:rows.map (·.1)=K
 .have t:(rows.map (·.1)).Nodup:=by rw[c];exact n
  have hd:=Yox s t;simp [c]at e
  have g:md rows R K S=(rows.all (ij S)&&R.all (j5 rows)):=by simp[md,c]
  rw[g];rw[c]at h0
  cases i:rows.all (ij S)with
  | false=>
    simp[yO,Yd,ao,h0,l,e,i]
  | true=>
    have b:∀r∈rows,r.2.1.Pairwise (·<·)/\∀y∈r.2.1,y<60:=λr d=>by
     have h:=List.all_eq_true.mp i r d;unfold ij gQ at h;simp only[Qe,wm]at h;exact⟨h.1,(f r d).2⟩
    have o:=bG (fe:=Jf) (r:=[↑(fM rows)]) (enc:=aW) (λa=>.bl (j5 rows a)) (l:=R) (λa _=>by
     have h:=Sa b a;have p:Yc (aW a)=some [.tup ((fl 60 a.1).map nD),.bl a.2]:=rfl;have q:=Lc (ba rows (fl 60 a.1)) a.2;unfold j5
     simp[Jf,h,q])
    have j:bw (R.map λa=>D.bl (j5 rows a))=some (R.map (j5 rows)):=f_ _ R;simp[yO,Yd,ao,h0,l,e,i,hd,o]
 .have g:md rows R K S=false:=by simp[md,c]
  rw[g];simp only[c]at e;generalize (rows.map (·.1)).map nD=v at *;simp[yO,Yd,ao,h0,e]
abbrev ey:=Nat×AE
def bK(r:ey):D:=.tup [.int r.1,.tup (r.2.map nD)]
@[simp] def Ld(r:ey):Yc (bK r)=some [.int r.1,.tup (r.2.map nD)]:=nr rfl
def j6(l K:AE):Bool:=gQ l&&l.all λx=>decide (x∈K)
theorem Sb{l:AE}(h:∀x∈l,x<60)(c:l.length<=3700)(K:AE):tq [.tup (l.map nD),.lst (K.map nD)]=some (.bl (j6 l K)):=by
 have b:=K5 h c;have hb:bw (l.map λx=>D.bl (decide (x∈K)))=some (l.map λx=>decide (x∈K)):=f_ _ _
 have a:(l.map λx=>decide (x∈K)).all id=l.all λx=>decide (x∈K):=by rw[List.all_map];rfl
 rw[tq,Ye (by rfl)];unfold j6;rw[<-a];generalize (l.map λx=>decide (x∈K))=e,gQ l=d at *
 cases d with
 | true=>simp[Jh,Yd,b,ao,(bG (fe:=Jg) (r:=[↑(.lst (K.map nD))]) (enc:=nD) (λx=>.bl (decide (x∈K))) (l:=l) (λx _=>by
   simp[Jg,(cv (c:=.lst (K.map nD)) x K false rfl)])),hb]
 | false=>simp[Jh,Yd,b]
theorem Lf(l:AE)(x:Nat):nO [.tup (l.map nD),.int x]=some (.lst ((l.filter λy=>decide (y<x)).map nD)):=by
 rw[nO,Ye (by rfl)]
 simp[QX,Yd,ao,iX (fc:=Ji) (fe:=Jj) (r:=[↑(.int x)]) (enc:=nD) (λy=>decide (y<x)) nD (l:=l) (λy _=>by
  simp[Ji]) (λy _ _=>by simp[Jj])]
def d4(first K:AE)(r:ey):Bool:=j6 r.2 K&&decide ((r.2.filter λy=>decide (y<r.1))=first.filter λy=>decide (y<r.1))
def Lg{r:ey}(h:∀x∈r.2,x<60)(c:r.2.length<=3700)(first K:AE):yP [bK r,.tup (first.map nD),.lst (K.map nD)]=some (.bl (d4 first K r)):=by
 have b:=Ld r;have a:=Sb h c K;rw[yP,Ye (by rfl)];unfold d4;generalize j6 r.2 K=d at *
 cases d with
 | true=>simp[Jl,Yd,b,a,Lf r.2 r.1,Lf first r.1,(zo false (r.2.filter λy=>decide (y<r.1)) (first.filter λy=>decide (y<r.1)))]
 | false=>simp[Jl,Yd,b,a]
noncomputable def cb(n:Nat)(l:AE):AG:=(List.range n).map λx=>decide (x∈l)
theorem Yo0{n:Nat}(e:n<=1000){R:List Rl}(d:∀r∈R,In .i n r)(l:AE):yQ [bz .i R,.lst (l.map nD),.int n]=some (.bl (decide (brk .i (cb n l) R=[]))):=by
 have c:=nt (n:=n) ∅ ∅;rw[jT]at c
 have b:=bG (fe:=Jn) (r:=[↑(.lst (l.map nD))]) (enc:=λi=>D.int ((i:Nat))) (λx=>D.bl (decide (x∈l))) (l:=List.range n) (λx _=>by
  simp[Jn,(cv (c:=.lst (l.map nD)) x l false rfl)])
 have e1:((List.range n).map λx=>D.bl (decide (x∈l)))=(cb n l).map D.bl:=by unfold cb;rw[Qf];rfl
 rw[e1]at b
 have a:(cb n l).length=n:=by unfold cb;simp
 rw[yQ,Ye (by rfl)];simp[QZ,Yd,ao,c,b,(JZ (c:=.lst ((cb n l).map D.bl)) rfl (by rw[a];exact d))]
theorem y82(S:AE)(x:Nat):jW [.lst (S.map nD),.int x]=some (.tup ((S.filter λy=>!decide (y=x)).map nD)):=by
 rw[jW,Ye (by rfl)]
 simp[Ir,Yd,ao,(iX (fc:=sO) (fe:=sP) (r:=[↑(.int x)]) (enc:=nD) (λy=>!decide (y=x)) nD (l:=S) (λy _=>by
  simp[sO]) (λy _ _=>by simp[sP]))]
noncomputable def dt(first:AE)(rows:List ey)(S:AE):List AE:=(S++first)::rows.map λr=>(S.filter λy=>!decide (y=r.1))++r.2
def ji(first:AE)(rows:List ey)(R:List Rl)(K S:AE)(n:Nat):Bool:=j6 first K&&decide (rows.map (·.1)=S)&&rows.all (d4 first K)&&(dt first rows S).all λl=>decide (brk .i (cb n l) R=[])
theorem y4r{first:AE}(hf:∀x∈first,x<60)(hfl:first.length<=100){rows:List ey}(hl:rows.length<=100)(hr:∀r∈rows,r.2.length<=100/\∀y∈r.2,y<60){n:Nat}(hn:n<=1000){R:List Rl}(hR:∀r∈R,In .i n r)(K:AE){S:AE}(hS:S.length<=100):
 yR [.tup (first.map nD),.tup (rows.map bK),bz .i R,.lst (K.map nD),.lst (S.map nD),.int n]=some (.bl (ji first rows R K S n)):=by
 have hs:=Sb hf ∅ K
 have h0:=bG (fe:=Jo) (r:=[]) (enc:=bK) (λr=>nD r.1) (l:=rows) (λr _=>by
  have hi:=Ld r;generalize bK r=rr at *
  simp[Jo,hi])
 have e0:(rows.map λr=>nD r.1)=(rows.map (·.1)).map nD:=by rw[Qf];rfl
 rw[e0]at h0;have hq:=zo true (rows.map (·.1)) S
 have h1:=bG (fe:=Jp) (r:=[↑(.tup (first.map nD)),↑(.lst (K.map nD))]) (enc:=bK) (λr=>.bl (d4 first K r)) (l:=rows) (λr hm=>by
  have h:=Lg (hr r hm).2 (by have:=(hr r hm).1;ac_nf) first K
  generalize bK r=rr at *
  generalize first.map nD=F1 at *
  generalize K.map nD=KK at *
  simp[Jp,h])
 have hall:bw (rows.map λr=>D.bl (d4 first K r))=some (rows.map (d4 first K)):=f_ _ rows
 have h2:=bG (fe:=Jq) (r:=[↑(.lst (S.map nD))]) (enc:=bK) (λr=>.lst (((S.filter λy=>!decide (y=r.1))++r.2).map nD)) (l:=rows) (λr hm=>by
  have hi:=Ld r;have hw:=y82 S r.1;have hfi:(S.filter λy=>!decide (y=r.1)).length<=S.length:=Qn _ _;have hc:=lM (a:=(S.filter λy=>!decide (y=r.1)).map nD) (b:=r.2.map nD) (by have:=(hr r hm).1;rw[qf,qf];ac_nf);rw[<-wt]at hc;have l1:∀l:AN,eR [.tup l]=some l:=λl=>rfl;generalize ((S.filter λy=>!decide (y=r.1))++r.2).map nD=C,(S.filter λy=>!decide (y=r.1)).map nD=S1,r.2.map nD=R1,S.map nD=SS,bK r=rr at *
  simp[Jq,hi,hw,l1,hc])
 have e2:(rows.map λr=>D.lst (((S.filter λy=>!decide (y=r.1))++r.2).map nD))=(rows.map λr=>(S.filter λy=>!decide (y=r.1))++r.2).map λl=>D.lst (l.map nD):=by rw[Qf];rfl
 rw[e2]at h2;have hcf:=lM (a:=S.map nD) (b:=first.map nD) (by rw[qf,qf];ac_nf);rw[<-wt]at hcf;have hcl:=lM (a:=[D.lst ((S++first).map nD)]) (b:=(rows.map λr=>(S.filter λy=>!decide (y=r.1))++r.2).map λl=>D.lst (l.map nD)) (by simp;ac_nf);have e3:[D.lst ((S++first).map nD)]++((rows.map λr=>(S.filter λy=>!decide (y=r.1))++r.2).map λl=>D.lst (l.map nD))=(dt first rows S).map λl=>D.lst (l.map nD):=rfl;rw[e3]at hcl
 have h3:=bG (fe:=Jr) (r:=[↑(bz .i R),↑(.int (n:Int))]) (enc:=λl:AE=>D.lst (l.map nD)) (λl=>.bl (decide (brk .i (cb n l) R=[]))) (l:=dt first rows S) (λl _=>by
  have h:=Yo0 hn hR l;generalize bz .i R=bk,l.map nD=LL at *
  simp[Jr,h])
 have hall3:bw ((dt first rows S).map λl=>D.bl (decide (brk .i (cb n l) R=[])))=some ((dt first rows S).map λl=>decide (brk .i (cb n l) R=[])):=f_ _ _
 have hq3:((dt first rows S).map λl=>decide (brk .i (cb n l) R=[])).all id=(dt first rows S).all λl=>decide (brk .i (cb n l) R=[]):=by rw[List.all_map];rfl
 have hlf:eR [.tup (first.map nD)]=some (first.map nD):=rfl;rw[yR,Ye (by rfl)];unfold ji;rw[<-hq3];generalize ((dt first rows S).map λl=>decide (brk .i (cb n l) R=[]))=B3,((dt first rows S).map λl=>D.bl (decide (brk .i (cb n l) R=[])))=D3,((dt first rows S).map λl=>D.lst (l.map nD))=L3,((rows.map λr=>(S.filter λy=>!decide (y=r.1))++r.2).map λl=>D.lst (l.map nD))=L2,(S++first).map nD=SF,bz .i R=bk at *
 generalize j6 first K=sb at *
 generalize (rows.map λr=>D.bl (d4 first K r))=RB at *
 generalize hrp:d4 first K=rp at *
 generalize rows.map bK=RR at *
 generalize first.map nD=F1 at *
 generalize K.map nD=KK at *
 cases sb with
 | false=>simp[nP,Yd,hs]
 | true=>
   by_cases hk:rows.map (·.1)=S
   .simp only[hk,decide_true]at hq
    rw[hk]at h0;generalize S.map nD=SS at *
    cases ha:rows.all rp with
    | false=>simp[nP,Yd,hs,ao,h0,hq,h1,hall,ha,wu]
    | true=>simp[nP,Yd,hs,ao,h0,hq,h1,hall,ha,wu,hk,hlf,hcf,h2,hcl,h3,hall3]
   .simp only[hk,decide_false]at hq
    generalize (rows.map (·.1)).map nD=R1,S.map nD=SS at *;simp[nP,Yd,hs,ao,h0,hq,hk]
noncomputable def od(l:AE)(E:AH):Bool:=decide ((l.filter E).length%2=1)
def zp(E:AH):od [] E=false:=rfl
theorem gR(a:Nat)(l:AE)(E:AH):od (a::l) E=(E a != od l E):=by
 unfold od;grind
def gS(h:∀x∈l,E x=F x):od l E=od l F:=by
 unfold od;rw[List.filter_congr h]
theorem n7(h:∀x∈l,E x=false):od l E=false:=by
 unfold od;rw[List.filter_eq_nil_iff.mpr λx a=>by grind];rfl
theorem uG:∀{l:AE},l.Nodup->∀y:Nat,od l (λx=>decide (y=x))=decide (y∈l)
 | [],_,y=>by simp[zp]
 | a::l,h,y=>by
   rw[List.nodup_cons]at h;rw[gR,uG h.2];by_cases e:y=a
   .subst e
    simp[h.1]
   .simp[e]
def xr(T E:AH):Bool:=od (.range 60) (λx=>T x&&E x)
theorem zq(f g:AH):∀l:AE,od l (λx=>f x != g x)=(od l f != od l g)
 | []=>rfl
 | a::l=>by
   rw[gR,gR,gR,zq f g l];cases f a<;>cases g a<;>cases od l f<;>cases od l g<;>rfl
def uH(T S E:AH):xr (λx=>T x != S x) E=(xr T E != xr S E):=by
 unfold xr;rw[<-zq]
 exact gS λx _=>show((T x != S x)&&E x)=((T x&&E x)!=(S x&&E x)) by cases T x<;>cases S x<;>cases E x<;>rfl
theorem uI(b:a<60)(E:AH):xr (λx=>decide (x=a)) E=E a:=by
 unfold xr
 have h:od (.range 60) (λx=>decide (x=a)&&E x)=od _ (λx=>decide (a=x)&&E a):=gS λx _=>by
  grind
 rw[h]
 cases E a with
 | false=>exact n7 λx _=>by simp
 | true=>
   have c:od (.range 60) (λx=>decide (a=x)&&true)=od _ (λx=>decide (a=x)):=gS λx _=>by simp
   rw[c,uG List.nodup_range];simp[b]
theorem zr(E:AH):∀{l:AE},l.Nodup->(∀x∈l,x<60)->xr (λx=>decide (x∈l)) E=od l E
 | [],_,_=>n7 λx _=>by simp
 | a::l,b,c=>by
   rw[List.nodup_cons]at b
   have e:(λx=>decide (x∈a::l))=λx=>decide (x=a)!=decide (x∈l):=funext λx=>by
    by_cases h:x=a
    .subst h
     simp[b.1]
    .simp[h]
   rw[e,uH,uI (c a nofun),zr E b.2 λx d=>c x (by simp[d]),gR]
def uJ(f E:AH):od (fl 60 f) E=xr f E:=by
 unfold od xr od fl;rw[List.filter_filter,List.filter_congr λx _=>Bool.and_comm _ _]
theorem uK(rows:List b9):∀(l:AE) (a:Sm),(∀y,(l.foldl (fN rows) a).1 y=(a.1 y != od l (λx=>(cM rows x).1 y)))/\(l.foldl (fN rows) a).2=(a.2 != od l (λx=>(cM rows x).2))
 | [],a=>⟨λy=>by rw[zp];ext,by rw[zp];ext⟩
 | x::l,a=>by
   obtain⟨b,c⟩:=uK _ l _;refine⟨λy=>?_,?_⟩
   .rw[List.foldl_cons,b y,gR]
    show((a.1 y != _)!=_)=_
    ext
   .rw[List.foldl_cons,c,gR]
    show((a.2 != _)!=_)=_
    ext
def kp(rows:List b9)(T:AH)(o:Bool):Prop:=(∀y,y<60->xr T (λx=>(cM rows x).1 y)=false)/\xr T (λx=>(cM rows x).2)=o
def mf(h:∀x,x<60->(T x&&E x)=(S x&&F x)):xr T E=xr S F:=gS λx a=>h x (Qb a)
theorem mh(rows:List b9)(T:AH):(∀y,(ba rows (fl 60 T)).1 y=xr T (λx=>(cM rows x).1 y))/\(ba rows (fl 60 T)).2=xr T (λx=>(cM rows x).2):=by
 obtain⟨a,b⟩:=uK _ _ _;refine⟨λy=>?_,?_⟩
 .show((fl 60 T).foldl (fN _) _).1 y=_
  rw[a y,uJ];symm
 .show((fl 60 T).foldl (fN _) _).2=_
  rw[b,uJ];symm
theorem fl_nil:fl 60 T=[]↔∀x,x<60->T x=false:=by ext
def kept_kp{rows:List b9}{T:AH}{o:Bool}:j5 rows (T,o)=true↔kp rows T o:=by
 obtain⟨h1,h2⟩:=mh rows T;unfold j5 kp;rw[Qe,wm,fl_nil,beq_iff_eq,h2]
 refine and_congr_left λ_=>⟨λh y hy=>by rw[<-h1 y];exact h y hy,λh y hy=>by rw[h1 y];exact h y hy⟩
def Lh(h:kp rows T o)(h':kp rows S u):kp rows (λx=>T x != S x) (o != u):=
 ⟨λy a=>by rw[uH,h.1 y a,h'.1 y a];rfl,by rw[uH,h.2,h'.2]⟩
theorem uL(h:∀x,x<60->T x=false):xr T E=false:=n7 λx a=>by
 ext
def Li(h:∀x,x<60->T x=false):kp rows T false:=⟨λ_ _=>uL h,uL h⟩
theorem Red.kp(a:∀r∈BL,kp rows (tP R r.2) (aJ R (fl 60 r.2)))(h:Red R BL false T o):Lw.kp rows T o:=by
 induction h with
 | zero e d=>
   rw[d rfl];exact Li e
 | step r b f _ c=>
   have:=Lh c (a r b)
   ext
theorem Lj(h:x≠r.1):c5 (rows++[r]) x=c5 rows x:=by
 unfold c5;grind
def y83(h:r.1∉rows.map (·.1)):c5 (rows++[r]) r.1=r:=by
 unfold c5;rw[List.find?_append]
 have e:(rows.find? λq=>q.1==r.1)=none:=by
  rw[List.find?_eq_none];intro q a z;exact h (List.mem_map.mpr ⟨q,a,by simpa using z⟩)
 rw[e];simp
def zt(h:x∉rows.map (·.1)):c5 rows x=(x,[x],false):=by
 unfold c5
 have e:(rows.find? λq=>q.1==x)=none:=by
  rw[List.find?_eq_none];intro q hq z;exact h (List.mem_map.mpr ⟨q,hq,by simpa using z⟩)
 rw[e];rfl
theorem Lk(h:x∈rows.map (·.1)):c5 rows x∈rows/\(c5 rows x).1=x:=by
 unfold c5
 cases e:rows.find? _ with
 | none=>
   grind
 | some q=>grind
noncomputable def wl(T:AH)(k:Nat):AH:=λx=>T x&&!decide (x=k)
def jk(a:k<60)(b:T k=true)(E:AH):xr T E=(xr (wl T k) E != E k):=by
 rw[<-uI a E,<-uH];refine mf λx _=>?_;unfold wl;by_cases e:x=k
 .subst e
  simp[b]
 .simp[e]
def fg(rows:List b9)(k:Nat)(T:AH)(o:Bool):b9:=(k,fl 60 (ba rows (fl 60 (wl T k))).1,(ba rows (fl 60 (wl T k))).2 != o)
inductive Mk (S:AE) (Tf:Nat->AH) (of:AH):List b9->Prop
 | nil:Mk S Tf of []
 | snoc {rows:List b9}{k:Nat}:Mk S Tf of rows->(∀r∈rows,r.1<k)->Last (Tf k) k->(∀x,x<k->Tf k x=true->x∈S\/x∈rows.map (·.1))->Mk S Tf of (rows++[fg rows k (Tf k) (of k)])
theorem Ll(h:Mk S c e rows):∀r∈rows,∀x,x<60->c r.1 x=true->x<=r.1:=by
 induction h with
 | nil=>simp
 | snoc g f d i b=>
   intro r a;rcases qw a with a|a
   .exact b r a
   .rw[List.mem_singleton]at a
    subst a;exact d.2.2
theorem Lm(h:Mk S a b rows):∀r∈rows,kp rows (a r.1) (b r.1):=by
 induction h with
 | nil=>grind
 | snoc q B i F C=>
   rename_i rows k;have u:∀x,x<k->c5 (rows++[fg rows k (a k) (b k)]) x=c5 rows x:=λx e=>Lj (λz=>by have G:x=k:=z;lia)
   have l:k∉rows.map (·.1):=λz=>by
    grind
   have g:c5 (rows++[fg rows k (a k) (b k)]) k=fg rows k (a k) (b k):=y83 (r:=fg rows k (a k) (b k)) l;intro r d;rcases qw d with d|d
   .have v:=B r d
    obtain⟨E,s⟩:=C r d;have n:∀x,x<60->a r.1 x=true->x<k:=λx e o=>Nat.lt_of_le_of_lt (Ll q r d x e o) v;refine⟨λy p=>?_,?_⟩
    .rw[<-E y p]
     refine mf λx e=>?_
     cases o:a r.1 x with
     | false=>rfl
     | true=>
       unfold cM
       ext
    .rw[<-s]
     refine mf λx e=>?_
     cases o:a r.1 x with
     | false=>rfl
     | true=>
       unfold cM
       ext
   .rw[List.mem_singleton]at d
    subst d;show kp _ (a k) (b k);obtain⟨D,A⟩:=mh rows (wl (a k) k)
    have n:∀x,x<60->wl (a k) k x=true->x<k:=λx e j=>by
     unfold wl at j;rw[Qe]at j;have:=i.2.2 x e j.1
     (simp;lia)
    have c:∀f:b9->Bool,xr (wl (a k) k) (λx=>f (c5 (rows++[fg rows k (a k) (b k)]) x))=xr (wl (a k) k) (λx=>f (c5 rows x)):=λf=>mf λx e=>by
     grind
    refine⟨λy p=>?_,?_⟩
    .rw[jk i.1 i.2.1]
     have t:(cM (rows++[fg rows k (a k) (b k)]) k).1 y=(ba rows (fl 60 (wl (a k) k))).1 y:=by
      unfold cM;rw[g];show decide (y∈fl 60 (ba rows (fl 60 (wl (a k) k))).1)=_
      ext
     have m:=c λr=>decide (y∈r.2.1)
     have w:xr (wl (a k) k) (λx=>(cM (rows++[fg rows k (a k) (b k)]) x).1 y)=(ba rows (fl 60 (wl (a k) k))).1 y:=by
      rw[D y];exact m
     ext
    .rw[jk i.1 i.2.1]
     have t:(cM (rows++[fg rows k (a k) (b k)]) k).2=((ba rows (fl 60 (wl (a k) k))).2 != b k):=by
      unfold cM;rw[g];rfl
     have m:=c λr=>r.2.2
     have w:xr (wl (a k) k) (λx=>(cM (rows++[fg rows k (a k) (b k)]) x).2)=(ba rows (fl 60 (wl (a k) k))).2:=by
      rw[A];exact m
     ext
theorem uM:∀{l:AE}{E:AH},od l E=true->∃x∈l,E x=true
 | [],_,h=>by cases h
 | a::l,E,h=>by
   rw[gR]at h
   cases c:E a with
   | true=>ext
   | false=>
     have b:od l E=true:=by grind
     obtain⟨x,d,e⟩:=uM b;grind
def uN(h:xr T E=true):∃x,x<60/\T x=true/\E x=true:=by
 obtain⟨x,a,e⟩:=uM h;rw[Qe]at e;exact⟨x,Qb a,e.1,e.2⟩
theorem uO(h:Mk S v t rows):∀r∈rows,r.1<60/\r.2.1.Pairwise (·<·)/\∀y∈r.2.1,y∈S/\y<r.1:=by
 induction h with
 | nil=>simp
 | snoc u w i m j=>
   rename_i rows k;intro r b;rcases qw b with b|b
   .exact j r b
   .rw[List.mem_singleton]at b
    subst b;refine⟨i.1,.filter _ List.pairwise_lt_range,λy n=>?_⟩;have d:=(Qc n).2;rw[(mh _ _).1 y]at d;obtain⟨x,q,f,p⟩:=uN d;unfold wl at f;rw[Qe]at f
    have e:x<k:=by
     have:=i.2.2 x q f.1;grind
    have c:=wq p;by_cases a:x∈rows.map (·.1)
    .obtain⟨s,A⟩:=Lk a
     obtain⟨_,_,o⟩:=j _ s;obtain⟨l,z⟩:=o y c;exact⟨l,by show y<k;lia⟩
    .rw[zt a]at c
     have g:y=x:=by grind
     subst g;exact⟨(m y e f.1).resolve_right a,e⟩
def Sd(S:AE)(T:AH)(o:Bool):Prop:=fl 60 T=[]/\o=true\/∃l∈S,Last T l
theorem never(w:rows.map (·.1)=K)(v:∀r∈rows,∀y∈r.2.1,y<r.1)(i:∀x∈S,x∉K)(h:kp rows T o):¬Sd S T o:=λn=>by
 rcases n with⟨f,rfl⟩|⟨l,p,b⟩
 .have:=h.2
  rw[uL (fl_nil.mp f)]at this;cases this
 .have m:=h.1 l b.1
  rw[jk b.1 b.2.1]at m
  have q:(cM rows l).1 l=true:=by
   unfold cM;rw[zt (by grind)];simp
  have u:xr (wl T l) (λx=>(cM rows x).1 l)=false:=by
   cases e:xr _ _ with
   | false=>rfl
   | true=>
     obtain⟨x,k,c,g⟩:=uN e;unfold wl at c;rw[Qe]at c
     have j:x<l:=by
      have:=b.2.2 x k c.1
      (simp;lia)
     have d:=wq g;by_cases a:x∈rows.map (·.1)
     .obtain⟨t,s⟩:=Lk a
      grind
     .rw[zt a]at d
      ext
  grind
def Ln(R:List Sm)(W:AH):Yc (aP R W)=some [.tup ((fl 60 W).map nD),.tup [.tup ((fl 60 (tP R W)).map nD),.bl (aJ R (fl 60 W))]]:=rfl
def Se(h:Last (tP R W) b):tD [aP R W]=some (.int (b:Int)):=by
 rcases Kc (tP R W)with d|⟨c,f,_,a⟩
 .have:=fl_nil.mp d b h.1
  rw[h.2.1]at this;cases this
 .have e:=h.uniq f
  subst e;rw[tD,Ye (by rfl)];simp[Q_,Yd,Ln R W,a]
def fO(R:List Sm)(S:AE)(W:AH):Prop:=(∀p,W p=true->p<R.length)/\Sd S (tP R W) (aJ R (fl 60 W))
theorem Ytk(d:j4 R R.length BL)(j:t5 R R.length U)(S:AE):
 ∃V:Option AH,(V=none->U=none/\∀r∈BL,r.1∉S)/\(∀W,V=some W->fO R S W)/\nR [.lst (bo R BL),c7 U,.lst (S.map nD)]=some (c7 V):=by
 cases U with
 | some g=>
   refine⟨some g,λh=>(nomatch h),λW b=>?_,?_⟩
   .cases b
    obtain⟨n,m,k⟩:=j g rfl;exact⟨k,.inl ⟨n,m⟩⟩
   .rw[nR,Ye (by rfl)]
    constructor<;>lia
 | none=>
   have c:=iX (fc:=Jx) (fe:=Rb) (r:=[↑(.lst (S.map nD))]) (enc:=λr:dq=>aP R r.2) (λr=>decide (r.1∈S)) (λr=>.tup ((fl 60 r.2).map nD)) (λr a=>by
    have i:=Se (d.1 r a).1;have e:=cv (c:=.lst _) r.1 S false rfl
    simp[Jx,i,e]) (λr a _=>by
    have p:=Ln R r.2
    constructor<;>lia)
   have l:(BL.map _)=bo R BL:=rfl
   cases f:BL.filter _ with
   | nil=>
     rw[f]at c;refine⟨none,λ_=>⟨rfl,λr a z=>?_⟩,λW b=>(nomatch b),?_⟩
     .have:r∈BL.filter λr=>decide (r.1∈S):=List.mem_filter.mpr ⟨a,wn z⟩
      grind
     .rw[nR,Ye (by rfl)]
      simp[Jy,Yd,c7,ao,c]
   | cons r L=>
     rw[f]at c;have a:=Qc (by rw[f];exact qh);refine⟨some r.2,λh=>(nomatch h),λW b=>?_,?_⟩
     .cases b
      exact⟨(d.1 r a.1).2,.inr ⟨r.1,wq a.2,(d.1 r a.1).1⟩⟩
     .rw[nR,Ye (by rfl)]
      have o:c7 (some r.2)=_:=rfl;simp[Jy,Yd,c7,ao,c]
theorem uP(h:Last T k):fl 60 T=fl 60 (wl T k)++[k]:=by
 refine K3 (.filter _ List.pairwise_lt_range) ?_ λx=>?_
 .rw[List.pairwise_append]
  refine⟨.filter _ List.pairwise_lt_range,by simp,λa e b f=>?_⟩;obtain⟨d,c⟩:=Qc e;unfold wl at c;rw[Qe]at c;have:=h.2.2 a (Qb d) c.1
  ext<;>lia
 .rw[List.mem_append,List.mem_singleton,Ql,Ql,List.mem_range]
  unfold wl;constructor
  .simp_all<;>lia
  .rintro(⟨d,c⟩|rfl)
   .simp_all
   .exact⟨h.1,h.2.1⟩
theorem Lo(h:Last T k):bN ((fl 60 T).map nD) none (some (-1))=(fl 60 (wl T k)).map nD:=by
 have e:HT.sIx ((fl 60 T).map nD).length ((fl 60 T).map nD).length (some (-1))=(fl 60 T).length-1:=by
  unfold HT.sIx;simp;ac_nf
 unfold bN;rw[e,HT.sIx_none,uP h];simp
def cy(R:List Sm)(BL:List dq)(k:Nat):AH:=if k∈BL.map (·.1)then tP R (cw BL k)else λx=>decide (x=k)
def eH(R:List Sm)(BL:List dq)(k:Nat):Bool:=if k∈BL.map (·.1)then aJ R (fl 60 (cw BL k))else false
theorem Sf(f:(AH)->D){b:Nat}:∀{BL:List dq},b∉BL.map (·.1)->Yn ((BL.map (·.1)).map λx:Nat=>(x:Int)) (BL.map λr=>f r.2) (b:Int)=none
 | [],_=>rfl
 | r::BL,h=>by
   show Yn (_::_) (f r.2::_) _=none;have e:¬r.1=b:=λz=>h (by grind);rw[Yn,if_neg (by lia)];exact Sf f λz=>h (qg _ z)
abbrev jl(R:List Sm)(BL:List dq):AN:=BL.map λr=>aV R (fl 60 r.2)
theorem Lp(R:List Sm)(BL:List dq){k:Nat}(a:k<60):jH (.dct false (bQ BL) (jl R BL)) (.int (k:Int)) (.tup [.tup [.int (k:Int)],.bl false])=some (aW (cy R BL k,eH R BL k)):=by
 rw[En,gP,Option.map_some];unfold cy eH;by_cases h:k∈BL.map (·.1)
 .have:=(nW (λW=>aV R (fl 60 W)) h).2
  rw[this,if_pos h,if_pos h];rfl
 .have:=Sf (λW=>aV R (fl 60 W)) h
  have e:=zh a
  split<;>ext
theorem uQ(b:j4 R R.length BL)(a:k<60):Last (cy R BL k) k:=by
 unfold cy;by_cases h:k∈BL.map (·.1)
 .rw[if_pos h]
  exact(b.1 _ (nW (λ_=>.non) h).1).1
 .rw[if_neg h]
  exact⟨a,by simp,λx _ c=>by ext⟩
theorem Sg(R:List Sm):∀BL:List dq,eu (BL.map λr=>.tup [.int r.1,aV R (fl 60 r.2)])=some (BL.map λr=>((r.1:Int),aV R (fl 60 r.2)))
 | []=>rfl
 | r::l=>by rw[Qd,eu,Sg R l];rfl
def Lq(a:Sm):jF (aW a)=true:=by
 simp [jF,er,l6 (fl 60 a.1)]
theorem y4s(J:j4 R R.length BL)(w:k<60)(O:rows.length<=1000)(x:∀r∈rows,r.1<k/\r.2.1.Pairwise (·<·)/\∀y∈r.2.1,y<60)(h j C l:AQ):
 ∃I F:AQ,yV [h,j,some (.od false (bQ BL) (jl R BL)),some (.od false (rows.map λr=>nD r.1) (rows.map aE)),↑(nD k),C,l] =
  some (.nx [h,j,some (.od false (bQ BL) (jl R BL)),some (.od false ((rows++[fg rows k (cy R BL k) (eH R BL k)]).map λr=>nD r.1) ((rows++[fg rows k (cy R BL k) (eH R BL k)]).map aE)),↑(nD k),I,F]):=by
 have A:=uQ J w;have H:=Lp R BL w;have s:Yc (aW (cy R BL k,eH R BL k))=some [.tup ((fl 60 (cy R BL k)).map nD),.bl (eH R BL k)]:=rfl;have v:=Lo A;have b:=Sa (rows:=rows) (λr K=>(x r K).2) (wl (cy R BL k) k,false);have p:aW (wl (cy R BL k) k,false)=.tup [.tup ((fl 60 (wl (cy R BL k) k)).map nD),.bl false]:=rfl;rw[p]at b;have u:Yc (aW (ba rows (fl 60 (wl (cy R BL k) k))))=some _:=rfl;have E:=Lq (ba rows (fl 60 (wl (cy R BL k) k)))
 have f:k∉rows.map (·.1):=λz=>by
  grind
 have e:(rows.map λr=>nD r.1)=(rows.map (·.1)).map nD:=by ext
 have g:∀d:D,m7 (rows.map λr=>nD r.1) (rows.map aE) (.int (k:Int)) d=some ((rows.map λr=>nD r.1)++[.int (k:Int)],rows.map aE++[d]):=λd=>by
  rw[m8,e,gP,qd,if_pos (show(rows.map aE).length<aA by rw[qf];show rows.length<1000000;lia),if_neg (λz=>f (mem_castI.mp z))]
 have c:((rows++[fg rows k (cy R BL k) (eH R BL k)]).map λr=>nD r.1)=(rows.map λr=>nD r.1)++[.int (k:Int)]:=by rw[wt];rfl
 have a:(rows++[fg rows k (cy R BL k) (eH R BL k)]).map aE=rows.map aE++[.tup [.int (k:Int),.tup ((fl 60 (ba rows (fl 60 (wl (cy R BL k) k))).1).map nD),.bl ((ba rows (fl 60 (wl (cy R BL k) k))).2 != eH R BL k)]]:=by rw[wt];rfl
 rw[c,a];have i:fM rows=.dct false (rows.map λr=>nD r.1) (rows.map aE):=rfl;rw[i]at b;refine⟨some (.sh (aW (cy R BL k,eH R BL k))),↑(aW (ba rows (fl 60 (wl (cy R BL k) k)))),?_⟩;generalize (ba rows (fl 60 (wl (cy R BL k) k))).2=Q at *;generalize (fl 60 (ba rows (fl 60 (wl (cy R BL k) k))).1).map nD=N at *;generalize aW (ba rows (fl 60 (wl (cy R BL k) k)))=G,(fl 60 (wl (cy R BL k) k)).map nD=S,(fl 60 (cy R BL k)).map nD=L,aW (cy R BL k,eH R BL k)=q at *;generalize eH R BL k=M at *;clear e c a i x f;generalize (rows.map λr=>nD r.1)=n,rows.map aE=o,bQ BL=KB,jl R BL=m at *
 have t:hV [3] (cC (Yb (av (Yb (jK (b2 (aa 5) (aab 0) ai) none (some (b1 (aab 1) bE))) (Yb (kD (.bl false)) ae))) (Yb (ab 3) ae)) nN) [h,j,some (.od false KB m),some (.od false n o),↑(nD k),↑q,l]=some G:=by
  unfold hV;have T:frz [3] [h,j,some (.od false KB m),some (.od false n o),↑(nD k),↑q,l]=[h,j,some (.od false KB m),↑(.dct false n o),↑(nD k),↑q,l]:=rfl
  ext
 simp[yV,H,t,u,s,g,-En,-m8];grind
theorem Lr(hn:(rows.map (·.1)).Nodup)(c:r∈rows):cJ (fM rows) (.int (r.1:Int))=some (aE r):=by
 have b:intsD (rows.map λr=>nD r.1)=_:=rV _ _;rw[fM,jI,b,qd,K8]
 have f:rows.find? (λq=>q.1==r.1)=some r:=by
  cases e:rows.find? _ with
  | none=>
    grind
  | some q=>
    have g:=List.mem_of_find?_eq_some e
    have d:q.1=r.1:=by grind
    clear e b
    induction rows with
    | nil=>cases c
    | cons a l h=>
      grind
 rw[f];rfl
theorem y84(hB:j4 R R.length BL)(hBl:BL.length<=1000)(hK:K.Pairwise (·<·))(hK60:∀k∈K,k<60)(hS60:∀x∈S,x<60)(hT:∀k∈K,∀x,x<60->cy R BL k x=true->x∈S\/x∈K):
 ∃rows:List b9,Mk S (cy R BL) (eH R BL) rows/\rows.map (·.1)=K/\yW [.lst (bo R BL),.lst (K.map nD)]=some (.tup (rows.map aE)):=by
 have hKl:K.length<=60:=zi (hK.imp λh=>qm h) hK60
 have hc:=bG (fe:=tE) (r:=[]) (enc:=λr:dq=>aP R r.2) (λr=>.tup [.int r.1,aV R (fl 60 r.2)]) (l:=BL) (λr hr=>by
  have hl:=Se (hB.1 r hr).1;have hi:=Ln R r.2;have ht:aV R (fl 60 r.2)=.tup [.tup ((fl 60 (tP R r.2)).map nD),.bl (aJ R (fl 60 r.2))]:=rfl;rw[<-ht]at hi;generalize aV R (fl 60 r.2)=TT,aP R r.2=PW at *
  simp[tE,hl,hi])
 have hrw:(BL.map λr:dq=>aP R r.2)=bo R BL:=rfl;rw[hrw]at hc;have h1:bL (.lst (BL.map λr=>.tup [.int r.1,aV R (fl 60 r.2)]))=some (BL.map λr=>((r.1:Int),aV R (fl 60 r.2))):=Sg R BL;have hn2:=R_ hB.2
 have hd:=K7 (BL.map λr=>((r.1:Int),aV R (fl 60 r.2))) [] [] (by
  rw[Qj,Qf];rw[Qf]at hn2
  exact hn2)
 have hlen:(BL.map λr=>((r.1:Int),aV R (fl 60 r.2))).length<1000000:=by rw[qf];ac_nf
 obtain⟨ρ',e1,rows,y4,y5,y6,hM,hrk,rfl⟩:=gM (gt:=aj 4) (fb:=yV) nD (λpre ρ=>∃(rows:List b9) (y4 y5 y6:AQ),Mk S (cy R BL) (eH R BL) rows/\rows.map (·.1)=pre/\
  ρ=[↑(.lst (bo R BL)),↑(.lst (K.map nD)),some (.od false (bQ BL) (jl R BL)),some (.od false (rows.map λr=>nD r.1) (rows.map aE)),y4,y5,y6]) K []
  [↑(.lst (bo R BL)),↑(.lst (K.map nD)),some (.od false (bQ BL) (jl R BL)),some (.od false [] []),none,none,none] ⟨[],none,none,none,.nil,rfl,rfl⟩ (by
   rintro q k r ρ e ⟨rows,y4,y5,y6,hM,hrk,rfl⟩;rw[Qj]at e
   have hkK:k∈K:=by rw[e];simp
   have hk60:=hK60 k hkK;have hpw:=hK;rw[e,List.pairwise_append]at hpw;have hlt:∀r∈rows,r.1<k:=λr hr=>hpw.2.2 r.1 (by rw[<-hrk];exact Qs (f:=(·.1)) hr) k nofun;have hok:=uO hM
   have hrl:rows.length<=1000:=by
    have g1:=congrArg List.length hrk;have g2:=congrArg List.length e;simp at g1 g2;ac_nf
   obtain⟨z5,z6,hst⟩:=y4s hB hk60 (rows:=rows) hrl (λr hr=>⟨hlt r hr,(hok r hr).2.1,λy hy=>hS60 y ((hok r hr).2.2 y hy).1⟩) (↑(.lst (bo R BL))) (↑(.lst (K.map nD))) y5 y6;refine⟨_,_,rfl,hst,rows++[fg rows k (cy R BL k) (eH R BL k)],_,_,_,.snoc hM hlt (uQ hB hk60) λx hx hTx=>?_,?_,rfl⟩
   .rcases hT k hkK x ∅ hTx with h|h
    .exact .inl h
    .right
     rw[hrk];rw[e]at h;rcases qw h with h|h
     .exact h
     .rcases qu h with h|h
      .lia
      .have h3:=hpw.2.1
       rw[List.pairwise_cons]at h3;have:=h3.1 x h;ac_nf
   .rw[wt,hrk]
    rfl)
 rw[Qj]at hrk
 have hn:(rows.map (·.1)).Nodup:=by rw[hrk];exact hK.imp λh=>qm h
 have hc1:=bG (fe:=Jz) (r:=[↑(fM rows)]) (enc:=λr:b9=>nD r.1) aE (l:=rows) (λr hr=>by
  have hg:=Lr hn hr;generalize fM rows=sd,aE r=rr at *
  simp[Jz,hg])
 have hkk:(rows.map λr:b9=>nD r.1)=K.map nD:=by rw[<-hrk,Qf];rfl
 rw[hkk]at hc1;refine⟨rows,hM,hrk,?_⟩
 have hdct:fG 2 (lF (Yw (b1 (ab 0) Yc) [none] (aj 0) tY (tE))) [↑(.lst (bo R BL)),↑(.lst (K.map nD)),none,none,none,none,none]=some (.nx [↑(.lst (bo R BL)),↑(.lst (K.map nD)),some (.od false (bQ BL) (jl R BL)),none,none,none,none]):=by
  have hcomp:(lF (Yw (b1 (ab 0) Yc) [none] (aj 0) tY tE)) [↑(.lst (bo R BL)),↑(.lst (K.map nD)),none,none,none,none,none]=some (.lst (BL.map λr=>.tup [.int r.1,aV R (fl 60 r.2)])):=by
   generalize bo R BL=RB at *;simp[ao,hc]
  rw[qF,hcomp,qd,h1,qd,GS,if_pos hlen,hd];simp[wu,bQ,jl]
 have hsd:fM rows=.dct false (rows.map λr=>nD r.1) (rows.map aE):=rfl;rw[hsd]at hc1;rw[yW,Ye (by rfl)];have hst0:Yd 7 [.lst (bo R BL),.lst (K.map nD)]=[↑(.lst (bo R BL)),↑(.lst (K.map nD)),none,none,none,none,none]:=rfl;rw[hst0,JA,h9,hdct,qd,nj];clear hdct hd hc h1 hn2 hlen hrw hsd hkk hn hrk hM;generalize (rows.map λr=>nD r.1)=RK,rows.map aE=RS,bQ BL=KB,jl R BL=TB,bo R BL=RB,K.map nD=KK at *
 have h3:tF [↑(.lst RB),↑(.lst KK),some (.od false KB TB),some (.od false RK RS),y4,y5,y6]=some (.rt (.tup RS)):=by
  have hfz:frz [3] [↑(.lst RB),↑(.lst KK),some (.od false KB TB),some (.od false RK RS),y4,y5,y6]=[↑(.lst RB),↑(.lst KK),some (.od false KB TB),↑(.dct false RK RS),y4,y5,y6]:=rfl;rw[tF,lI,hfz];simp[ao,hc1]
 simp[e1,h3,-tF]
abbrev ec(R:List Sm):D:=.tup [.str "sums",.tup (R.map aW)]
theorem y4t(R:List Sm)(i:Nat)(h:i<R.length):jX [ec R,.int (i:Int)]=some (.bl true):=by
 rw[jX,Ye (by rfl)]
 have hlen:((R.map aW).length:Int)=(R.length:Int):=by simp
 have h1:(0:Int)<=(i:Int):=by ac_nf
 have h2:(i:Int)<(R.length:Int):=by ac_nf
 generalize R.map aW=RR at *;simp[Iv,Yd,hlen,h,h1,h2]
theorem Ls{l:AE}(x:Nat):aX ((l++[x]).map nD) (-1)=some (.int (x:Int)):=by
 unfold aX fB;rw[qf,if_neg ∅,if_pos (by simp;ac_nf)];simp
 have e:(-1+((l.length:Int)+1)).toNat=l.length:=by ac_nf
 rw[e];simp
theorem Lu(h:tP R W x=true):∃p,(rg R p).1 x=true:=by
 have a:=by simpa [tP]using h
 unfold a_ at a
 cases e:(fl 60 W).filter λp=>decide (x∈fl 60 (rg R p).1)with
 | nil=>grind
 | cons p l=>
   have:p∈(fl 60 W).filter λp=>decide (x∈fl 60 (rg R p).1):=by rw[e];simp
   grind
theorem Lv(h:(rg R p).1 x=true):rg R p∈R/\p<R.length:=by
 by_cases a:p<R.length
 .unfold rg
  ext
 .unfold rg at h
  ext
theorem y4u{S:AE}{R:List Sm}{W:AH}(hR:R.length<=60)(h:fO R S W):yo [.tup ((fl 60 W).map nD),ec R,.lst (S.map nD)]=some (.bl true):=by
 have hps60:∀x∈fl 60 W,x<60:=λx hx=>Qb (Qc hx).1;have hlt:∀x∈fl 60 W,x<R.length:=λx hx=>h.1 x (Qc hx).2
 have hpl:(fl 60 W).length<=3700:=by have:=J5 60 W;ac_nf
 have hri:=K5 hps60 hpl;have hr1:gQ (fl 60 W)=true:=wn (List.Pairwise.filter _ List.pairwise_lt_range);rw[hr1]at hri;have hadd:sG [ec R,.tup ((fl 60 W).map nD)]=some (aV R (fl 60 W)):=J_ rfl hlt;have hti:Yc (aV R (fl 60 W))=some [.tup ((fl 60 (tP R W)).map nD),.bl (aJ R (fl 60 W))]:=rfl;have hbad:=h.2;clear h
 have hc:=bG (fe:=ID) (r:=[↑(ec R)]) (enc:=nD) (λ_=>.bl true) (l:=fl 60 W) (λp hp=>by
  have hpl:=y4t R p (hlt p hp);generalize ec R=bk at *
  simp[ID,hpl])
 have hb:bw ((fl 60 W).map λ_=>D.bl true)=some ((fl 60 W).map λ_=>true):=f_ _ _
 have hall:((fl 60 W).map λ_=>true).all id=true:=by rw[List.all_map];exact List.all_eq_true.mpr λ_ _=>rfl
 rw[yo,Ye (by rfl)];have hst:Yd 4 [.tup ((fl 60 W).map nD),ec R,.lst (S.map nD)]=[↑(.tup ((fl 60 W).map nD)),↑(ec R),↑(.lst (S.map nD)),none]:=rfl;rw[hst];have hbi:Yc (ec R)=some [.str "sums",.tup (R.map aW)]:=rfl;rcases hbad with⟨hfl,ho⟩|⟨l,hl,hL⟩
 .have hv:=Ry (k:=.s) (n:=60) (r:=.su [] true) ⟨rfl,by simp⟩ (by decide)
  have hsv:aV R (fl 60 W)=aI (.su [] true):=by
   show D.tup [.tup ((fl 60 (tP R W)).map nD),.bl (aJ R (fl 60 W))]=_;rw[hfl,ho];rfl
  have hvt:br (aI (.su [] true)) (aI (vd .s))=true:=by decide +kernel
  rw[hvt]at hv;have hks:aU .s=.str "sums":=rfl;rw[hks]at hv;rw[hsv]at hadd hti;rw[hfl,List.map_nil,ho]at hti;generalize aI (.su [] true)=vr at *;clear hsv;generalize ((fl 60 W).map λ_=>true)=B1,((fl 60 W).map λ_=>D.bl true)=B2,(fl 60 W).map nD=PP,ec R=bk,R.map aW=RR,S.map nD=SS at *;simp[IE,hri,ao,hc,hb,hall,hadd,hti,hbi,hv]
 .have hF:=uP hL
  have ha:=Ls (l:=fl 60 (wl (tP R W) l)) l;have n1:=cv (c:=.lst (S.map nD)) l S false rfl;simp only[nD,hl,decide_true,Qo,if_false]at n1;rw[hF]at hti
  have htr:aD (.tup ((fl 60 (wl (tP R W) l)++[l]).map nD))=some true:=by simp
  generalize aV R (fl 60 W)=wh,aJ R (fl 60 W)=oo,(fl 60 (wl (tP R W) l)++[l]).map nD=FF,((fl 60 W).map λ_=>true)=B1,((fl 60 W).map λ_=>D.bl true)=B2,(fl 60 W).map nD=PP,ec R=bk,S.map nD=SS at *;simp[IE,hri,ao,hc,hb,hall,hadd,hti,ha,n1,htr]
def ik(h:x∈ax hs st b):x<hs.length:=Qb (Qc h).1
def Sh(R:List Sm)(st n:Nat):Prop:=∀q∈R,∀x,x<60->q.1 x=true->st<=x/\x<n
theorem uR(d:st<=x)(c:x<hs.length):x∈ax hs st false\/x∈ax hs st true:=by
 have a:∀b,hs.getD x false=b->x∈ax hs st b:=λb e=>by
  unfold ax;grind
 grind
theorem zu:∀x∈ax hs st false,x∉ax hs st true:=λx a b=>by
 unfold ax at a b;grind
structure gT(R:List Sm)(K S:AE)(rows:List b9):Prop where
 ks:rows.map (·.1)=K
 row:∀r∈rows,r.1<60/\r.2.1.Pairwise (·<·)/\∀y∈r.2.1,y∈S/\y<r.1
 kept:∀p,p<R.length->kp rows (rg R p).1 (rg R p).2
noncomputable def bW(a:Bool)(b:D):D:=.tup [.str (if a=true then .ofString "storm" else .ofString "keeper"),b]
theorem Yyy(hR:R.length<=60)(N:Yc c=some (hs.map aK))(O:hs.length<=60)(y:st<=hs.length)(B:Sh R st hs.length):
 (∃W:AH,fO R (ax hs st false) W/\nS [ec R,c,.int st]=some (bW true (.tup [.str "odd",.tup ((fl 60 W).map nD)])))\/
 (∃rows:List b9,gT R (ax hs st true) (ax hs st false) rows/\nS [ec R,c,.int st]=some (bW false (.tup [.str "sums",.tup (rows.map aE)]))):=by
 have b1:=Yi hs N (by lia) st y true;have b2:=Yi hs N (by lia) st y false;simp only[aK,if_true,Qo,if_false]at b1 b2;obtain⟨BL,U,i,T,Q,u,b⟩:=Kn hR;have a:sI [ec R]=_:=b;clear b;obtain⟨V,H,C,d⟩:=Ytk i T (ax hs st false)
 have m:∀W x,x<60->tP R W x=true->st<=x/\x<hs.length:=λW x v E=>by
  obtain⟨p,A⟩:=Lu E;exact B _ (Lv A).1 x v A
 have Y:BL.length<=60:=by
  have:=zi i.2 (λx v=>by
   obtain⟨r,j,rfl⟩:=qy v
   exact(i.1 r j).1.1)
  ext
 cases V with
 | some W=>
   refine .inl ⟨W,C W rfl,?_⟩;have Z:c7 (some W)=.tup ((fl 60 W).map nD):=rfl;rw[Z]at d;rw[nS,Ye (by rfl)];simp[JB,Yd,b1,b2,a,d,bW]
 | none=>
   obtain⟨G,F⟩:=H rfl;subst G;have s:(ax hs st true).Pairwise (·<·):=List.Pairwise.filter _ List.pairwise_lt_range
   have E:∀k∈ax hs st true,∀x,x<60->cy R BL k x=true->_:=λk z x v g=>by
    unfold cy at g;by_cases h:k∈BL.map (·.1)
    .rw[if_pos h]at g
     obtain⟨K,L⟩:=m _ x v g;exact uR K L
    ext
   obtain⟨rows,M,l,f⟩:=y84 i (by lia) (K:=ax hs st true) (S:=ax hs st false) s (λk z=>Qi (ik z) O) (λk z=>Qi (ik z) O) E;refine .inr ⟨rows,⟨l,uO M,λp A=>?_⟩,?_⟩
   .refine Red.kp (R:=R) (BL:=BL) (λr j=>?_) (u p A)
    have w:=(i.1 r j).1;obtain⟨K,L⟩:=m _ r.1 w.1 w.2.1;have n:=(uR K L).resolve_left (F r j);rw[<-l]at n;obtain⟨q,hq,e⟩:=qy n;have t:=Lm M q hq;rw[e]at t;have o:r.1∈BL.map (·.1):=Qs (f:=(·.1)) j;have I:=(nW (λ_=>D.non) o).1;have S:=RI i.2 I j rfl;unfold cy eH at t
    ext<;>lia
   .rw[nS,Ye (by rfl)]
    have J:c7 none=.non:=rfl;rw[J]at d a;simp[JB,Yd,b1,b2,a,d,f,bW]
def Hl(A:AE)(r:a9):Prop:=(∀x∈r.1,x∈A)->∃y,r.2=some y/\y∈A
theorem uS{A b fs:AE}(h:kn b fs=true)(a:∀x∈fs,x∈A):∀x∈b,x∈A:=λx c=>by
 unfold kn at h
 ext
theorem zw(h:0<=i/\i<R.length):aw R i∈R:=by
 unfold aw
 ext
theorem Lx(h:r∈R):∃i:Nat,i<R.length/\aw R (i:Int)=r:=by
 obtain⟨i,a,e⟩:=List.mem_iff_getElem.mp h;refine⟨i,a,?_⟩;unfold aw
 ext
structure ez(R:List a9)(K S:AE)(first:AE)(rows:List ey):Prop where
 fK:first.Pairwise (·<·)/\∀y∈first,y∈K
 rs:rows.map (·.1)=S
 rK:∀r∈rows,r.2.Pairwise (·<·)/\(∀y∈r.2,y∈K)/\(r.2.filter λy=>decide (y<r.1))=first.filter λy=>decide (y<r.1)
 h0:∀q∈R,Hl (S++first) q
 hb:∀r∈rows,∀q∈R,Hl ((S.filter λy=>!decide (y=r.1))++r.2) q
noncomputable abbrev ci(js:AE):AF:=js.map λi:Nat=>i
theorem jm:∀{js fs:AE},Der R fs js->bP R fs (ci js)=true
 | [],_,_=>rfl
 | i::js,fs,h=>by
   obtain⟨⟨b,⟨x,c⟩,d⟩,a⟩:=h;show(_&&_)=true;rw[Qe];refine⟨?_,jm a⟩;unfold eZ
   ext
def uT(R:List a9)(js:AE):bg R (ci js)=js.map λi:Nat=>bj (aw R i):=by
 unfold bg;rw[Qf];rfl
theorem Si:∀{p:AF}{fs:AE}{i:Int}{q:AF},bP R fs (p++i::q)=true->bP R fs p=true/\eZ R (fs++bg R p) i=true
 | [],fs,i,q,h=>by
   have h':(eZ R fs i&&bP R (fs++[bj (aw R i)]) q)=true:=h;rw[Qe]at h';refine⟨rfl,?_⟩;have:fs++bg R []=fs:=w6 _;rw[this];exact h'.1
 | a::p,fs,i,q,h=>by
   have h':(eZ R fs a&&bP R (fs++[bj (aw R a)]) (p++i::q))=true:=h;rw[Qe]at h';obtain⟨g1,g2⟩:=Si h'.2;refine⟨?_,?_⟩
   .show(eZ R fs a&&bP R (fs++[bj (aw R a)]) p)=true
    rw[h'.1,g1];rfl
   .have e:fs++bg R (a::p)=(fs++[bj (aw R a)])++bg R p:=by rw[w9];rfl
    rw[e];exact g2
theorem uU(a:bP R fs (ci p)=true)(e:i<R.length)(d:kn (aw R (i:Int)).1 (fs++bg R (ci p))=true)(c:(aw R (i:Int)).2=none\/(aw R (i:Int)).2=b):n5 R b (ci (p++[i])) fs=true:=by
 unfold n5
 ext
theorem Sj(h:cR R fs l js)(j:cR R a k d)(hs:∀x∈a,x∈l):∀x∈k,x∈l:=by
 have v:∀r∈R,r.2≠none->Hl l r:=λr s D F=>by
  obtain⟨i,m,rfl⟩:=Lx s
  cases e:(aw R i).2 with
  | none=>symm
  | some y=>
    refine⟨y,rfl,h.none i m y e ?_⟩;unfold kn
    ext
 have f:∀(b c:_),Der R c b->(∀x∈c,x∈l)->∀x∈c++b.map λi:Nat=>bj (aw R i),x∈l:=λb=>by
  induction b with
  | nil=>simp
  | cons i b u=>
    intro c hd n x g;obtain⟨⟨E,⟨y,q⟩,t⟩,p⟩:=hd;obtain⟨z,A,o⟩:=v _ (zw ⟨by ac_nf,by ac_nf⟩) (by rw[q];simp) (uS t n)
    have C:bj (aw R i)=z:=by unfold bj;rw[A];rfl
    refine u _ p (λw B=>?_) x (by ext);symm
 intro x g;exact f d a j.der hs x ((j.mem x).mp g)
theorem Sk(h:cR R fs l js)(hn:∀r∈R,r.2=none->kn r.1 l=false)(a:∀x,x∈A↔x∈l):∀q∈R,Hl A q:=λq b f=>by
 have d:kn q.1 l=true:=by
  unfold kn
  ext
 cases e:q.2 with
 | none=>
   grind
 | some y=>
   obtain⟨i,c,rfl⟩:=Lx b;exact⟨y,rfl,(a y).mpr (h.none i c y e d)⟩
def j7{α:Type}(enc:α->D)(I:List α->Ro->Prop)(O:D->Prop):∀(l pre:List α) (ρ:Ro),I pre ρ->
 (∀q a r ρ,pre++l=q++a::r->I q ρ->∃ρ1,gt (enc a) ρ=some ρ1/\((∃ρ2,fb ρ1=some (.nx ρ2)/\I (q++[a]) ρ2)\/∃d,fb ρ1=some (.rt d)/\O d))->
 (∃ρ',M.forM gt fb (l.map enc) ρ=some (.nx ρ')/\I (pre++l) ρ')\/∃d,M.forM gt fb (l.map enc) ρ=some (.rt d)/\O d
 | [],pre,ρ,h0,_=>.inl ⟨ρ,rfl,by rw[w6];exact h0⟩
 | a::l,pre,ρ,h0,hs=>by
   obtain⟨ρ1,e1,h⟩:=hs pre a l ρ rfl h0;rw[Qd,M.forM,e1,qd];rcases h with⟨ρ2,e2,h2⟩|⟨d,e2,h2⟩
   .rw[e2,qd]
    have:=j7 enc I O l (pre++[a]) ρ2 h2 λq b r ρ e=>hs q b r ρ (by rw[<-e];simp);rw[w9]at this;exact this
   .rw[e2,qd]
    exact .inr ⟨d,rfl,h2⟩
def Sl(r:a9):Yc (dA r)=some [.tup (r.1.map nD),aq r.2]:=rfl
def dB(l js:AE):D:=.tup [.lst (l.map nD),.tup (js.map nD)]
def zx(l js:AE):Yc (dB l js)=some [.lst (l.map nD),.tup (js.map nD)]:=rfl
def j8(R:List a9)(l:AE)(i:Nat):Bool:=(aw R i).2.isNone&&kn (aw R i).1 l
theorem Yqa(R:List a9)(q:js.length<=1000):
 (∃i,i<R.length/\j8 R l i=true/\tw [Yt R,dB l js]=some (.tup ((js++[i]).map nD)))\/((∀i,i<R.length->j8 R l i=false)/\tw [Yt R,dB l js]=some .non):=by
 rw[tw,Ye (by rfl)];have g:Yd 4 [Yt R,dB l js]=[some _,some _,none,none]:=rfl;rw[g]
 have h:=Ky (gt:=fD 2 3) (fb:=ts) (λi:Nat=>.tup [.int i,dA (aw R i)]) (j8 R l) (λi=>.tup ((js++[i]).map nD)) (λm=>∃y z,m=[↑(Yt R),↑(dB l js),y,z]) (.range R.length)
  _ ⟨none,none,rfl⟩ (by
   rintro i p m ⟨y,z,rfl⟩;refine⟨[some _,some _,some _,some _],rfl,?_⟩;have e:=J3 (d:=.lst _) (aw R i) l rfl;have c:=zx l js;have a:=Sl (aw R i)
   have b:gJ (.tup (js.map nD)) (.tup [.int i])=some (.tup ((js++[i]).map nD)):=by
    rw[wt];exact if_pos (by simp;lia)
   unfold j8
   cases k:(aw R _).2 with
   | some x=>
     left;rw[k]at a;simp only[aq]at a;simp[ts,a,jB]
   | none=>
     rw[k]at a;simp only[aq]at a
     cases d:kn _ l with
     | false=>
       left;rw[d]at e;refine⟨rfl,[some _,some _,↑(.int i),↑(dA (aw R i))],?_,_,_,rfl⟩;simp[ts,a,c,e]
     | true=>
       right;rw[d]at e;refine⟨rfl,?_⟩;generalize (js++[i]).map nD=s at *
       simp[ts,a,c,e,b])
 rw[Q6];rcases h with⟨i,j,f⟩|⟨j,o,f,t⟩
 .left
  have n:=List.mem_of_find?_eq_some j;have r:=List.find?_some j;refine⟨i,Qb n,r,?_⟩;simp[gz,zk,f]
 .right
  refine⟨λi p=>?_,?_⟩
  .simp_all
  .simp[gz,zk,f]
theorem Sn(x:Nat):∀l:AE,(l.map λy:Nat=>(y:Int)).idxOf (x:Int)=l.idxOf x
 | []=>rfl
 | y::l=>by
   rw[Qd,List.idxOf_cons,Sn x l];grind
theorem So{x:Nat}:∀{js:AE},x∈js.map f->∃p i q,js=p++i::q/\f i=x/\js.take ((js.map f).idxOf x+1)=p++[i]
 | [],h=>nomatch h
 | j::js,h=>by
   by_cases e:f j=x
   .refine⟨[],j,js,rfl,e,?_⟩
    ext
   .have a:x∈js.map f:=by
     grind
    obtain⟨p,i,q,b,c,d⟩:=So a;grind
theorem Ly{b:Type}(f:b->D)(l:List b)(k:Nat):bN (l.map f) none (some (k:Int))=(l.take k).map f:=by
 have a:HT.sIx (l.map f).length (l.map f).length (some k)=min k l.length:=by
  have:=HT.sIx_nat (l.map f).length (l.map f).length k;grind
 unfold bN;rw[a,HT.sIx_none]
 ext
theorem Der.mem:∀{b ks:AE},Der R ks b->∀i∈b,i<R.length/\aq (aw R (i:Int)).2=nD (bj (aw R (i:Int)))
 | [],_,_,i,a=>nomatch a
 | j::b,ks,h,i,a=>by
   rcases qu a with rfl|a
   .obtain⟨⟨c,⟨x,d⟩,_⟩,_⟩:=h
    refine⟨c,?_⟩;unfold bj;rw[d];rfl
   .exact Der.mem h.2 i a
theorem Ynm(h:cR R fs l js)(x:Nat):
 (∃(p:AE) (i:Nat) (q:AE),js=p++i::q/\bj (aw R (i:Int))=x/\nQ [Yt R,dB l js,.int (x:Int)]=some (.tup ((p++[i]).map nD)))\/(x∉js.map (λi:Nat=>bj (aw R (i:Int)))/\nQ [Yt R,dB l js,.int (x:Int)]=some .non):=by
 have k:=bG (fe:=Js) (r:=[↑(Yt R)]) (enc:=nD) (λi:Nat=>nD (bj (aw R i))) (λi w=>by
  obtain⟨z,t⟩:=h.der.mem i w;have j:=j3 (R:=R) (i:=i) ⟨by ac_nf,by ac_nf⟩;have f:=Sl (aw R (i:Int));have g:=J2 R
  simp[Js,g,j,f,t])
 have s:(js.map λi:Nat=>nD (bj (aw R (i:Int))))=(js.map λi:Nat=>bj (aw R (i:Int))).map nD:=by ext
 rw[s]at k;have c:=zx l js;have b:=cv (c:=.lst _) x (js.map λi:Nat=>bj (aw R i)) true rfl;by_cases d:x∈js.map λi:Nat=>bj (aw R i)
 .obtain⟨p,i,q,u,r,o⟩:=So d
  refine .inl ⟨p,i,q,u,r,?_⟩
  have m:iZ (.lst ((js.map λi:Nat=>bj (aw R (i:Int))).map nD)) (.int (x:Int))=some (.int ((js.map λi:Nat=>bj (aw R (i:Int))).idxOf x)):=by
   have e:∀L:AE,L.map nD=(L.map λy:Nat=>(y:Int)).map D.int:=λL=>by ext
   rw[e,Hh,if_pos (Qs d),Sn]
  have a:=Ly nD js ((js.map λi:Nat=>bj (aw R (i:Int))).idxOf x+1);rw[o]at a
  have n:(((js.map λi:Nat=>bj (aw R (i:Int))).idxOf x+1:Nat))=((js.map λi:Nat=>bj (aw R (i:Int))).idxOf x:Int)+1:=by ac_nf
  rw[n]at a;simp only[d,if_true]at b;rw[nQ,Ye (by rfl)];generalize (js.map _).map nD=v,(p++[i]).map nD=A at *;simp[Jt,Yd,c,ao,k,b,m,a]
 .refine .inr ⟨d,?_⟩
  simp only[d,if_true]at b;rw[nQ,Ye (by rfl)];generalize (js.map _).map nD=v at *;simp[Jt,Yd,c,ao,k,b]
noncomputable def cz(K l:AE):AE:=K.filter λy=>decide (y∈l)
theorem Sq(K l:AE):tB [.lst (K.map nD),.lst (l.map nD)]=some (.tup ((cz K l).map nD)):=by
 rw[tB,Ye (by rfl)];unfold cz
 simp[Q7,Yd,ao,iX (fc:=Ju) (fe:=Jv) (r:=[↑(.lst (l.map nD))]) (enc:=nD) (λy=>decide (y∈l)) nD (l:=K) (λy _=>by
  simp[Ju,cv (c:=.lst _) y l false rfl]) (λy _ _=>by simp[Jv])]
def fi(x:Nat)(S first:AE):AE:=eF (some x) S++first.filter λy=>decide (y<x)
theorem Yvb{x:Nat}(hS:S.length<=100)(hf:first.length<=100):yS [.int (x:Int),.lst (S.map nD),.tup (first.map nD)]=some (.lst ((fi x S first).map nD)):=by
 have h1:=RZ S (some x)
 have h2:=Lf first x
 have hs:aq (some x)=.int (x:Int):=rfl;rw[hs]at h1;have hwl:(eF (some x) S).length<=100:=Qg (Qn _ _) hS;have hfl:(first.filter λy=>decide (y<x)).length<=100:=Qg (Qn _ _) hf
 have hcat:cu (.lst ((eF (some x) S).map nD)) (.lst ((first.filter λy=>decide (y<x)).map nD))=some ((fi x S first).map nD):=by
  unfold fi;rw[lM (by simp;lia),wt]
 have hlf:∀l:AN,eR [.tup l]=some l:=λ_=>rfl;rw[yS,Ye (by rfl)];generalize (fi x S first).map nD=FB,(eF (some x) S).map nD=W1,(first.filter λy=>decide (y<x)).map nD=F1,S.map nD=SS at *
 generalize first.map nD=FF at *
 simp[Q8,Yd,h1,h2,hlf,hcat]
def mi(R:List a9)(st n:Nat):Prop:=∀r∈R,r.1.Pairwise (·<·)/\(∀x∈r.1,st<=x/\x<n)/\∀x,r.2=some x->st<=x/\x<n
def fP(b:AL)(a js:AF):AN:=[.str "lone",aq b,.tup (a.map .int),.tup (js.map .int)]
def mj(first:AE)(rows:List ey):AN:=[.str "rows",.tup (first.map nD),.tup (rows.map bK)]
theorem mm(l:AE):l.map nD=(ci l).map D.int:=by ext
def gU(R:List a9)(K S:AE)(b:AL)(a js:AF):Prop:=jh R K S b a js=true/\a.length<=100/\js.length<=100
theorem Lz(c:mi R st n)(h:cR R fs l js)(d:x∈l):x∈fs\/(st<=x/\x<n):=by
 rcases qw ((h.mem x).mp d)with w|w
 .exact .inl w
 .obtain⟨i,b,rfl⟩:=qy w
  obtain⟨f,a⟩:=h.der.mem i b
  cases e:(aw R i).2 with
  | none=>rw[e]at a;cases a
  | some y=>
    have:bj (aw R i)=y:=by unfold bj;rw[e];rfl
    rw[this];exact .inr ((c _ (zw (R:=R) (i:=i) ⟨by ac_nf,by ac_nf⟩)).2.2 y e)
def uV(h:cR R fs l js)(a:x∈fs):x∈l:=(h.mem x).mpr (List.mem_append.mpr (.inl a))
theorem LA(h:cR R S l js)(c:i<R.length)(a:j8 R l i=true):gU R K S none [] (ci (js++[i])):=by
 unfold j8 at a;rw[Qe,Option.isNone_iff_eq_none]at a;refine⟨?_,by simp,by have:=h.len;simp;lia⟩;unfold jh;rw[Qe];refine⟨rfl,?_⟩
 have b:eF none S=S:=List.filter_eq_self.mpr λy _=>by simp
 have d:eF none S++eG R K none []=S:=by rw[b];exact w6 _
 rw[d];refine uU (jm h.der) c ?_ (.inl a.1);rw[uT,<-a.2];exact(uC λx=>h.mem x).symm
theorem LB(h:cR R S l js)(a:∀x∈S,x∉K)(x:Nat):fi x S (cz K l)=eF (some x) S++eG R K (some x) (ci js):=by
 unfold fi cz
 congr 1
 rw[List.filter_filter];refine List.filter_congr λy b=>?_
 congr 1
 rw[uT];refine decide_eq_decide.mpr ⟨λw=>?_,λw=>(h.mem y).mpr (List.mem_append.mpr (.inr w))⟩;rcases qw ((h.mem y).mp w)with z|z
 .grind
 .exact z
theorem LC{p q:AE}(h:cR R S l js)(a:∀x∈S,x∉K)(c:x∈S)(d:cR R (fi x S (cz K l)) s (p++i::q))(o:bj (aw R (i:Int))=x):gU R K S (some x) (ci js) (ci (p++[i])):=by
 have f:=d.len;have k:=h.len;refine⟨?_,by simp;lia,by ext<;>lia⟩;unfold jh;rw[Qe];refine⟨?_,?_⟩
 .show(_&&_)=true
  rw[jm h.der,wn c];rfl
 .rw[<-LB h a x]
  have hd:=jm d.der
  have e:ci (p++i::q)=ci p++(i:Int)::ci q:=by
   grind
  rw[e]at hd;obtain⟨m,b⟩:=Si hd;unfold eZ at b;rw[Qe,Qe]at b;obtain⟨r,j,n⟩:=b;refine uU m (by ext) n (.inr ?_);obtain⟨y,g⟩:=Option.isSome_iff_exists.mp j
  have:bj (aw R i)=y:=by unfold bj;rw[g];rfl
  grind
def uW(R:List a9)(K S c:AE)(r:ey):Prop:=∃b a:AE,cR R (fi r.1 S (cz K c)) b a/\r.1∉a.map (λi:Nat=>bj (aw R i))/\r.2=cz K b
theorem LD(E:mi R st n)(p:K.Pairwise (·<·))(C:∀x∈S,x∉K)(t:∀x,st<=x->x<n->x∈S\/x∈K)(h:cR R S l js)(hn:∀i,i<R.length->j8 R l i=false)(o:rows.map (·.1)=S)(g:∀r∈rows,uW R K S l r):ez R K S (cz K l) rows:=by
 have s:∀x∈l,x∈S\/x∈K:=λx b=>by
  rcases Lz E h b with w|w
  .exact .inl w
  ext
 have m:∀r∈R,r.2=none->kn r.1 l=false:=λr g e=>by
  obtain⟨i,D,rfl⟩:=Lx g;have:=hn i D;unfold j8 at this;grind
 refine⟨⟨p.filter _,λy c=>(Qc c).1⟩,o,λr j=>?_,?_,λr j=>?_⟩
 .obtain⟨f,u,b,k,e⟩:=g r j
  have a:=Sj h b λy c=>by
   rcases qw c with w|w
   .exact uV h (Qc w).1
   .exact wq (Qc (Qc w).1).2
  refine⟨by rw[e];exact p.filter _,λy c=>by rw[e]at c;exact(Qc c).1,?_⟩;rw[e];unfold cz;rw[List.filter_filter,List.filter_filter];refine List.filter_congr λy c=>?_;by_cases d:y<r.1
  .have:(y∈f)↔(y∈l):=⟨a y,λw=>uV b (List.mem_append.mpr (.inr (List.mem_filter.mpr ⟨List.mem_filter.mpr ⟨c,wn w⟩,wn d⟩)))⟩
   ext
  .simp[d]
 .refine Sk h m λx=>?_
  rw[List.mem_append];constructor
  .rintro(w|w)
   .exact uV h w
   .exact wq (Qc w).2
  .intro w
   rcases s x w with z|z
   .exact .inl z
   .exact .inr (List.mem_filter.mpr ⟨z,wn w⟩)
 .obtain⟨f,u,b,k,e⟩:=g r j
  have a:=Sj h b λy c=>by
   rcases qw c with w|w
   .exact uV h (Qc w).1
   .exact wq (Qc (Qc w).1).2
  have v:r.1∉f:=λw=>by
   rcases qw ((b.mem _).mp w)with z|z
   .rcases qw z with z|z
    .have:=(Qc z).2
     simp at this
    ext
   grind
  refine Sk b (λq F e=>?_) λx=>?_
  .cases B:kn q.1 f with
   | false=>rfl
   | true=>
     have:kn q.1 l=true:=by
      exact List.all_eq_true.mpr λx b=>wn (uS B a x b)
     grind
  .rw[List.mem_append]
   constructor
   .rintro(w|w)
    .obtain⟨A,G⟩:=Qc w
     refine uV b (List.mem_append.mpr (.inl (List.mem_filter.mpr ⟨A,?_⟩)));grind
    .rw[e]at w
     exact wq (Qc w).2
   .intro w
    rcases s x (a x w)with z|z
    .grind
    .rw[e]
     exact .inr (List.mem_filter.mpr ⟨z,wn w⟩)
def uX(h:K.length<=60):(cz K l).length<=60:=Qg (Qn _ _) h
theorem y2g(hc:Yc c=some (hs.map aK))(hl:hs.length<=60)(hst:st<=hs.length)(j:mi R st hs.length):
 (∃b E js,gU R (ax hs st true) (ax hs st false) b E js/\lY [Yt R,c,.int st]=some (bW true (.tup (fP b E js))))\/
 (∃first rows,ez R (ax hs st true) (ax hs st false) first rows/\lY [Yt R,c,.int st]=some (bW false (.tup (mj first rows)))):=by
 have b1:=Yi hs hc (by lia) st hst true;have b2:=Yi hs hc (by lia) st hst false;simp only[aK,if_true,Qo,if_false]at b1 b2;have a:(ax hs st true).Pairwise (·<·):=List.Pairwise.filter _ List.pairwise_lt_range;have h:=zu (hs:=hs) (st:=st);have f:∀x,st<=x->x<hs.length->x∈ax hs st false\/x∈ax hs st true:=λx h1 h2=>uR h1 h2;have hSl:(ax hs st false).length<=60:=Qg (Qn _ _) (by ext);have U:(ax hs st true).length<=60:=Qg (Qn _ _) (by ext);have C:∀x∈ax hs st false,x<60:=λx V=>Qi (ik V) hl;have hK60:∀x∈ax hs st true,x<60:=λx V=>Qi (ik V) hl;have Y:∀r∈R,∀x,r.2=some x->x<60:=λr t x V=>Qi ((j r t).2.2 x V).2 hl;generalize ax hs st false=S,ax hs st true=K at *;obtain⟨l,js,u,k⟩:=t_ (c:=.lst (S.map nD)) R Y S C (by lia) rfl;have g:lU [Yt R,.lst (S.map nD)]=some (dB l js):=k;clear k;have Q:=zx l js;have hso:=Sq K l;have hst0:Yd 11 [Yt R,c,.int (st:Int)]=[↑(Yt R),↑c,↑(.int st),none,none,none,none,none,none,none,none]:=rfl;rw[lY,Ye (by rfl),hst0];rcases Yqa R (l:=l) (js:=js) (by have:=u.len;lia)with⟨i,hi,hp,J⟩|⟨T,J⟩
 .refine .inl ⟨none,[],ci (js++[i]),LA u hi hp,?_⟩
  have H:D.tup (fP none [] (ci (js++[i])))=.tup [.str "lone",.non,.tup [],.tup ((js++[i]).map nD)]:=by
   unfold fP;rw[<-mm];rfl
  rw[H];clear u f j h a;generalize (js++[i]).map nD=JI,dB l js=fu,S.map nD=SS,K.map nD=KK,Yt R=bk at *;simp[yU,b1,b2,g,J,bW]
 .have A:yU [↑(Yt R),↑c,↑(.int st),none,none,none,none,none,none,none,none] =
   Jw [↑(Yt R),↑c,↑(.int st),↑(.lst (K.map nD)),↑(.lst (S.map nD)),↑(dB l js),↑.non,↑(.tup ((cz K l).map nD)),some (.ow []),none,none]:=by
   clear u f j h a T;generalize (cz K l).map nD=SO at *;generalize l.map nD=LL at *;generalize js.map nD=JJ,dB l js=fu,S.map nD=SS,K.map nD=KK,Yt R=bk at *;simp[yU,b1,b2,g,J,Q,hso,-Jw]
  rw[A]
  have F:=j7 (gt:=aj 9) (fb:=yT) nD (λA ρ=>∃(rows:List ey) (y6 y9 v:AQ),rows.map (·.1)=A/\(∀r∈rows,uW R K S l r)/\
   ρ=[↑(Yt R),↑c,↑(.int st),↑(.lst (K.map nD)),↑(.lst (S.map nD)),↑(dB l js),y6,↑(.tup ((cz K l).map nD)),some (.ow (rows.map bK)),y9,v])
   (λd=>∃b E js,gU R K S b E js/\d=bW true (.tup (fP b E js))) S []
   [↑(Yt R),↑c,↑(.int st),↑(.lst (K.map nD)),↑(.lst (S.map nD)),↑(dB l js),↑.non,↑(.tup ((cz K l).map nD)),some (.ow []),none,none] ⟨[],_,_,_,rfl,λr t=>(nomatch t),rfl⟩ (by
    rintro q x r ρ e ⟨rows,y6,y9,v,z,o,rfl⟩;rw[Qj]at e
    have hxS:x∈S:=by rw[e];simp
    have hrl:rows.length<=1000:=by
     grind
    have O:=Yvb (x:=x) (S:=S) (first:=cz K l) (by lia) (by have:=uX (l:=l) U;lia)
    have hfl:(fi x S (cz K l)).length<=1000:=by
     have g1:(eF (some x) S).length<=S.length:=Qn _ _;have g3:=uX (l:=l) U;unfold fi;grind
    obtain⟨n,I,L,s⟩:=t_ (c:=.lst ((fi x S (cz K l)).map nD)) R Y (fi x S (cz K l)) (λy hy=>by
     rcases qw hy with w|w
     .exact C y (Qc w).1
     grind) hfl rfl
    have m:lU [Yt R,.lst ((fi x S (cz K l)).map nD)]=some (dB n I):=s;clear s;refine⟨[↑(Yt R),↑c,↑(.int st),↑(.lst (K.map nD)),↑(.lst (S.map nD)),↑(dB l js),y6,↑(.tup ((cz K l).map nD)),some (.ow (rows.map bK)),↑(.int (x:Int)),v],rfl,?_⟩;rcases Ynm L x with⟨p,i,q',hj,he,G⟩|⟨M,G⟩
    .right
     rw[hj]at L;refine⟨bW true (.tup (fP (some x) (ci js) (ci (p++[i])))),?_,some x,ci js,ci (p++[i]),LC u h hxS L he,rfl⟩
     have H:D.tup (fP (some x) (ci js) (ci (p++[i])))=.tup [.str "lone",.int (x:Int),.tup (js.map nD),.tup ((p++[i]).map nD)]:=by
      unfold fP;rw[<-mm,<-mm];rfl
     rw[H];clear u f j h a T o L hj;generalize (p++[i]).map nD=PI,(fi x S (cz K l)).map nD=FA at *;generalize (cz K l).map nD=SO at *;generalize l.map nD=LL,js.map nD=JJ,dB n I=fx,dB l js=fu,S.map nD=SS,K.map nD=KK,Yt R=bk,rows.map bK=RW at *;simp[yT,O,m,G,Q,bW]
    .left
     have hsx:=Sq K n;have hfx:=zx n I;have N:∀d:D,cf (rows.map bK) d=some (rows.map bK++[d]):=λd=>xG (by ext<;>lia)
     have Z:(rows++[(x,cz K n)]).map bK=rows.map bK++[.tup [.int (x:Int),.tup ((cz K n).map nD)]]:=by rw[wt];rfl
     refine⟨[↑(Yt R),↑c,↑(.int st),↑(.lst (K.map nD)),↑(.lst (S.map nD)),↑(dB l js),↑.non,↑(.tup ((cz K l).map nD)),some (.ow ((rows++[(x,cz K n)]).map bK)),↑(.int (x:Int)),↑(dB n I)],?_,rows++[(x,cz K n)],_,_,_,by ext,λr t=>?_,rfl⟩
     .rw[Z]
      clear u f j h a T o L M Z;generalize (cz K n).map nD=SX,(fi x S (cz K l)).map nD=FA at *;generalize (cz K l).map nD=SO at *;generalize l.map nD=LL,n.map nD=LX,js.map nD=JJ,I.map nD=JX,dB n I=fx,dB l js=fu,S.map nD=SS,K.map nD=KK,Yt R=bk,rows.map bK=RW at *;simp[yT,O,m,G,hfx,hsx,N]
     .rcases qw t with t|t
      .grind
      .rw[List.mem_singleton]at t
       subst t
       exact⟨n,I,L,M,rfl⟩)
  rcases F with⟨ρ',e1,rows,y6,y9,v,z,o,rfl⟩|⟨d,e1,b,E,js',hW,rfl⟩
  .rw[Qj]at z
   refine .inr ⟨cz K l,rows,LD j a h f u T z o,?_⟩;clear u f j h a T o z A;unfold mj;generalize (cz K l).map nD=SO,dB l js=fu,S.map nD=SS,K.map nD=KK,Yt R=bk,rows.map bK=RW at *;simp[e1,bW]
  .refine .inl ⟨b,E,js',hW,?_⟩
   ext
def eI(l:AX):Prop:=l.length<=2/\l.Nodup
def jn(s:aF):aO (aO s)=s:=by
 simp[aO]
def LF(s:aF):aO s≠s:=by
 obtain⟨a,b⟩:=s;simp[aO]
def ed(L:AW)(s t:aF):Prop:=∃l∈L,aO s∈l/\t∈l/\(t=aO s->l.length=1)
def LG(h:ed L s t):ed L (aO t) (aO s):=by
 obtain⟨l,a,c,d,b⟩:=h;refine⟨l,a,by rwa [jn],c,λe=>b ?_⟩;rw[jn]at e;exact e.symm
inductive Rch (L:AW) (s:aF):aF->Prop
 | refl:Rch L s s
 | step {t u:aF}:Rch L s t->ed L t u->Rch L s u
theorem Rch.trans(h:Rch L s t)(h':Rch L t u):Rch L s u:=by
 induction h' with
 | refl=>exact h
 | step _ e a=>exact .step a e
def Rch.one(h:ed L s t):Rch L s t:=.step .refl h
theorem Rch.skew(h:Rch L s t):Rch L (aO t) (aO s):=by
 induction h with
 | refl=>exact .refl
 | step _ e a=>exact(Rch.one (LG e)).trans a
def LH(e:e_):ic e≠e:=by
 obtain⟨a,b⟩:=e;simp[ic]
def LI(h:s.1∉rows.map (·.1)):cO rows s=(some s.1,s.2):=by
 unfold cO
 have e:rows.find? (λr=>r.1==s.1)=none:=by
  rw[List.find?_eq_none];intro q hq z;exact h (List.mem_map.mpr ⟨q,hq,by simpa using z⟩)
 rw[e]
def LJ(h:s.1∈rows.map (·.1)):∃r∈rows,r.1=s.1/\cO rows s=(r.2.1,s.2==r.2.2):=by
 unfold cO
 cases e:rows.find? (λr=>r.1==s.1)with
 | none=>
   rw[List.find?_eq_none]at e;obtain⟨q,hq,z⟩:=qy h;exact absurd (by simpa using z) (e q hq)
 | some r=>exact⟨r,List.mem_of_find?_eq_some e,by simpa using List.find?_some e,rfl⟩
structure fy(L:AW)(K S:AE)(rows:List c4):Prop where
 ks:rows.map (·.1)=K
 row:∀r∈rows,dQ S r=true
 kept:∀l∈L,ig (l.map (cO rows))=true
inductive cx (L:AW) (K S:AE):Prop
 | broken:[]∈L->cx L K S
 | clash (s:aF):Rch L s (aO s)->Rch L (aO s) s->cx L K S
 | cross (s t:aF):s.1∈S->t.1∈S->s≠t->Rch L s t->cx L K S
 | late (s t:aF):s.1∈S->t.1∈K->t.1<s.1->Rch L s t->Rch L t s->cx L K S
def fQ(L:AW)(S:AE)(k:Nat)(s:aF):Prop:=s.1∈S/\Rch L s (k,true)/\Rch L (k,true) s
def loose(L:AW)(S:AE)(k:Nat):Prop:=∀s,¬fQ L S k s
structure fj(L:AW)(K S:AE)(τ:AH)(rows:List c4):Prop where
 ks:rows.map (·.1)=K
 row:∀r∈rows,(∃s,fQ L S r.1 s/\r.2=(some s.1,s.2))\/(loose L S r.1/\r.2=(none,τ r.1))
structure Tr(L:AW)(K S:AE)(τ:AH):Prop where
 one:∀k∈K,loose L S k->∀s:aF,s.1∈S->∀v,Rch L s (k,v)->τ k=v
 two:∀k∈K,loose L S k->∀j∈K,loose L S j->∀v,Rch L (k,τ k) (j,v)->τ j=v
def Sr(c:¬cx L K S)(hs:s.1∈S)(b:t.1∈S)(h:Rch L s t):s=t:=
 Classical.byContradiction λz=>c (.cross s t hs b z h)
theorem cls(l:∀x∈S,x∉K)(c:fj L K S τ rows)(b:a.1∈S\/a.1∈K):
 (∃e:aF,e.1∈S/\cO rows a=(some e.1,e.2)/\Rch L a e/\Rch L e a)\/(a.1∈K/\loose L S a.1/\cO rows a=(none,a.2==τ a.1)):=by
 rcases b with b|b
 .exact .inl ⟨a,b,LI (by rw[c.ks];grind),.refl,.refl⟩
 .obtain⟨r,o,m,h⟩:=LJ (by rwa [c.ks])
  rcases c.row r o with⟨s,n,g⟩|⟨k,g⟩
  .left
   rw[g]at h;obtain⟨i,d,f⟩:=n;rw[m]at d f;obtain⟨p,j⟩:=a
   cases j with
   | true=>
     refine⟨s,i,?_,f,d⟩
     ext
   | false=>
     refine⟨aO s,i,?_,d.skew,f.skew⟩;rw[h];show(some s.1,_)=(some s.1,!s.2);cases s.2<;>rfl
  ext
def zy(h:((none,true):e_)∈a):ig a=true:=List.any_eq_true.mpr ⟨_,h,by simp⟩
def LK(h:e∈a)(b:ic e∈a):ig a=true:=List.any_eq_true.mpr ⟨e,h,by simp[b]⟩
def LM(h:¬v=a.2):(a.1,v)=aO a:=by
 obtain⟨x,y⟩:=a
 cases v<;>cases y<;>first|rfl|exact absurd rfl h
theorem Ss(c:∀x∈S,x∉K)(t:¬cx L K S)(d:fj L K S τ rows)(i:Tr L K S τ)(r:a.1∈S\/a.1∈K)(o:b.1∈S\/b.1∈K)(h:Rch L (aO a) b):
 cO rows a=(none,true)\/cO rows b=(none,true)\/ic (cO rows a)=cO rows b:=by
 have q:=by
  have:=h.skew
  rwa [jn]at this
 rcases cls c d r with⟨e,n,v,p,w⟩|⟨l,m,y⟩
 .rcases cls c d o with⟨f,j,k,g,s⟩|⟨b1,b2,b3⟩
  .have:=Sr t (s:=aO e) n j ((p.skew.trans h).trans g)
   refine .inr (.inr ?_);rw[v,k,<-this];rfl
  .have:=i.one b.1 b1 b2 (aO e) n b.2 (p.skew.trans h)
   symm
 .by_cases u:τ a.1=a.2
  .simp_all
  .rcases cls c d o with⟨f,j,k,g,s⟩|⟨b1,b2,b3⟩
   .have:=i.one a.1 l m (aO f) j a.2 (g.skew.trans q)
    symm
   .have e:=LM u
    have:=i.two a.1 l m b.1 b1 b2 b.2 ⋯;symm
theorem LN(w:∀l∈L,eI l)(d:∀l∈L,∀s∈l,s.1∈S\/s.1∈K)(g:∀x∈S,x∉K)(i:¬cx L K S)(f:fj L K S τ rows)(m:Tr L K S τ):fy L K S rows:=by
 refine⟨f.ks,λr q=>?_,λl c=>?_⟩
 .rcases f.row r q with⟨s,⟨A,y,v⟩,p⟩|⟨_,p⟩
  .have j:r.1∈K:=by rw[<-f.ks];grind
   have u:s.1<r.1:=by
    rcases Nat.lt_trichotomy s.1 r.1 with h|h|h
    .exact h
    .simp_all
    .exact absurd (.late s _ A j h y v) i
   unfold dQ
   ext
  .unfold dQ
   rw[p]
 .obtain⟨t,n⟩:=w l c
  match l,t,n,c with
  | [],_,_,c=>exact absurd (.broken c) i
  | [a],_,_,c=>
    have h:Rch L (aO a) a:=.one ⟨[a],c,by rw[jn];simp,by simp,λ_=>rfl⟩;have o:=d [a] c a nofun;rcases Ss g i f m o o h with e|e|e
    .exact zy (by simp[e])
    .exact zy (by simp[e])
    .exact absurd e (LH _)
  | [a,b],_,n,c=>
    have k:¬a=b:=by grind
    have h:Rch L (aO a) b:=.one ⟨[a,b],c,by rw[jn];simp,by simp,λz=>absurd (by rw[z,jn]) k⟩;rcases Ss g i f m (d _ c a nofun) (d _ c b nofun) h with e|e|e
    .exact zy (by simp[e])
    .exact zy (by simp[e])
    .exact LK (e:=cO rows a) nofun (by rw[e];simp)
def mn(L:AW)(s:aF)(f g:Nat->Option Bool):Prop:=∀j,(∀v,Rch L s (j,v)->(g j).isSome=true)/\(∀v,g j=some v->Rch L s (j,v)\/((∀u,¬Rch L s (j,u))/\f j=some v))/\((∀u,¬Rch L s (j,u))->g j=f j)
structure uY(L:AW)(T:AX)(f:Nat->Option Bool):Prop where
 up:∀j v,f j=some v->∃s∈T,Rch L s (j,v)
 dom:∀j,∀s∈T,∀v,Rch L s (j,v)->(f j).isSome=true
def LO(L:AW):uY L [] λ_=>none:=⟨λj v h=>(nomatch h),λj s a=>nomatch a⟩
theorem LP(h:uY L T f)(a:mn L s f g):uY L (T++[s]) g:=by
 refine⟨λj v e=>?_,λj t b v c=>?_⟩
 .rcases(a j).2.1 v e with w|⟨_,w⟩
  .grind
  .obtain⟨t,b,c⟩:=h.up j v w
   grind
 .by_cases z:∃u,Rch L s (j,u)
  .obtain⟨u,d⟩:=z
   exact(a j).1 u d
  .rw[(a j).2.2 (λu a=>z ⟨u,a⟩)]
   rcases qw b with b|b
   .exact h.dom j t b v c
   grind
def LQ(k:Nat)(v:Bool):aO (k,v)=(k,!v):=rfl
def LR(nb:¬cx L K S)(hlo:loose L S k)(hs:s.1∈S)(ht:t.1∈S)(h1:Rch L s (k,v))(h2:Rch L t (k,u)):v=u:=by
 refine Classical.byContradiction λz=>?_
 have e:(k,u)=aO (k,v):=by
  rw[LQ]
  cases v<;>cases u<;>first|rfl|exact absurd rfl z
 rw[e]at h2;have h3:=h2.skew;rw[jn]at h3;have h4:=Sr nb (s:=s) (t:=aO t) hs ht (h1.trans h3)
 have h5:Rch L (k,v) s:=by rw[h4];exact h3
 cases v with
 | true=>exact hlo s ⟨hs,h1,h5⟩
 | false=>
   refine hlo (aO s) ⟨hs,?_,?_⟩
   .have:=h5.skew
    exact this
   .have:=h1.skew
    exact this
structure n8(L:AW)(K S:AE)(f:Nat->Option Bool):Prop where
 one:∀k,loose L S k->∀s:aF,s.1∈S->∀v,Rch L s (k,v)->f k=some v
 two:∀k j,loose L S k->loose L S j->∀v u,f k=some v->Rch L (k,v) (j,u)->f j=some u
 dom:∀k,¬loose L S k->(f k).isSome=true
theorem LS(r:¬cx L K S)(d:∀s:aF,s∈T↔s.1∈S)(h:uY L T f):n8 L K S f:=by
 have c:∀k,_->∀s,_->∀v,_->f k=some v:=λk m s i v g=>by
  have hd:=h.dom k s ((d s).mpr i) v g
  cases e:f k with
  | none=>grind
  | some u=>
    obtain⟨t,l,a⟩:=h.up k u e;rw[LR r m i ((d t).mp l) g a]
 refine⟨c,λk j n q v u e g=>?_,λk n=>?_⟩
 .obtain⟨t,l,a⟩:=h.up k v e
  exact c j q t ((d t).mp l) u (a.trans g)
 .have:∃s,_:=Classical.byContradiction λz=>n λs i=>z ⟨s,i⟩
  obtain⟨s,p,o,_⟩:=this;exact h.dom k s ((d s).mpr p) _ o
def uZ(L:AW)(k:Nat)(l:aF):Prop:=l.1=k/\¬Rch L l (aO l)
theorem LU(G:¬cx L K S)(h:n8 L K S f)(E:f k=none)(p:uZ L k l)(b:mn L l f g):n8 L K S g/\(g k).isSome=true/\∀j,(f j).isSome=true->(g j).isSome=true:=by
 have q:=Classical.byContradiction λz=>by
  have:=h.dom k z;grind
 have y:∀j v u,Rch L l (j,v)->Rch L l (j,u)->v=u:=λj v u B t=>by
  refine Classical.byContradiction λz=>p.2 ?_
  have e:(j,u)=aO (j,v):=by
   cases v<;>cases u<;>first|rfl|grind
  rw[e]at t;have m:=t.skew;rw[jn]at m;exact B.trans m
 have o:∀j v,_->g j=some v:=λj v n=>by
  have hd:=(b j).1 v n
  cases e:g j with
  | none=>grind
  | some u=>
    rcases(b j).2.1 u e with w|⟨w,_⟩
    .grind
    grind
 have c:∀j,_->∀v,_->g j=some v:=λj d v e=>by
  by_cases z:∃u,Rch L l (j,u)
  .obtain⟨u,x⟩:=z
   have:u=v:=Classical.byContradiction λF=>by
    have A:(j,u)=aO (j,v):=by
     cases v<;>cases u<;>first|rfl|grind
    rw[A]at x;have m:=x.skew;rw[jn]at m
    have r:aO l=(k,!l.2):=by rw[<-p.1];rfl
    rw[r]at m;have:=h.two j k d q v _ e m;grind
   grind
  .rw[(b j).2.2 λu b=>z ⟨u,b⟩]
   exact e
 refine⟨⟨λj d s D v n=>c j d v (h.one j d s D v n),λi j C d v u e n=>?_,λj d=>?_⟩,?_,λj d=>?_⟩
 .rcases(b i).2.1 v e with w|⟨_,w⟩
  .exact o j u (w.trans n)
  .exact c j d u (h.two i j C d v u w n)
 .have hd:=h.dom j d
  by_cases z:∃u,Rch L l (j,u)
  .grind
  .rw[(b j).2.2 λu b=>z ⟨u,b⟩]
   exact hd
 .have:Rch L l (k,l.2):=by rw[<-p.1];exact .refl
  grind
 .by_cases z:∃u,Rch L l (j,u)
  .grind
  .rw[(b j).2.2 λu b=>z ⟨u,b⟩]
   exact d
theorem LV(h:n8 L K S f)(hd:∀k∈K,(f k).isSome=true):Tr L K S λk=>(f k).getD false:=by
 have g:∀k∈K,f k=some ((f k).getD false):=λk b=>by
  cases e:f k with
  | none=>grind
  | some v=>rfl
 refine⟨λk b a s i v c=>?_,λk b a j l d v c=>?_⟩
 .rw[h.one k a s i v c]
  rfl
 .rw[h.two k j a d _ v (g k b) c]
  rfl
noncomputable def kN(s:aF):AF:=[s.1,if s.2 then 1 else 0]
theorem mq(h:kN s=kN t):s=t:=by
 unfold kN at h;grind
def zz(s:aF):eV (af s)=some (kN s):=rfl
theorem n9:∀l:AX,fE (l.map af)=some (l.map kN)
 | []=>rfl
 | s::l=>by
   rw[Qd,fE,n9 l];rfl
def mem_kN{l:AX}:kN s∈l.map kN↔s∈l:=by
 constructor
 .intro h
  obtain⟨t,ht,e⟩:=qy h;rw[<-mq e];exact ht
 .exact λh=>Qs h
def Su(a:Bool)(s:aF)(l:AX)(vs:AN):cZ a (af s) (.dct true (l.map af) vs)=some (decide (s∈l)!=a):=by
 show(fE _).bind _=_;rw[n9,qd,zz,Option.map_some,decide_eq_decide.mpr mem_kN]
def cq:Option aF->D
 | none=>.non
 | some s=>af s
abbrev Wy:=List (aF×Option aF)
noncomputable def ay(W:Wy):AX:=W.map (·.1)
def bS(W:Wy):D:=.dct true ((ay W).map af) (W.map λp=>cq p.2)
structure WOk(L:AW)(s:aF)(W:Wy):Prop where
 nd:(ay W).Nodup
 hd:∃X,W=(s,none)::X
 par:∀i p,W[i]?=some p->0<i->∃(k:Nat) (q:aF×Option aF),k<i/\W[k]?=some q/\p.2=some q.1/\p.1∈bR L q.1
theorem LW(h:WOk L s W){j:Nat}(hj:W[j]?=some q)(ht:t∈bR L q.1)(hn:t∉ay W):WOk L s (W++[(t,some q.1)]):=by
 refine⟨?_,?_,λi p hi hp=>?_⟩
 .unfold ay
  rw[wt,List.nodup_append];refine⟨h.nd,by simp,λx hx y hy e=>?_⟩;simp at hy;subst hy e;exact hn hx
 .obtain⟨X,e⟩:=h.hd
  exact⟨X++[(t,some q.1)],by rw[e];rfl⟩
 .by_cases hlt:i<W.length
  .rw[List.getElem?_append_left hlt]at hi
   obtain⟨k,r,h1,h2,h3⟩:=h.par i p hi hp;exact⟨k,r,h1,by rw[List.getElem?_append_left ∅];exact h2,h3⟩
  .rw[List.getElem?_append_right ∅]at hi
   have hi0:i-W.length=0:=by
    by_cases z:i-W.length=0
    .exact z
    .rw[List.getElem?_eq_none (by simp;ac_nf)]at hi
     cases hi
   rw[hi0]at hi;have:p=(t,some q.1):=(w4 hi).symm;subst this;have hjl:j<W.length:=(qo hj).1;exact⟨j,q,by ac_nf,by rw[List.getElem?_append_left hjl];exact hj,rfl,ht⟩
def dV(bk:D)(s:aF)(W:Wy)(j:Nat)(y:AQ):Ro:=[↑bk,↑(af s),some (.od true ((ay W).map af) (W.map λp=>cq p.2)),some (.ow ((ay W).map af)),↑(.int j),y]
theorem LY(a:W.length<=1000)(hn:t∉ay W)(d:D):lj ((ay W).map af) (W.map λp=>cq p.2) (af t) d=some ((ay W).map af++[af t],(W.map λp=>cq p.2)++[d]):=by
 unfold lj;rw[n9,qd,zz,qd,if_pos (by rw[qf];show _<1000000;ac_nf),if_neg (λz=>hn (mem_kN.mp z))]
theorem LZ:∀(b:AX) (W:Wy) (y:AQ),WOk L s W->W.length+b.length<=1000->W[j]?=some q->(∀t∈b,t∈bR L q.1)->
 ∃(X:Wy) (g:AQ),WOk L s (W++X)/\(∀t∈b,t∈ay (W++X))/\(∀p∈X,p.1∈b)/\M.forM (aj 5) nB (b.map af) (dV bk s W j y)=some (.nx (dV bk s (W++X) j g))
 | [],W,y,v,_,_,_=>⟨[],y,by grind,λt h=>(nomatch h),λp l=>(nomatch l),by rw[w6];rfl⟩
 | t::b,W,y,v,O,w,h=>by
   have N:aX ((ay W).map af) (j:Int)=some (af q.1):=by
    have K:j<W.length:=(qo w).1;rw[f7]
    have:(ay W)[j]?=some q.1:=by unfold ay;grind
    rw[mN this];rfl
   rw[Qd,M.forM];have H:aj 5 (af t) (dV bk s W j y)=some (dV bk s W j (↑(af t))):=rfl;rw[H,qd]
   have G:W.length+b.length+1<=1000:=by omega
   have n:=Su true t (ay W) (W.map λp=>cq p.2);by_cases d:t∈ay W
   .have A:nB (dV bk s W j (↑(af t)))=some (.nx (dV bk s W j (↑(af t)))):=by
     simp only[d,decide_true]at n;unfold dV;generalize (ay W).map af=c,(W.map λp=>cq p.2)=k,af t=f,af s=m at *;simp[nB,n]
    obtain⟨X,g,o,D,F,r⟩:=LZ b W (↑(af t)) v (by lia) w λu a=>h u (qg _ a);refine⟨X,g,o,λu a=>?_,λp l=>qg _ (F p l),?_⟩
    .rcases qu a with rfl|a
     .unfold ay
      rw[wt];exact List.mem_append.mpr (.inl d)
     grind
    .rw[A,qd]
     exact r
   .have z:=LW v w (h t nofun) d
    have A:nB (dV bk s W j (↑(af t)))=some (.nx (dV bk s (W++[(t,some q.1)]) j (↑(af t)))):=by
     simp only[d,decide_false]at n;have l:=LY (by lia) d (af q.1);have e:cf ((ay W).map af) (af t)=some ((ay W).map af++[af t]):=xG (by unfold ay;simp;lia)
     have E:(ay (W++[(t,some q.1)])).map af=(ay W).map af++[af t]:=by unfold ay;grind
     have C:((W++[(t,some q.1)]).map λp=>cq p.2)=(W.map λp=>cq p.2)++[af q.1]:=by rw[wt];rfl
     unfold dV;rw[E,C];clear E C;generalize (ay W).map af=c,(W.map λp=>cq p.2)=k,af t=f,af s=m,af q.1=J at *;have I:iL 2 [↑bk,↑m,some (.od true c k),some (.ow c),↑(.int (j:Int)),↑f]=some (c,k):=rfl
     have i:iM 2 (aa 5) (b2 (aa 3) (aa 4) ai) [↑bk,↑m,some (.od true c k),some (.ow c),↑(.int (j:Int)),↑f]=some (.nx [↑bk,↑m,some (.od true (c++[f]) (k++[J])),some (.ow c),↑(.int (j:Int)),↑f]):=by
      unfold iM
      ext
     simp[nB,n,i,e]
    have x:(W++[(t,some q.1)])[j]?=some q:=by
     grind
    obtain⟨X,g,o,D,F,r⟩:=LZ b (W++[(t,some q.1)]) (↑(af t)) z (by ext<;>lia) x λu a=>h u (qg _ a);rw[w9]at o D r;refine⟨[(t,some q.1)]++X,g,o,λu a=>?_,λp l=>?_,?_⟩
    .rcases qu a with rfl|a
     .unfold ay
      grind
     grind
    .grind
    .rw[A,qd]
     exact r
theorem u7(hn:(ay W).Nodup)(h:∀s∈ay W,s.1<60):W.length<=120:=by
 have hm:((ay W).map λs:aF=>2*s.1+(if s.2 then 1 else 0)).Nodup:=by
  rw[List.Nodup,List.pairwise_map];refine hn.imp λ{a b} hab e=>hab ?_;obtain⟨a1,a2⟩:=a;obtain⟨b1,b2⟩:=b
  cases a2<;>cases b2<;>simp at e<;>first|(exfalso;lia)|(rw[show a1=b1 by lia])
 have:=nX 120 _ hm λx hx=>by
  obtain⟨s,hs,rfl⟩:=qy hx;have:=h s hs;cases s.2<;>simp<;>lia
 simpa [ay]using this
def L0(c:∀l∈L,∀s∈l,s.1<60)(h:t∈bR L s):t.1<60:=by
 obtain⟨l,b,e⟩:=List.mem_filterMap.mp h;unfold i9 at e
 split at e
 .rename_i d
  injection e with e;subst e
  cases f:l.filter _ with
  | nil=>exact c l b _ d
  | cons a r=>
    have:a∈l.filter λt=>!decide (t=aO s):=by rw[f];simp
    exact c l b a (Qc this).1
 .cases e
def zA(L:AW)(W:Wy)(j:Nat):Prop:=∀k q,W[k]?=some q->k<j->∀t∈bR L q.1,t∈ay W
theorem y85(u:L.length<=500)(J:∀l∈L,∀s∈l,s.1<60):∀(m a j:Nat) (W:Wy) (y:AQ),121<=j+m->m+1<=a->WOk L s W->(∀t∈ay W,t.1<60)->j<=W.length->zA L W j->
 ∃(f:Wy) (C:Nat) (x:AQ),WOk L s f/\(∀t∈ay f,t.1<60)/\zA L f f.length/\dw (b2 (aa 4) (cC (Yb (aa 3) ae) bO) eQ) sD a (dV (aR L) s W j y)=some (.nx (dV (aR L) s f C x)):=by
 intro m
 induction m with
 | zero=>
   intro a j W y S K n c O E;have:=u7 n.nd c;omega
 | succ m N=>
   intro a j W y S K n c O E
   cases a with
   | zero=>ext
   | succ a=>
     have d:(b2 (aa 4) (cC (Yb (aa 3) ae) bO) eQ) (dV (aR L) s W j y)=some (decide (j<W.length)):=by
      have F:(((ay W).map af).length:Int)=(W.length:Int):=by unfold ay;simp
      unfold dV
      ext
     rw[dw,d];by_cases w:j<W.length
     .have H:W[j]?=some W[j]:=qr w
      have i:=RU (L:=L) (by lia) W[j].1;have M:=u7 n.nd c;have T:(bR L W[j].1).length<=500:=Qg (List.length_filterMap_le _ _) u;obtain⟨X,A,R,k2,Q,D⟩:=LZ (bk:=aR L) (j:=j) (q:=W[j]) (bR L W[j].1) W y n (by lia) H λt b=>b
      have r:sD (dV (aR L) s W j y)=some (.nx (dV (aR L) s (W++X) (j+1) A)):=by
       have v:aX ((ay W).map af) (j:Int)=some (af W[j].1):=by
        rw[f7]
        have:(ay W)[j]?=some W[j].1:=by unfold ay;ext
        rw[mN this];rfl
       have h:((j+1:Nat):Int)=(j:Int)+1:=by lia
       unfold dV at D ⊢;rw[h];generalize ((W++X).map λp=>cq p.2)=VX,(ay W).map af=Y,af W[j].1=Z,af s=V,aR L=bk at *;simp[sD,v,i,D]
      have g:∀t∈ay (W++X),t.1<60:=λt b=>by
       unfold ay at b;rw[wt]at b;rcases qw b with b|b
       .exact c t b
       .obtain⟨p,G,rfl⟩:=qy b
        exact L0 J (Q p G)
      have o:zA L (W++X) (j+1):=λk q z I t b=>by
       by_cases e:k=j
       .grind
       .rw[List.getElem?_append_left (by grind)]at z
        have:=E k q z (by lia) t b;unfold ay at this ⊢;grind
      obtain⟨f,C,x,U,r2,r3,r4⟩:=N a (j+1) (W++X) A (by lia) (by lia) R g (by grind) o;grind
     grind
structure fm(L:AW)(s:aF)(W:Wy):Prop extends WOk L s W where
 cl:zA L W W.length
 lt:∀t∈ay W,t.1<60
theorem y4w(hLl:L.length<=500)(hL:∀l∈L,∀s∈l,s.1<60)(hs:s.1<60):∃W:Wy,fm L s W/\nC [aR L,af s]=some (bS W):=by
 have h0:WOk L s [(s,none)]:=⟨by simp[ay],⟨[],rfl⟩,λi p hi hp=>by
  rw[List.getElem?_eq_none (by simp;lia)]at hi
  cases hi⟩
 obtain⟨W,j,y,h1,h2,h3,h4⟩:=y85 hLl hL (s:=s) 121 4000 0 [(s,none)] none (by lia) (by lia) h0 (λt ht=>by simp[ay]at ht;rw[ht];exact hs) (Qh _) (λk q _ hk=>by lia);refine⟨W,{h1 with cl:=h3,lt:=h2},?_⟩;rw[nC,Ye (by rfl)];have hst0:Yd 6 [aR L,af s]=[↑(aR L),↑(af s),none,none,none,none]:=rfl;have hdisp:ll 2 (ab 1) (kD .non) [↑(aR L),↑(af s),none,none,none,none]=some (.nx [↑(aR L),↑(af s),some (.od true [af s] [.non]),none,none,none]):=rfl;rw[hst0,HL,h9,hdisp,qd,nj];have h4':dw (b2 (aa 4) (cC (Yb (aa 3) ae) bO) eQ) sD 4000 [↑(aR L),↑(af s),some (.od true [af s] [.non]),some (.ow [af s]),↑(.int 0),none]=some (.nx (dV (aR L) s W j y)):=h4;have h5:x4 (dV (aR L) s W j y)=some (.rt (bS W)):=rfl;generalize dV (aR L) s W j y=sw,bS W=wd,af s=ds,aR L=bk at *;simp[h4',h5,-x4]
theorem mu(j:∀l∈L,eI l):t∈bR L s↔ed L s t:=by
 unfold bR ed;rw[List.mem_filterMap];constructor
 .rintro⟨l,g,e⟩
  unfold i9 at e
  split at e
  .rename_i i
   injection e with e
   cases k:l.filter _ with
   | nil=>
     rw[k]at e;refine⟨l,g,i,by grind,λ_=>?_⟩
     have c:∀x∈l,x=aO s:=λx o=>by
      grind
     obtain⟨_,f⟩:=j l g
     match l,f,i,c with
     | [a],_,_,_=>rfl
     | a::b::r,f,_,c=>
       ext
   | cons a r=>
     grind
  .cases e
 .rintro⟨l,g,d,h,m⟩
  refine⟨l,g,?_⟩;unfold i9;obtain⟨n,f⟩:=j l g;by_cases e:t=aO s
  .match l,m e,d with
   | [a],_,d=>
     ext
  .have k:l.filter (λt=>!decide (t=aO s))=[t]:=by
    match l,n,f,d,h with
    | [a],_,_,d,h=>
      (simp at*;lia)
    | [a,b],_,f,d,h=>
      grind
   ext
theorem zB(f:∀l∈L,eI l)(h:fm L s W):t∈ay W↔Rch L s t:=by
 have b:∀(n i:Nat) p,i<n->W[i]?=some p->Rch L s p.1:=λn=>by
  induction n with
  | zero=>ext
  | succ n d=>
    intro i p c a;by_cases r:i=0
    .subst r
     obtain⟨X,e⟩:=h.hd;rw[e]at a;cases a;exact .refl
    .obtain⟨k,q,u,g,v,o⟩:=h.par i p a (by lia)
     exact .step (d k q (by lia) g) ((mu f).mp o)
 constructor
 .intro m
  obtain⟨p,a,rfl⟩:=qy m;obtain⟨i,c,e⟩:=List.mem_iff_getElem.mp a;exact b (i+1) i p (by lia) (by ext)
 .intro j
  induction j with
  | refl=>
    obtain⟨X,e⟩:=h.hd;rw[e];constructor<;>lia
  | step _ e d=>
    obtain⟨p,a,rfl⟩:=qy d;obtain⟨i,c,w⟩:=List.mem_iff_getElem.mp a;exact h.cl i p (by ext) c _ ((mu f).mpr e)
inductive eA (L:AW) (s:aF):AX->aF->Prop
 | one:eA L s [s] s
 | cons {p:AX}{q t:aF}:eA L s p q->t∈bR L q->eA L s (t::p) t
theorem L1:∀{W:List (aF×b)}{i:Nat}{p:aF×b},(W.map (·.1)).Nodup->W[i]?=some p->Yn ((W.map (·.1)).map kN) (W.map (·.2)) (kN p.1)=some p.2
 | [],i,p,_,h=>by simp at h
 | w::W,i,p,a,h=>by
   rw[Qd,List.nodup_cons]at a;rw[Qd,Qd,Qd,Yn]
   cases i with
   | zero=>
     ext
   | succ i=>
     rw[List.getElem?_cons_succ]at h;rw[if_neg (λz=>a.1 (by rw[mq z];exact(Qs (f:=(·.1)) (List.mem_of_getElem? h))))];exact L1 a.2 h
theorem L4(hn:(ay W).Nodup){i:Nat}(h:W[i]?=some p):bV (bS W) (af p.1)=some (cq p.2):=by
 show(fE _).bind _=_;rw[n9,zz];have:=L1 (W:=W.map λp=>(p.1,cq p.2)) (i:=i) (p:=(p.1,cq p.2)) (by rwa [Qf]) (by ext)
 have a:((W.map λp=>(p.1,cq p.2)).map (·.1))=ay W:=by rw[Qf];rfl
 have b:((W.map λp=>(p.1,cq p.2)).map (·.2))=W.map λp=>cq p.2:=by ext
 ext
theorem y86(h:WOk L s W)(C:W.length<=120)(d:AQ):∀(n a i:Nat) (p:aF×Option aF) (R:AX),i<n->i+2<=a->R.length+i<=500->W[i]?=some p->
 ∃b:AX,eA L s b p.1/\b.length<=i+1/\dw (b2 (aa 3) (kD .non) (cc true)) xZ a [↑(bS W),d,some (.ow (R.map af)),↑(af p.1)]=some (.nx [↑(bS W),d,some (.ow ((R++b).map af)),↑.non]):=by
 intro n
 induction n with
 | zero=>symm
 | succ n r=>
   intro a i p R A E v l
   cases a with
   | zero=>ext
   | succ a=>
     have c:∀(x:aF) (R:AX),b2 (aa 3) (kD .non) (cc true) [↑(bS W),d,some (.ow (R.map af)),↑(af x)]=some true:=λx R=>rfl;have j:∀R:AX,b2 (aa 3) (kD .non) (cc true) [↑(bS W),d,some (.ow (R.map af)),↑.non]=some false:=λR=>rfl;have u:=L4 h.nd l
     have f:xZ [↑(bS W),d,some (.ow (R.map af)),↑(af p.1)]=some (.nx [↑(bS W),d,some (.ow ((R++[p.1]).map af)),↑(cq p.2)]):=by
      have g:cf (R.map af) (af p.1)=_:=xG ⋯;rw[wt];have m:[p.1].map af=[af p.1]:=rfl;rw[m];simp[xZ,g,u]
     rw[dw,c,qd,if_pos rfl,f,qd];by_cases o:i=0
     .subst o
      obtain⟨X,e⟩:=h.hd;rw[e]at l;cases l;refine⟨[s],.one,by simp,?_⟩
      cases a with
      | zero=>ext
      | succ a=>
        show dw _ _ (a+1) [_,d,some (.ow ((R++[s]).map af)),↑.non]=_;rw[dw,j,qd,if_neg qi]
     .obtain⟨k,q,D,t,y,w⟩:=h.par i p l ∅
      obtain⟨b,b1,z,b3⟩:=r a k q (R++[p.1]) ∅ ∅ (by simp;ac_nf) t;refine⟨p.1::b,.cons b1 w,by simp;ac_nf,?_⟩;rw[y]
      have e:R++p.1::b=(R++[p.1])++b:=by simp
      rw[e];exact b3
structure cG(L:AW)(s t:aF)(r:AX):Prop where
 ok:fL L r=true
 fst:cT r 0=s
 lst:i_ r=t
 len:r.length<=120
theorem zC(h:i<r.length)(x:aF):cT (r++[x]) i=cT r i:=by
 unfold cT;grind
def u9(r:AX)(x:aF):cT (r++[x]) r.length=x:=by
 unfold cT;simp
theorem L5(h:eA L s b t):fL L b.reverse=true/\cT b.reverse 0=s/\i_ b.reverse=t:=by
 induction h with
 | one=>
   refine⟨?_,rfl,rfl⟩;unfold fL;simp
 | @cons p q t _ d j=>
   obtain⟨a,l,f⟩:=j;rw[List.reverse_cons];refine⟨?_,by rwa [zC (uB a)],?_⟩
   .unfold fL at a ⊢
    rw[Qe,List.all_eq_true]at a ⊢;refine⟨by simp,λi k=>?_⟩;have c:=Qb k;rw[qz,ja]at c;unfold uA;by_cases e:i+1<p.reverse.length
    .have:=a.2 i (List.mem_range.mpr (by omega))
     rwa [zC e,zC (by ext)]
    .have g:i+1=p.reverse.length:=by lia
     rw[g,u9,zC (by ext)]
     have:cT p.reverse i=q:=by
      rw[<-f]
      congr 1
      grind
     rw[this];exact wn d
   .unfold i_
    rw[qz,ja,Nat.add_sub_cancel,u9]
theorem u_(h:fm L s W)(g:t∈ay W):∃r:AX,cG L s t r/\jU [bS W,af t]=some (.tup (r.map af)):=by
 obtain⟨p,o,rfl⟩:=qy g;obtain⟨i,u,e⟩:=List.mem_iff_getElem.mp o;have l:=u7 h.nd h.lt;obtain⟨b,b1,m,b3⟩:=y86 h.toWOk l (↑(af p.1)) (i+1) 4000 i p [] (by lia) (by lia) (by simp;lia) (by grind);obtain⟨f,n,k⟩:=L5 b1;refine⟨b.reverse,⟨f,n,k,by ext<;>lia⟩,?_⟩;rw[jU,Ye (by rfl)];have a:Yd 4 [bS W,af p.1]=[_,_,none,none]:=rfl;rw[a];rw[Qj,List.map_nil]at b3;rw[List.map_reverse];generalize b.map _=d,bS W=q,af p.1=j at *;have c:k8 (aa 2) [↑q,↑j,some (.ow d),↑.non]=some _:=rfl;simp[PD,b3,c]
noncomputable def aN(B:AE):AX:=B.flatMap λb=>[(b,false),(b,true)]
theorem mem_sayL{B:AE}:s∈aN B↔s.1∈B:=by
 unfold aN;rw[List.mem_flatMap];constructor
 .grind
 .intro h
  refine⟨s.1,h,?_⟩;obtain⟨a,b⟩:=s;cases b<;>simp
theorem L6(B:AE):(aN B).length=2*B.length:=by
 induction B with
 | nil=>rfl
 | cons b B a=>
   have:aN (b::B)=_++aN B:=rfl
   ext<;>lia
theorem n_{B:AE}(i:Yc c=some (B.map nD))(n:B.length<=1000):gg [c]=some (.lst ((aN B).map af)):=by
 obtain⟨k,j,g,rfl⟩:=gM (gt:=aj 2) (fb:=IJ) nD (λd h=>∃g:Option M.B,h=[↑c,some (.ow ((aN d).map af)),g]) B []
  [↑c,some (.ow []),none] ⟨none,rfl⟩ (by
   rintro q b r h e ⟨g,rfl⟩
   have m:q.length<=1000:=by
    ext<;>lia
   refine⟨_,[↑c,some _,↑(nD b)],rfl,?_,_,rfl⟩
   have f:(aN (q++[b])).map af=(aN q).map af++[.tup [.int (b:Int),.bl false],.tup [.int (b:Int),.bl true]]:=by
    unfold aN;rw[List.flatMap_append,wt];rfl
   have l:=L6 q
   have a:gA ((aN q).map af) (.lst [.tup [.int (b:Int),.bl false],.tup [.int (b:Int),.bl true]])=some ((aN q).map af++[.tup [.int (b:Int),.bl false],.tup [.int (b:Int),.bl true]]):=by
    unfold gA;simp;lia
   rw[f]
   simp[IJ,a])
 rw[gg,Ye (by rfl)];simp[IK,Yd,i,j]
def aT(A:AX)(wf:aF->Wy):D:=.dct true (A.map af) (A.map λs=>bS (wf s))
theorem il(hn:A.Nodup)(h:s∈A):bV (aT A wf) (af s)=some (bS (wf s)):=by
 show(fE (A.map af)).bind _=_;rw[n9,qd,zz,qd];obtain⟨i,hi,e⟩:=List.mem_iff_getElem.mp h;have:=L1 (W:=A.map λs=>(s,bS (wf s))) (i:=i) (p:=(s,bS (wf s))) (by rw[Qf];simpa [wu]using hn) (by rw[Qm,qr hi,e];rfl)
 have e1:((A.map λs=>(s,bS (wf s))).map (·.1))=A:=by rw[Qf];simp[wu]
 have e2:((A.map λs=>(s,bS (wf s))).map (·.2))=A.map λs=>bS (wf s):=by rw[Qf];rfl
 rw[e1,e2]at this;exact this
structure d5(L:AW)(A:AX)(wf:aF->Wy):Prop where
 nd:A.Nodup
 all:∀s∈A,fm L s (wf s)
def zD(t:aF):cZ false (af t) (bS W)=some (decide (t∈ay W)):=by
 unfold bS;rw[Su];simp
def mv(h:d5 L A wf)(hs:s∈A)(d:t∈A):y0 [aT A wf,af s,af t]=some (.bl (decide (t∈ay (wf s))&&decide (s∈ay (wf t)))):=by
 have c:=il (wf:=wf) h.nd hs;have a:=zD (W:=wf s) t;rw[y0,Ye (by rfl)]
 cases b:decide (t∈ay _)with
 | true=>
   rw[b]at a;simp[IL,Yd,c,il (wf:=wf) h.nd d,a,zD (W:=wf t) s]
 | false=>
   rw[b]at a;simp[IL,Yd,c,a]
inductive bc (L:AW) (K S:AE):D->Prop
 | clash {s:aF}{a b:AX}:cG L s (aO s) a->cG L (aO s) s b->bc L K S (.tup [.str "clash",.tup (a.map af),.tup (b.map af)])
 | cross {s t:aF}{a:AX}:s.1∈S->t.1∈S->s≠t->cG L s t a->bc L K S (.tup [.str "cross",.tup (a.map af)])
 | late {s t:aF}{a b:AX}:s.1∈S->t.1∈K->t.1<s.1->cG L s t a->cG L t s b->bc L K S (.tup [.str "late",.tup (a.map af),.tup (b.map af)])
theorem Yy4(C:A.length<=1000)(h:d5 L A wf)(g:∀s∈A,aO s∈A)(K S:AE):
 (∃d,bc L K S d/\sW [aT A wf]=some d)\/((∀s∈A,¬(aO s∈ay (wf s)/\s∈ay (wf (aO s))))/\sW [aT A wf]=some .non):=by
 have f:=j7 (gt:=aj 1) (fb:=yw) af (λm w=>(∀s∈m,¬(aO s∈ay (wf s)/\s∈ay (wf (aO s))))/\∃o j:Option M.B,w=[↑(aT A wf),o,j]) (bc L K S) A []
  _ ⟨λs c=>(nomatch c),none,none,rfl⟩ (by
   rintro q s r w e ⟨p,o,j,rfl⟩;rw[Qj]at e
   have c:s∈A:=by rw[e];simp
   have u:=tL s;have k:=mv h c (g s c);refine⟨[some _,some _,j],rfl,?_⟩;by_cases i:aO s∈ay (wf s)/\s∈ay (wf (aO s))
   .right
    obtain⟨a,z,F⟩:=u_ (h.all s c) i.1;obtain⟨b,E,B⟩:=u_ (h.all _ (g s c)) i.2;refine⟨_,?_,.clash z E⟩;have D:=il (wf:=wf) h.nd c;have y:=il (wf:=wf) h.nd (g s c);simp [i.1,i.2,Bool.and_self]at k;simp[yw,u,k,D,y,F,B]
   .left
    have l:(decide (aO s∈ay (wf s))&&decide (s∈ay (wf (aO s))))=false:=by
     ext
    rw[l]at k;refine⟨[some _,↑(af s),↑(af (aO s))],?_,λt G=>?_,_,_,rfl⟩
    .simp[yw,u,k]
    symm)
 have v:sk (aT A wf)=some (A.map af):=by
  unfold aT;rw[U8,if_pos (by rw[qf];show _<=1000000;ac_nf)]
 rw[sW,Ye (by rfl)];rcases f with⟨x,n,p,o,j,rfl⟩|⟨d,n,hd⟩
 .refine .inr ⟨p,?_⟩
  simp[IP,Yd,v,n]
 .refine .inl ⟨d,hd,?_⟩
  simp[IP,Yd,v,n]
theorem Yy5(h:d5 L A wf)(y:S.length<=1000)(O:∀s∈aN S,s∈A)(K:AE):
 (∃d,bc L K S d/\sY [aT A wf,.lst (S.map nD)]=some d)\/((∀s∈aN S,∀t∈aN S,¬(t≠s/\t∈ay (wf s)))/\sY [aT A wf,.lst (S.map nD)]=some .non):=by
 have g:=n_ (c:=.lst (S.map nD)) (B:=S) rfl y
 have l:=j7 (gt:=aj 2) (fb:=yx) af (λj v=>(∀s∈j,∀t∈aN S,¬(t≠s/\t∈ay (wf s)))/\∃D o:Option M.B,v=[↑(aT A wf),↑(.lst (S.map nD)),D,o]) (bc L K S) (aN S) []
  _ ⟨λs m=>(nomatch m),none,none,rfl⟩ (by
   rintro q s r v e ⟨x,D,o,rfl⟩;rw[Qj]at e
   have p:s∈aN S:=by rw[e];simp
   have m:=O s p;have G:=il (wf:=wf) h.nd m;refine⟨[↑(aT A wf),some _,↑(af s),o],rfl,?_⟩
   have C:=j7 (gt:=aj 3) (fb:=sX) af (λj v=>(∀t∈j,¬(t≠s/\t∈ay (wf s)))/\∃o:Option M.B,v=[↑(aT A wf),↑(.lst (S.map nD)),↑(af s),o]) (bc L K S) (aN S) []
    _ ⟨λs m=>(nomatch m),o,rfl⟩ (by
     rintro I t V v H ⟨E,N,rfl⟩;rw[Qj]at H
     have B:t∈aN S:=by rw[H];simp
     have f:=nY true t s;have w:=zD (W:=wf s) t;refine⟨[↑(aT A wf),some _,↑(af s),↑(af t)],rfl,?_⟩
     have i:_->(∀u∈I++[t],¬_):=λn u b=>by
      rcases qw b with b|b
      .exact E u b
      .rw[List.mem_singleton]at b
       rw[b];exact n
     by_cases c:t=s
     .left
      refine⟨[↑(aT A wf),some _,↑(af s),↑(af t)],?_,i (λz=>z.1 c),_,rfl⟩;simp only[c,decide_true,if_true,Bool.not_true]at f;rw[c];simp[sX,f]
     .simp only[c,decide_false,if_true,Bool.not_false]at f
      by_cases n:t∈ay (wf s)
      .right
       obtain⟨a,Q,R⟩:=u_ (h.all s m) n;refine⟨_,?_,.cross (mem_sayL.mp p) (mem_sayL.mp B) (λz=>c z.symm) Q⟩;simp only[n,decide_true]at w;simp[sX,f,G,w,R]
      .left
       refine⟨[↑(aT A wf),some _,↑(af s),↑(af t)],?_,i (λz=>n z.2),_,rfl⟩;simp only[n,decide_false]at w
       simp[sX,f,G,w])
   rcases C with⟨T,k,F,J,rfl⟩|⟨d,k,hd⟩
   .left
    refine⟨[↑(aT A wf),some _,↑(af s),J],?_,λu b=>?_,_,_,rfl⟩
    .simp[yx,g,k]
    .rcases qw b with b|b
     .exact x u b
     .rw[List.mem_singleton]at b
      rw[b];exact F
   .right
    refine⟨d,?_,hd⟩
    simp[yx,g,k])
 rw[sY,Ye (by rfl)];rcases l with⟨U,k,x,Y,D,rfl⟩|⟨d,k,hd⟩
 .refine .inr ⟨x,?_⟩
  simp[IQ,Yd,g,k]
 .refine .inl ⟨d,hd,?_⟩
  simp[IQ,Yd,g,k]
def gW(wf:aF->Wy)(s t:aF):Prop:=t.1<s.1/\t∈ay (wf s)/\s∈ay (wf t)
theorem y2j(h:d5 L A wf)(H:K.length<=1000)(F:S.length<=1000)(Y:∀s∈aN K,s∈A)(V:∀s∈aN S,s∈A):
 (∃d,bc L K S d/\s_ [aT A wf,.lst (K.map nD),.lst (S.map nD)]=some d)\/((∀s∈aN S,∀t∈aN K,¬gW wf s t)/\s_ [aT A wf,.lst (K.map nD),.lst (S.map nD)]=some .non):=by
 have x:=n_ (c:=.lst (S.map nD)) (B:=S) rfl F;have B:=n_ (c:=.lst (K.map nD)) (B:=K) rfl H
 have j:=j7 (gt:=aj 3) (fb:=yy) af (λm y=>(∀s∈m,∀t∈aN K,¬gW wf s t)/\∃E o:Option M.B,y=[↑(aT A wf),↑(.lst (K.map nD)),↑(.lst (S.map nD)),E,o]) (bc L K S) (aN S) []
  _ ⟨λs k=>(nomatch k),none,none,rfl⟩ (by
   rintro q s r y e ⟨N,E,o,rfl⟩;rw[Qj]at e
   have w:s∈aN S:=by rw[e];simp
   have k:=V s w;have g1:=il (wf:=wf) h.nd k;refine⟨[↑(aT A wf),↑(.lst (K.map nD)),↑(.lst (S.map nD)),↑(af s),o],rfl,?_⟩
   have D:=j7 (gt:=aj 4) (fb:=sZ) af (λm y=>(∀t∈m,¬gW wf s t)/\∃o:Option M.B,y=[↑(aT A wf),↑(.lst (K.map nD)),↑(.lst (S.map nD)),↑(af s),o]) (bc L K S) (aN K) []
    _ ⟨λs k=>(nomatch k),o,rfl⟩ (by
     rintro Z t r' y Q ⟨hq',y3',rfl⟩;rw[Qj]at Q
     have v:t∈aN K:=by rw[Q];simp
     have G:=Y t v;have T:=il (wf:=wf) h.nd G;have C:=mv h k G;have i:Yc (af s)=some [.int (s.1:Int),.bl s.2]:=rfl;have n:Yc (af t)=some [.int (t.1:Int),.bl t.2]:=rfl;refine⟨[↑(aT A wf),↑(.lst (K.map nD)),↑(.lst (S.map nD)),↑(af s),↑(af t)],rfl,?_⟩
     have g:¬gW wf s t->(∀u∈Z++[t],¬gW wf s u):=λp u hu=>by
      grind
     by_cases f:t.1<s.1
     .have c:(t.1:Int)<(s.1:Int):=by ext
      by_cases p:t∈ay (wf s)/\s∈ay (wf t)
      .right
       obtain⟨a,ra,U⟩:=u_ (h.all s k) p.1;obtain⟨b,rb,eb⟩:=u_ (h.all t G) p.2;refine⟨_,?_,.late (mem_sayL.mp w) (mem_sayL.mp v) f ra rb⟩;simp only[p.1,p.2,decide_true,Bool.and_self]at C;simp[sZ,i,n,f,c,C,g1,T,U,eb]
      .left
       refine⟨[↑(aT A wf),↑(.lst (K.map nD)),↑(.lst (S.map nD)),↑(af s),↑(af t)],?_,g (λz=>p z.2),_,rfl⟩
       have I:(decide (t∈ay (wf s))&&decide (s∈ay (wf t)))=false:=by
        ext
       rw[I]at C;simp[sZ,i,n,f,c,C]
     .left
      have c:¬(t.1:Int)<(s.1:Int):=by ext
      refine⟨[↑(aT A wf),↑(.lst (K.map nD)),↑(.lst (S.map nD)),↑(af s),↑(af t)],?_,g (λz=>f z.1),_,rfl⟩
      simp[sZ,i,n,f,c])
   rcases D with⟨ρ2,l,J,y4,rfl⟩|⟨d,l,hd⟩
   .left
    rw[Qj]at J;refine⟨[↑(aT A wf),↑(.lst (K.map nD)),↑(.lst (S.map nD)),↑(af s),y4],?_,λu hu=>?_,_,_,rfl⟩
    .generalize af s=R at *
     simp[yy,B,l]
    grind
   .right
    refine⟨d,?_,hd⟩;generalize af s=R,S.map nD=O at *
    simp[yy,B,l])
 rw[s_,Ye (by rfl)];rcases j with⟨ρ',l,N,y1,E,rfl⟩|⟨d,l,hd⟩
 .rw[Qj]at N
  refine .inr ⟨N,?_⟩;generalize aT A wf=ws,S.map nD=O,K.map nD=KK at *;simp[IR,Yd,x,l]
 .refine .inl ⟨d,hd,?_⟩
  generalize aT A wf=ws,S.map nD=O,K.map nD=KK at *;simp[IR,Yd,x,l]
theorem L7(l:AX):fw .e (.ei l)=decide (l=[]):=by
 show br (.tup _) (.tup [])=_
 cases l with
 | nil=>simp
 | cons a l=>
   ext
theorem Sv(L:AW):(L.map Rl.ei).any (fw .e)=decide ([]∈L):=by
 rw[List.any_map]
 cases h:decide ([]∈L)with
 | true=>
   have:=wq h;exact List.any_eq_true.mpr ⟨[],this,rfl⟩
 | false=>
   rw[List.any_eq_false];intro l a;show ¬fw .e _=true;rw[L7];grind
def InE(L:AW)(st n:Nat):Prop:=∀l∈L,dU (.ei l)/\∀s∈l,st<=s.1/\s.1<n
theorem L8(h:InE L st n):nK [aR L]=some (.bl (decide ([]∈L))):=by
 have c:=RL (R:=L.map .ei) (λr b=>by
  obtain⟨l,a,rfl⟩:=qy b;refine⟨⟨rfl,λs d=>((h l a).2 s d).2⟩,?_⟩;have:=(h l a).1.1;show l.length<=_
  lia)
 rwa [Sv,l_]at c
theorem j9(h:bc L K S d):∃l,d=.tup l:=by
 cases h
 .grind
 .grind
 grind
def vc(L:AW)(K S:AE)(d:D):Prop:=bc L K S d\/([]∈L/\d=.tup [.str "broken"])
theorem Yvc(hL:∀l∈L,eI l)(u:InE L st n)(hKl:K.length<=60)(hSl:S.length<=60)(v:∀x,st<=x->x<n->x∈S\/x∈K)(p:∀s:aF,s∈A↔s.1∈S\/s.1∈K)(O:A.length<=1000)(h:d5 L A wf):
 (∃d,vc L K S d/\nL [aR L,aT A wf,.lst (K.map nD),.lst (S.map nD)]=some d)\/(¬cx L K S/\nL [aR L,aT A wf,.lst (K.map nD),.lst (S.map nD)]=some .non):=by
 have c:=L8 u;have hK:∀s∈aN K,s∈A:=λs m=>(p s).mpr (.inr (mem_sayL.mp m));have U:∀s∈aN S,s∈A:=λs m=>(p s).mpr (.inl (mem_sayL.mp m));have I:∀s∈A,aO s∈A:=λs m=>(p _).mpr ((p s).mp m);have q1:=Yy4 O h I K S;have V:=Yy5 h (S:=S) (by lia) U K;have E:=y2j h (K:=K) (S:=S) (by lia) (by lia) hK U;rw[nL,Ye (by rfl)];by_cases y:[]∈L
 .left
  refine⟨_,.inr ⟨y,rfl⟩,?_⟩;simp only[y,decide_true]at c;generalize aT A wf=i,aR L=k at *;simp[y8,Yd,c]
 .simp only[y,decide_false]at c
  have q:∀(a:D) (l:AN),aX (a::l) 0=some a:=λa l=>by ext
  rcases q1 with⟨d1,G,g⟩|⟨n1,g⟩
  .left
   refine⟨d1,.inl G,?_⟩;obtain⟨l1,rfl⟩:=j9 G;clear G;rcases V with⟨T,F,f⟩|⟨R,f⟩
   .obtain⟨Z,rfl⟩:=j9 F
    rcases E with⟨C,j,b⟩|⟨B,b⟩
    .obtain⟨Q,rfl⟩:=j9 j
     generalize aT A wf=i,aR L=k at *;simp[y8,Yd,c,g,f,b,ao,cS,Yv,y2,q]
    .generalize aT A wf=i at *
     generalize aR L=k at *;simp[y8,Yd,c,g,f,b,ao,cS,Yv,y2,q]
   .rcases E with⟨C,j,b⟩|⟨B,b⟩
    .obtain⟨Q,rfl⟩:=j9 j
     generalize aT A wf=i,aR L=k at *;simp[y8,Yd,c,g,f,b,ao,cS,Yv,y2,q]
    .generalize aT A wf=i at *
     generalize aR L=k at *;simp[y8,Yd,c,g,f,b,ao,cS,Yv,y2,q]
  .rcases V with⟨T,F,f⟩|⟨R,f⟩
   .left
    refine⟨T,.inl F,?_⟩;obtain⟨Z,rfl⟩:=j9 F;rcases E with⟨C,j,b⟩|⟨B,b⟩
    .obtain⟨Q,rfl⟩:=j9 j
     generalize aT A wf=i,aR L=k at *;simp[y8,Yd,c,g,f,b,ao,cS,Yv,y2,q]
    .generalize aT A wf=i at *
     generalize aR L=k at *;simp[y8,Yd,c,g,f,b,ao,cS,Yv,y2,q]
   .rcases E with⟨C,j,b⟩|⟨B,b⟩
    .left
     refine⟨C,.inl j,?_⟩;obtain⟨Q,rfl⟩:=j9 j;generalize aT A wf=i,aR L=k at *;simp[y8,Yd,c,g,f,b,ao,cS,Yv,y2,q]
    .right
     refine⟨λr=>?_,?_⟩
     .have M:∀s∈A,∀t,t∈ay (wf s)↔Rch L s t:=λs m t=>zB hL (h.all s m)
      cases r with
      | broken z=>exact y z
      | clash s o w=>
        have hsA:s∈A:=by
         have hne:s≠aO s:=λz=>LF s z.symm
         have:s.1∈S\/s.1∈K:=by
          have H:∀t,Rch L s t->t=s\/∃l∈L,t∈l:=λt ht=>by
           cases ht with
           | refl=>grind
           | step _ e=>
             obtain⟨l,Y,_,h2,_⟩:=e;grind
          rcases H _ o with z|⟨l,Y,hm⟩
          .grind
          .obtain⟨g1,g2⟩:=(u l Y).2 _ hm
           exact v s.1 g1 g2
         grind
        grind
      | cross s t o w N J=>exact R s (mem_sayL.mpr o) t (mem_sayL.mpr w) ⟨λz=>N z.symm,(M s ((p s).mpr (.inl o)) _).mpr J⟩
      | late s t o w N J z5=>exact B s (mem_sayL.mpr o) t (mem_sayL.mpr w) ⟨N,(M s ((p s).mpr (.inl o)) _).mpr J,(M t ((p t).mpr (.inr w)) _).mpr z5⟩
     .generalize aT A wf=i at *
      generalize aR L=k at *;simp[y8,Yd,c,g,f,b,ao,cS,Yv]
theorem Sw(i:Int)(y:b)(k:Int):∀{ns:AF}{vs:List b},ns.length=vs.length->i∈ns->Yn ns (aQ ns vs i y) k=if k=i then some y else Yn ns vs k
 | [],_,_,h=>nomatch h
 | n::ns,[],a,_=>by simp at a
 | n::ns,v::vs,a,h=>by
   rw[aQ];by_cases e:n=i
   .subst e
    rw[if_pos rfl,Yn,Yn];grind
   .have c:i∈ns:=by
     grind
    rw[if_neg e,Yn,Yn,Sw i y k (by ext) c]
    split<;>ext
theorem Sx(i:Int)(y:b)(k:Int):∀{ns:AF}{vs:List b},ns.length=vs.length->i∉ns->Yn (ns++[i]) (vs++[y]) k=if k=i then some y else Yn ns vs k
 | [],[],_,_=>by
   show Yn [i] [y] k=_;rw[Yn];grind
 | [],_::_,a,_=>by simp at a
 | n::ns,[],a,_=>by simp at a
 | n::ns,v::vs,a,h=>by
   rw[List.cons_append,List.cons_append,Yn,Yn,Sx i y k (by grind) (λz=>h (qg _ z))];grind
def L9(a:ns.length=vs.length)(i:Int)(y:b)(k:Int):Yn (bx ns vs i y).1 (bx ns vs i y).2 k=if k=i then some y else Yn ns vs k:=by
 unfold bx;by_cases h:i∈ns
 .rw[if_pos h]
  exact Sw i y k a h
 .rw[if_neg h]
  exact Sx i y k a h
noncomputable def gi{β:Type}(k:Int):List (Int×β)->Option β->Option β
 | [],z=>z
 | p::ps,z=>gi k ps (if k=p.1 then some p.2 else z)
theorem L_(k:Int):∀(ps:List (Int×b)) {ns:AF}{vs:List b},ns.length=vs.length->Yn (aC ns vs ps).1 (aC ns vs ps).2 k=gi k ps (Yn ns vs k)
 | [],_,_,_=>rfl
 | p::ps,ns,vs,a=>by
   rw[aC,L_ k ps (EA a),L9 a];rfl
theorem mw:∀(ps:List (Int×c)) {ns:AF}{vs:List c},ns.Nodup->ns.length=vs.length->(aC ns vs ps).1.Nodup/\(aC ns vs ps).1.length=(aC ns vs ps).2.length
 | [],_,_,a,b=>⟨a,b⟩
 | p::ps,ns,vs,a,b=>mw ps (OG a) (EA b)
theorem Sy(k:Int):∀{a:AF}{b:List g}{z:Option g},a.length=b.length->a.Nodup->gi k (a.zip b) z=(Yn a b k).or z
 | [],[],z,_,_=>by
   rfl
 | [],_::_,_,c,_=>by simp at c
 | _::_,[],_,c,_=>by simp at c
 | m::a,w::b,z,c,d=>by
   rw[List.nodup_cons]at d;rw[List.zip_cons_cons,gi,Sy k ⋯ d.2,Yn];by_cases e:k=m
   .subst e
    have f:Yn a b k=none:=(k7 (by ext)).mpr d.1
    ext
   symm
theorem Sz(k:Int):∀{ps:List (Int×a)}{z:Option a}{y:a},gi k ps z=some y->(k,y)∈ps\/((∀p∈ps,p.1≠k)/\z=some y)
 | [],z,y,h=>.inr ⟨λp b=>(nomatch b),h⟩
 | p::ps,z,y,h=>by
   rw[gi]at h;rcases Sz k h with c|⟨c,d⟩
   .grind
   grind
theorem Ma(k:Int):∀{ps:List (Int×a)}{z:Option a},(∃p∈ps,p.1=k)\/z.isSome=true->(gi k ps z).isSome=true
 | [],z,h=>by
   rcases h with⟨p,b,_⟩|h
   .cases b
   .exact h
 | p::ps,z,h=>by
   rw[gi];refine Ma k ?_;symm
theorem SA(k:Int):∀{ps:List (Int×a)}{z:Option a},(∀p∈ps,p.1≠k)->gi k ps z=z
 | [],z,_=>rfl
 | p::ps,z,h=>by
   rw[gi,if_neg (λe=>h p qh e.symm)];exact SA k λq b=>h q (qg _ b)
structure mx(ns:AF)(vs:AG):Prop where
 nd:ns.Nodup
 len:ns.length=vs.length
def bY(ns:AF)(vs:AG)(j:Nat):Option Bool:=Yn ns vs j
noncomputable def cU(l:AX):List (Int×Bool):=l.map λs=>(s.1,s.2)
def bZ(ns:AF)(vs:AG)(l:AX):List Int×AG:=aC ns vs ((aC [] [] (cU l)).1.zip (aC [] [] (cU l)).2)
def vf(h:mx ns vs)(l:AX):mx (bZ ns vs l).1 (bZ ns vs l).2:=by
 obtain⟨a,b⟩:=mw _ h.nd h.len;exact⟨a,b⟩
theorem SB(n:∀l∈L,eI l)(i:fm L s W)(h:mx ns vs):mn L s (bY ns vs) (bY (bZ ns vs (ay W)).1 (bZ ns vs (ay W)).2):=λj=>by
 obtain⟨o,m⟩:=mw (cU (ay W)) (vs:=[]) List.nodup_nil rfl
 have g:∀k,Yn (bZ ns vs _).1 (bZ ns vs _).2 k=(gi k _ none).or _:=λk=>by
  unfold bZ;rw[L_ k _ h.len,Sy k m o,L_ k (cU _) rfl];rfl
 have f:∀v,Rch L s _↔((j:Int),v)∈cU _:=λv=>by
  rw[<-zB n i];constructor
  .intro c
   exact List.mem_map.mpr ⟨(j,v),c,rfl⟩
  .intro c
   obtain⟨t,q,e⟩:=qy c
   (simp at*;lia)
 have d:(∀u,¬Rch L s (j,u))->∀p∈cU (ay W),p.1≠j:=λb p r e=>by
  grind
 unfold bY;refine⟨λv a=>?_,λv a=>?_,λb=>?_⟩
 .have:=Ma j (z:=none) (.inl ⟨_,(f v).mp a,rfl⟩)
  ext
 .rw[g]at a
  cases e:gi _ _ _ with
  | some y=>
    rw[e]at a;rcases Sz _ e with w|⟨_,w⟩
    .grind
    .cases w
  | none=>
    rw[e]at a;refine .inr ⟨λu b=>?_,a⟩;have:=Ma j (z:=none) (.inl ⟨_,(f u).mp b,rfl⟩);grind
 .rw[g,SA _ (d b)]
  rfl
theorem vg(i:Int)(y:Bool):∀(ns:AF) (vs:AG),aQ ns (vs.map D.bl) i (.bl y)=(aQ ns vs i y).map D.bl
 | [],vs=>by cases vs<;>simp[aQ]
 | n::ns,[]=>by simp[aQ]
 | n::ns,v::vs=>by
   rw[Qd,aQ,aQ];by_cases e:n=i
   .rw[if_pos e,if_pos e]
    rfl
   .rw[if_neg e,if_neg e,vg i y ns vs]
    rfl
theorem Mb:∀(ps:List (Int×Bool)) (ns:AF) (vs:AG),aC ns (vs.map D.bl) (ps.map λp=>(p.1,D.bl p.2))=((aC ns vs ps).1,(aC ns vs ps).2.map D.bl)
 | [],ns,vs=>rfl
 | p::ps,ns,vs=>by
   rw[Qd,aC]
   have e:bx ns (vs.map D.bl) p.1 (.bl p.2)=((bx ns vs p.1 p.2).1,(bx ns vs p.1 p.2).2.map .bl):=by
    unfold bx;by_cases h:p.1∈ns
    .rw[if_pos h,if_pos h,vg]
    ext
   rw[e];exact Mb ps _ _
theorem SC:∀l:AX,eu (l.map af)=some ((cU l).map λp=>(p.1,D.bl p.2))
 | []=>rfl
 | s::l=>by
   show eu (.tup _::_)=_;rw[eu,SC l];rfl
theorem vh(b:W.length<=1000)(f:AU)(ρ:Ro)(e:f ρ=some (.lst ((ay W).map af))):
 eY f ρ=some (.dct false ((aC [] [] (cU (ay W))).1.map D.int) ((aC [] [] (cU (ay W))).2.map D.bl)):=by
 have c:=SC (ay W);have d:=Mb (cU (ay W)) [] []
 have a:((cU (ay W)).map λp=>(p.1,D.bl p.2)).length<1000000:=by simp[cU,ay];ac_nf
 ext
def Mc:(ay W).length=W.length:=by simp[ay]
theorem zE:∀(ps:List (Int×a)) (ns:AF) (vs:List a),(aC ns vs ps).2.length<=vs.length+ps.length
 | [],_,vs=>by simp[aC]
 | p::ps,ns,vs=>by
   rw[aC];have:=zE ps (bx ns vs p.1 p.2).1 (bx ns vs p.1 p.2).2
   have b:(bx ns vs p.1 p.2).2.length<=vs.length+1:=by
    unfold bx
    split
    .rw[pI];lia
    .simp
   grind
theorem vi(a:vs.length<=500000)(c:W.length<=1000):
 i4 (ns.map D.int,vs.map D.bl) (.dct false ((aC [] [] (cU (ay W))).1.map D.int) ((aC [] [] (cU (ay W))).2.map D.bl))=some ((bZ ns vs (ay W)).1.map D.int,(bZ ns vs (ay W)).2.map D.bl):=by
 have b:=zE (cU (ay W)) [] []
 have d:(cU (ay W)).length=W.length:=by simp[cU,ay]
 show(intsD _).bind _=_
 rw[nu,qd,nu,qd,if_pos (by
  show _<1000000
  ext<;>lia)]
 have e:(aC [] [] (cU (ay W))).1.zip ((aC [] [] (cU (ay W))).2.map .bl)=((aC [] [] (cU (ay W))).1.zip (aC [] [] (cU (ay W))).2).map λp=>(p.1,D.bl p.2):=by
  rw[List.zip_map_right];rfl
 rw[e,Mb];rfl
def y4y(j:∀l∈L,eI l)(m:¬cx L K S)(h:d5 L A wf)(d:(k,false)∈A)(e:(k,true)∈A):
 ∃l:aF,l∈A/\uZ L k l/\lW [.int (k:Int),aT A wf]=some (af l):=by
 have g:=il (wf:=wf) h.nd d;have b:=zD (W:=wf (k,false)) (k,true);have f:=tL (k,false);have c:aO (k,false)=(k,true):=rfl;rw[c]at f;have i:∀t,_↔Rch L _ t:=λt=>zB j (h.all _ d);have hd:.tup [_,.bl false]=af (k,_):=rfl;by_cases a:(k,true)∈ay (wf (k,false))
 .refine⟨(k,true),e,⟨rfl,λz=>m (.clash _ z ((i _).mp a))⟩,?_⟩
  simp [a]at b;rw[lW,Ye (by rfl)];simp[IS,Yd,hd,f,g,b]
 .refine⟨(k,false),d,⟨rfl,λz=>a ((i _).mpr z)⟩,?_⟩
  simp [a]at b;rw[lW,Ye (by rfl)];simp[IS,Yd,hd,f,g,b]
theorem SD{A:AX}{wf:aF->Wy}(a:(wf s).length<=1000):i3 [bS (wf s)]=some ((ay (wf s)).map af):=by
 unfold bS;rw[Vb,if_pos (by rw[qf,Mc];show _<=1000000;lia)]
theorem SG(ns:AF)(vs:AG)(W:Wy)(d:W.length<=120):(bZ ns vs (ay W)).2.length<=vs.length+120:=by
 unfold bZ;have c:=zE ((aC [] [] (cU (ay W))).1.zip (aC [] [] (cU (ay W))).2) ns vs;have b:=zE (cU (ay W)) [] []
 have a:(cU (ay W)).length=W.length:=by simp[cU,ay]
 ext<;>ac_nf
theorem Yy7(hL:∀l∈L,eI l)(hKl:K.length<=60)(hSl:S.length<=60)(nb:¬cx L K S)(hA:∀s:aF,s∈A↔s.1∈S\/s.1∈K)(h:d5 L A wf):
 ∃(ns:AF) (vs:AG),mx ns vs/\n8 L K S (bY ns vs)/\(∀k∈K,(bY ns vs k).isSome=true)/\yB [aT A wf,.lst (K.map nD),.lst (S.map nD)]=some (.dct false (ns.map D.int) (vs.map D.bl)):=by
 have hso:=n_ (c:=.lst (S.map nD)) (B:=S) rfl (by lia);have hsl:=L6 S
 obtain⟨ρ1,e1,ns1,vs1,y4,t1,p1,l1,rfl⟩:=gM (gt:=aj 4) (fb:=IT) af (λpre ρ=>∃(ns:AF) (vs:AG) (y4:Option M.B),mx ns vs/\uY L pre (bY ns vs)/\vs.length<=120*pre.length/\
  ρ=[↑(aT A wf),↑(.lst (K.map nD)),↑(.lst (S.map nD)),some (.od false (ns.map D.int) (vs.map D.bl)),y4,none]) (aN S) []
  [↑(aT A wf),↑(.lst (K.map nD)),↑(.lst (S.map nD)),some (.od false [] []),none,none] ⟨[],[],none,⟨List.nodup_nil,rfl⟩,LO L,by simp,rfl⟩ (by
   rintro q s r ρ e ⟨ns,vs,y4,t0,p0,l0,rfl⟩;rw[Qj]at e;have hsA:s∈A:=(hA s).mpr (.inl (mem_sayL.mp (by rw[e];simp)));have hW:=h.all s hsA;have hWl:=u7 hW.nd hW.lt
   have hq:q.length<=120:=by
    grind
   have g:=il (wf:=wf) h.nd hsA;have hlk:=SD (A:=A) (wf:=wf) (s:=s) (by lia)
   have hdc:=vh (W:=wf s) (by lia) (lF (cF (Yb (b2 (aa 0) (aa 4) bV) ae) i3)) [↑(aT A wf),↑(.lst (K.map nD)),↑(.lst (S.map nD)),some (.od false (ns.map D.int) (vs.map D.bl)),↑(af s),none] (by
    ext)
   have hup:=vi (W:=wf s) (ns:=ns) (vs:=vs) (by lia) (by lia);refine⟨[↑(aT A wf),↑(.lst (K.map nD)),↑(.lst (S.map nD)),some (.od false (ns.map D.int) (vs.map D.bl)),↑(af s),none],[↑(aT A wf),↑(.lst (K.map nD)),↑(.lst (S.map nD)),some (.od false ((bZ ns vs (ay (wf s))).1.map D.int) ((bZ ns vs (ay (wf s))).2.map D.bl)),↑(af s),none],rfl,?_,_,_,_,vf t0 _,LP p0 (SB hL hW t0),?_,rfl⟩
   .have hgo:fZ 3 [↑(aT A wf),↑(.lst (K.map nD)),↑(.lst (S.map nD)),some (.od false (ns.map D.int) (vs.map D.bl)),↑(af s),none]=some (ns.map D.int,vs.map D.bl):=rfl
    rw[IT,sv,hgo,qd,hdc,qd,hup];rfl
   .have:=SG ns vs (wf s) hWl
    ext<;>lia)
 rw[Qj]at p1 l1;have ph:=LS (K:=K) nb (T:=aN S) (λs=>mem_sayL) p1
 obtain⟨ρ2,e2,ns2,vs2,y5,t2,p2,k2,l2,rfl⟩:=gM (gt:=aj 5) (fb:=yz) nD (λpre ρ=>∃(ns:AF) (vs:AG) (y5:Option M.B),mx ns vs/\n8 L K S (bY ns vs)/\(∀k∈pre,(bY ns vs k).isSome=true)/\vs.length<=20000+120*pre.length/\
  ρ=[↑(aT A wf),↑(.lst (K.map nD)),↑(.lst (S.map nD)),some (.od false (ns.map D.int) (vs.map D.bl)),y4,y5]) K []
  [↑(aT A wf),↑(.lst (K.map nD)),↑(.lst (S.map nD)),some (.od false (ns1.map D.int) (vs1.map D.bl)),y4,none] ⟨ns1,vs1,none,t1,ph,λk hk=>(nomatch hk),by simp;lia,rfl⟩ (by
   rintro q k r ρ e ⟨ns,vs,y5,t0,p0,k0,l0,rfl⟩;rw[Qj]at e
   have hkK:k∈K:=by rw[e];simp
   have hq:q.length<=60:=by
    grind
   have hhas:dN true (.int (k:Int)) (.dct false (ns.map D.int) (vs.map D.bl))=some (decide ((k:Int)∈ns)!=true):=by ext
   by_cases hm:(k:Int)∈ns
   .refine⟨_,[↑(aT A wf),↑(.lst (K.map nD)),↑(.lst (S.map nD)),some (.od false (ns.map D.int) (vs.map D.bl)),y4,↑(nD k)],rfl,?_,ns,vs,_,t0,p0,λj hj=>?_,by simp;lia,rfl⟩
    .rw[wn hm]at hhas
     generalize aT A wf=ws,ns.map D.int=NN,vs.map D.bl=VV at *;simp[yz,hhas,-Em]
    .rcases qw hj with hj|hj
     .exact k0 j hj
     .rw[List.mem_singleton]at hj
      subst hj;unfold bY
      cases z:Yn ns vs (j:Int)with
      | some v=>rfl
      | none=>exact absurd hm ((k7 t0.len.symm).mp z)
   .have hnone:bY ns vs k=none:=(k7 t0.len.symm).mpr hm
    obtain⟨l,hlA,hfr,hfs⟩:=y4y hL nb h (k:=k) ((hA _).mpr (.inr hkK)) ((hA _).mpr (.inr hkK));have hW:=h.all l hlA;have hWl:=u7 hW.nd hW.lt;have g:=il (wf:=wf) h.nd hlA;have hlk:=SD (A:=A) (wf:=wf) (s:=l) (by lia)
    have hdc:=vh (W:=wf l) (by lia) (lF (cF (Yb (b2 (aa 0) (cC (Yb (ab 5) (Yb (ab 0) ae)) lW) bV) ae) i3)) [↑(aT A wf),↑(.lst (K.map nD)),↑(.lst (S.map nD)),some (.od false (ns.map D.int) (vs.map D.bl)),y4,↑(nD k)] (by
     ext)
    have hup:=vi (W:=wf l) (ns:=ns) (vs:=vs) (by lia) (by lia);obtain⟨s1,s2,s3⟩:=LU nb p0 hnone hfr (SB hL hW t0);refine⟨_,[↑(aT A wf),↑(.lst (K.map nD)),↑(.lst (S.map nD)),some (.od false ((bZ ns vs (ay (wf l))).1.map D.int) ((bZ ns vs (ay (wf l))).2.map D.bl)),y4,↑(nD k)],rfl,?_,_,_,_,vf t0 _,s1,λj hj=>?_,?_,rfl⟩
    .have hgo:fZ 3 [↑(aT A wf),↑(.lst (K.map nD)),↑(.lst (S.map nD)),some (.od false (ns.map D.int) (vs.map D.bl)),y4,↑(nD k)]=some (ns.map D.int,vs.map D.bl):=rfl
     have hup2:gO 3 (eY (lF (cF (Yb (b2 (aa 0) (cC (Yb (ab 5) (Yb (ab 0) ae)) lW) bV) ae) i3))) [↑(aT A wf),↑(.lst (K.map nD)),↑(.lst (S.map nD)),some (.od false (ns.map D.int) (vs.map D.bl)),y4,↑(nD k)]=some (.nx [↑(aT A wf),↑(.lst (K.map nD)),↑(.lst (S.map nD)),some (.od false ((bZ ns vs (ay (wf l))).1.map D.int) ((bZ ns vs (ay (wf l))).2.map D.bl)),y4,↑(nD k)]):=by
      ext
     rw[wo hm]at hhas;generalize (bZ ns vs (ay (wf l))).1.map D.int=N2,(bZ ns vs (ay (wf l))).2.map D.bl=V2,aT A wf=ws,ns.map D.int=NN,vs.map D.bl=VV at *;simp[yz,hhas,hup2,-Em,-sv]
    .grind
    .have:=SG ns vs (wf l) hWl
     ext<;>lia)
 rw[Qj]at k2;refine⟨ns2,vs2,t2,p2,k2,?_⟩;rw[yB,Ye (by rfl)];have h3:yA [↑(aT A wf),↑(.lst (K.map nD)),↑(.lst (S.map nD)),some (.od false (ns2.map D.int) (vs2.map D.bl)),y4,y5]=some (.rt (.dct false (ns2.map D.int) (vs2.map D.bl))):=rfl;generalize aT A wf=ws,ns2.map D.int=N2,vs2.map D.bl=V2,ns1.map D.int=N1,vs1.map D.bl=V1,(aN S).map af=SL,S.map nD=SS,K.map nD=KK at *;simp[IU,Yd,hso,e1,e2,h3,-yA]
theorem y87(O:∀l∈L,eI l){K S:AE}(J:S.length<=60)(H:∀s:aF,s∈A↔s.1∈S\/s.1∈K)(h:d5 L A wf)(b:mx ns vs)(N:k∈K)(hd:(bY ns vs k).isSome=true):
 ∃r:c4,r.1=k/\((∃s,fQ L S k s/\r.2=(some s.1,s.2))\/(loose L S k/\r.2=(none,(bY ns vs k).getD false)))/\tf [.int (k:Int),aT A wf,.lst (S.map nD),.dct false (ns.map D.int) (vs.map D.bl)]=some (aS r):=by
 have j:=n_ (c:=.lst (S.map nD)) (B:=S) rfl ∅;have i:(k,true)∈A:=(H _).mpr (.inr N);have y:∀s∈A,∀t,t∈ay (wf s)↔Rch L s t:=λs a t=>zB O (h.all s a);have m:D.tup [.int (k:Int),.bl true]=af (k,true):=rfl
 have f:=j7 (gt:=aj 4) (fb:=yC) af (λB I=>(∀s∈B,¬fQ L S k s)/\∃G:Option M.B,I=[↑(.int (k:Int)),↑(aT A wf),↑(.lst (S.map nD)),↑(.dct false (ns.map D.int) (vs.map D.bl)),G]) (λd=>∃s,fQ L S k s/\d=aS (k,some s.1,s.2)) (aN S) []
  _ ⟨λs a=>(nomatch a),none,rfl⟩ (by
   rintro q s r I e ⟨x,G,rfl⟩;rw[Qj]at e;have u:s.1∈S:=mem_sayL.mp (by rw[e];simp);have g:s∈A:=(H s).mpr (.inl u);have p:=mv h g i;have F:Yc (af s)=_:=rfl;refine⟨[↑(.int (k:Int)),↑(aT A wf),↑(.lst (S.map nD)),some _,↑(af s)],rfl,?_⟩;by_cases w:(k,true)∈ay (wf s)/\s∈ay (wf (k,true))
   .right
    refine⟨aS (k,some s.1,s.2),?_,s,⟨u,(y s g _).mp w.1,(y _ i _).mp w.2⟩,rfl⟩;have c:aS (k,some s.1,s.2)=.tup [.int (k:Int),.int (s.1:Int),.bl s.2]:=rfl;rw[c];simp only[w.1,w.2,decide_true,Bool.and_self]at p;rw[<-m]at p;simp[yC,p,F]
   .left
    have E:(decide ((k,true)∈ay (wf s))&&decide (s∈ay (wf (k,true))))=false:=by
     ext
    rw[E,<-m]at p;refine⟨[↑(.int (k:Int)),↑(aT A wf),↑(.lst (S.map nD)),some _,↑(af s)],?_,λt b=>?_,_,rfl⟩
    .simp[yC,p]
    .rcases qw b with b|b
     .exact x t b
     .rw[List.mem_singleton]at b
      rw[b]
      exact λz=>w ⟨(y s g _).mpr z.2.1,(y _ i _).mpr z.2.2⟩)
 rw[tf,Ye (by rfl)];rcases f with⟨Q,C,x,G,rfl⟩|⟨d,C,s,a,rfl⟩
 .rw[Qj]at x
  refine⟨(k,none,(bY ns vs k).getD false),rfl,.inr ⟨λs a=>x s (mem_sayL.mpr a.1) a,rfl⟩,?_⟩
  have o:cJ (.dct false (ns.map D.int) (vs.map D.bl)) (.int (k:Int))=some (.bl ((bY ns vs k).getD false)):=by
   rw[jI,nu,qd]
   have:∀(ns:AF) (vs:AG),Yn ns (vs.map D.bl) (k:Int)=(Yn ns vs (k:Int)).map D.bl:=λns=>by
    induction ns with
    | nil=>intro vs;cases vs<;>rfl
    | cons n ns R=>
      intro vs
      cases vs with
      | nil=>rfl
      | cons v vs=>
        rw[Qd,Yn,Yn]
        split<;>ext
   rw[this];unfold bY at hd ⊢
   cases z:Yn ns vs (k:Int)with
   | none=>symm
   | some v=>rfl
  have c:aS (k,none,(bY ns vs k).getD false)=.tup [.int (k:Int),.non,.bl ((bY ns vs k).getD false)]:=rfl;rw[c];simp[IV,Yd,j,C,o,-jI]
 .refine⟨(k,some s.1,s.2),rfl,.inl ⟨s,a,rfl⟩,?_⟩
  simp[IV,Yd,j,C]
theorem Md(h:dU (.ei l)):eI l:=⟨h.1,h.2.imp λ{a b} c z=>by
 rcases c with h|⟨_,e,d⟩
 .lia
 grind⟩
theorem SH:∀{B:AE},B.Nodup->(aN B).Nodup
 | [],_=>List.nodup_nil
 | b::B,h=>by
   rw[List.nodup_cons]at h;have e:aN (b::B)=_++_:=rfl;rw[e,List.nodup_append];refine⟨by simp,SH h.2,λx c y d z=>?_⟩;subst z;have a:=mem_sayL.mp d;simp at c;rcases c with rfl|rfl
   .exact h.1 a
   .exact h.1 a
theorem SI(wf:aF->Wy):∀A:AX,ny (A.map λs=>.tup [af s,bS (wf s)])=some (A.map λs=>(af s,bS (wf s)))
 | []=>rfl
 | s::A=>by
   rw[Qd,ny,SI wf A];rfl
def j_(rows:List c4):AN:=[.str "plan",.tup (rows.map aS)]
theorem Yqc(hLl:L.length<=100)(hc:Yc c=some (hs.map aK))(hl:hs.length<=60)(C:st<=hs.length)(f:InE L st hs.length):
 (∃d,vc L (ax hs st true) (ax hs st false) d/\tm [aR L,c,.int st]=some (bW true d))\/
 (∃rows,fy L (ax hs st true) (ax hs st false) rows/\tm [aR L,c,.int st]=some (bW false (.tup (j_ rows)))):=by
 have hL:∀l∈L,eI l:=λl v=>Md (f l v).1
 have hL60:∀l∈L,∀s∈l,s.1<60:=λl v s hs=>by have:=((f l v).2 s hs).2;ac_nf
 have H:=Yi hs hc ∅ st C true;have Q:=Yi hs hc ∅ st C false;simp only[aK,if_true,Qo,if_false]at H Q;have J:(ax hs st true).Pairwise (·<·):=List.Pairwise.filter _ List.pairwise_lt_range;have T:(ax hs st false).Pairwise (·<·):=List.Pairwise.filter _ List.pairwise_lt_range;have F:=zu (hs:=hs) (st:=st);have o:∀x,st<=x->x<hs.length->x∈ax hs st false\/x∈ax hs st true:=λx h1 h2=>uR h1 h2;have t:(ax hs st false).length<=60:=Qg (Qn _ _) (by simpa using hl);have N:(ax hs st true).length<=60:=Qg (Qn _ _) (by simpa using hl);have Y:∀x∈ax hs st false,x<60:=λx O=>Qi (ik O) hl;have R:∀x∈ax hs st true,x<60:=λx O=>Qi (ik O) hl;generalize ax hs st false=S,ax hs st true=K at *;have G:∀l∈L,∀s∈l,s.1∈S\/s.1∈K:=λl v s hs=>o s.1 ((f l v).2 s hs).1 ((f l v).2 s hs).2
 have E:(K++S).Nodup:=by
  rw[List.nodup_append];exact⟨J.imp λh=>qm h,T.imp λh=>qm h,λx O y hy z=>F y hy (by rw[<-z];exact O)⟩
 have I:=SH E
 have i:∀s:aF,s∈aN (K++S)↔s.1∈S\/s.1∈K:=λs=>by
  rw[mem_sayL,List.mem_append];exact⟨λh=>h.symm,λh=>h.symm⟩
 have hAl:(aN (K++S)).length<=1000:=by rw[L6,qz];ac_nf
 have hw:∀s:aF,∃W:Wy,s.1<60->fm L s W/\nC [aR L,af s]=some (bS W):=λs=>by
  by_cases h60:s.1<60
  .obtain⟨W,h1,h2⟩:=y4w (L:=L) ∅ hL60 h60
   exact⟨W,λ_=>⟨h1,h2⟩⟩
  .exact⟨[],λz=>absurd z h60⟩
 obtain⟨b,V⟩:∃b:aF->Wy,∀s:aF,s.1<60->fm L s (b s)/\nC [aR L,af s]=some (bS (b s)):=⟨λs=>Classical.choose (hw s),λs=>Classical.choose_spec (hw s)⟩
 have n:∀s∈aN (K++S),s.1<60:=λs hs=>by
  rcases(i s).mp hs with h|h
  .exact Y _ h
  .exact R _ h
 have hso:=n_ (c:=.lst ((K++S).map nD)) (B:=K++S) rfl (by rw[qz];ac_nf);generalize aN (K++S)=A at *
 have p:d5 L A b:=⟨I,λs hs=>(V s (n s hs)).1⟩
 have Z:cu (.lst (K.map nD)) (.lst (S.map nD))=some ((K++S).map nD):=by rw[lM (by simp;ac_nf),wt]
 have hcm:=bG (fe:=tj) (r:=[↑(aR L)]) (enc:=af) (λs=>.tup [af s,bS (b s)]) (l:=A) (λs hs=>by
  have:=(V s (n s hs)).2;generalize bS (b s)=w1,af s=ds,aR L=bk at *
  simp[tj,this])
 have hpt:Hn (.lst (A.map λs=>.tup [af s,bS (b s)]))=some (A.map λs=>(af s,bS (b s))):=SI b A
 have hk1:(A.map λs=>(af s,bS (b s))).map (·.1)=A.map af:=by rw[Qf];rfl
 have hk2:(A.map λs=>(af s,bS (b s))).map (·.2)=A.map λs=>bS (b s):=by rw[Qf];rfl
 have hkn:(A.map kN).Nodup:=by
  rw[List.Nodup,List.pairwise_map];exact I.imp λhab e=>hab (mq e)
 have hst0:Yd 8 [aR L,c,.int (st:Int)]=[↑(aR L),↑c,↑(.int st),none,none,none,none,none]:=rfl;rw[tm,Ye (by rfl),hst0]
 have U:i0 5 (lF (Yw (b1 (cC (Yb (lF (b2 (aa 3) (aa 4) cu)) ae) gg) Yc) [none,some 0] (aj 0) tY (tj))) [↑(aR L),↑c,↑(.int st),↑(.lst (K.map nD)),↑(.lst (S.map nD)),none,none,none] =
  some (.nx [↑(aR L),↑c,↑(.int st),↑(.lst (K.map nD)),↑(.lst (S.map nD)),some (.od true (A.map af) (A.map λs=>bS (b s))),none,none]):=by
  have q:(lF (Yw (b1 (cC (Yb (lF (b2 (aa 3) (aa 4) cu)) ae) gg) Yc) [none,some 0] (aj 0) tY (tj))) [↑(aR L),↑c,↑(.int st),↑(.lst (K.map nD)),↑(.lst (S.map nD)),none,none,none]=some (.lst (A.map λs=>.tup [af s,bS (b s)])):=by
   generalize (A.map λs=>D.tup [af s,bS (b s)])=A2,A.map af=A1,(K++S).map nD=KS,K.map nD=KK,S.map nD=SS,aR L=bk at *;simp[Z,hso,ao,hcm]
  rw[Ph,q,qd,hpt,qd,hk1,n9,qd,if_pos ⟨by rw[qf];show A.length<1000000;ac_nf,hkn⟩,hk2];rfl
 have pre:yE [↑(aR L),↑c,↑(.int st),none,none,none,none,none]=nM [↑(aR L),↑c,↑(.int st),↑(.lst (K.map nD)),↑(.lst (S.map nD)),some (.od true (A.map af) (A.map λs=>bS (b s))),none,none]:=by
  generalize (A.map λs=>bS (b s))=A2,A.map af=A1,K.map nD=KK,S.map nD=SS,aR L=bk at *;simp[yE,H,Q,U,-nM,-Ph]
 rw[pre];have hsp:=Yvc hL f N t o i hAl p;have hfz:∀y6 y7:Option M.B,frz [5] [↑(aR L),↑c,↑(.int st),↑(.lst (K.map nD)),↑(.lst (S.map nD)),some (.od true (A.map af) (A.map λs=>bS (b s))),y6,y7]=[↑(aR L),↑c,↑(.int st),↑(.lst (K.map nD)),↑(.lst (S.map nD)),↑(aT A b),y6,y7]:=λ_ _=>rfl
 have h3:∀d,nL [aR L,aT A b,.lst (K.map nD),.lst (S.map nD)]=some d->nM [↑(aR L),↑c,↑(.int st),↑(.lst (K.map nD)),↑(.lst (S.map nD)),some (.od true (A.map af) (A.map λs=>bS (b s))),none,none]=yD [↑(aR L),↑c,↑(.int st),↑(.lst (K.map nD)),↑(.lst (S.map nD)),↑(aT A b),↑d,none]:=λd hd=>by
  rw[nM,h9,lI,hfz];generalize aT A b=ws,K.map nD=KK,S.map nD=SS,aR L=bk at *;simp[hd,-yD]
 rcases hsp with⟨d,hd,e⟩|⟨nb,e⟩
 .refine .inl ⟨d,hd,?_⟩
  rw[h3 d e]
  obtain⟨l,rfl⟩:∃l,d=.tup l:=by
   rcases hd with hd|⟨_,hd⟩
   .exact j9 hd
   .exact⟨_,hd⟩
  generalize aT A b=ws at *;constructor<;>ac_nf
 .obtain⟨B,w,t0,p2,kd,etr⟩:=Yy7 hL N t nb i p
  have m:∀k,∃r:c4,k∈K->_:=λk=>by
   by_cases j:k∈K
   .obtain⟨r,hr⟩:=y87 hL t i p t0 j (kd k j)
    exact⟨r,λ_=>hr⟩
   .exact⟨(0,none,false),λz=>absurd z j⟩
  obtain⟨g,u⟩:∃g:Nat->c4,∀k∈K,(g k).1=k/\((∃s,fQ L S k s/\(g k).2=(some s.1,s.2))\/(loose L S k/\(g k).2=(none,(bY B w k).getD false)))/\tf [.int (k:Int),aT A b,.lst (S.map nD),.dct false (B.map D.int) (w.map D.bl)]=some (aS (g k)):=⟨λk=>Classical.choose (m k),λk=>Classical.choose_spec (m k)⟩
  refine .inr ⟨K.map g,LN hL G F nb (τ:=λk=>(bY B w k).getD false) ⟨?_,λr hr=>?_⟩ (LV p2 kd),?_⟩
  .rw[Qf]
   exact(Qq λk j=>(u k j).1).trans (List.map_id K)
  .obtain⟨k,j,rfl⟩:=qy hr
   obtain⟨g1,g2,_⟩:=u k j;rw[g1];exact g2
  .rw[h3 .non e]
   have hc1:=bG (fe:=IW) (r:=[↑(aT A b),↑(.lst (S.map nD)),↑(.dct false (B.map D.int) (w.map D.bl))]) (enc:=nD) (λk=>aS (g k)) (l:=K) (λk j=>by
    have:=(u k j).2.2;generalize aT A b=ws,aS (g k)=pr,S.map nD=SS,B.map D.int=NN,w.map D.bl=VV at *
    simp[IW,this])
   have e5:(K.map λk=>aS (g k))=(K.map g).map aS:=by rw[Qf];rfl
   rw[e5]at hc1;unfold j_;generalize (K.map g).map aS=RW,aT A b=ws,S.map nD=SS,K.map nD=KK,B.map D.int=NN,w.map D.bl=VV,aR L=bk at *;simp[etr,ao,hc1,bW]
def InE.rl{L:AW}{st n:Nat}(h:InE L st n):∀r∈L.map Rl.ei,In .e n r/\dU r:=λr b=>by
 obtain⟨l,a,rfl⟩:=qy b;exact⟨⟨rfl,λs c=>((h l a).2 s c).2⟩,(h l a).1⟩
def Me{L:AW}{s t:aF}{r:AX}(h:cG L s t r):aX (r.map af) 0=some (af s)/\aX (r.map af) (-1)=some (af t):=by
 have p:=uB h.ok;exact⟨by rw[KG p,h.fst],by rw[KF p,h.lst]⟩
theorem vj(f:∀l∈L,eI l)(h:cG L s t r):Rch L s t:=by
 have j:=uB h.ok
 have a:∀i,i+1<r.length->_:=λi c=>by
  have g:=h.ok;unfold fL at g;rw[Qe,List.all_eq_true]at g;exact wq (g.2 i (List.mem_range.mpr (by grind)))
 have b:∀i,i<_->Rch L s (cT r i):=λi=>by
  induction i with
  | zero=>
    intro _;rw[h.fst];exact .refl
  | succ i d=>
    intro c;exact .step (d (by lia)) ((mu f).mp (a i c))
 have g:=b (r.length-1) (by omega);have e:=h.lst;unfold i_ at e
 rwa [e]at g
def y88(b:∀l∈L,eI l)(h:vc L K S d):cx L K S:=by
 rcases h with h|⟨h,_⟩
 .cases h with
  | clash c a=>exact .clash _ (vj b c) (vj b a)
  | cross c a e f=>exact .cross _ _ c a e (vj b f)
  | late c a e f g=>exact .late _ _ c a e (vj b f) (vj b g)
 .exact .broken h
theorem y40{L:AW}(m:L.length<=1000){K S:AE}{a b:aF}(l:a.1∈S)(hb:b.1∈S)(d:a≠b){out:AX}(c:cG L a b out):
 Yq [n0 "cross" [.tup (out.map af)],aR L,.lst (K.map nD),.lst (S.map nD)]=some (.bl true):=by
 have e:=KE m (c:=.tup (out.map _)) rfl (by have:=c.len;ac_nf);rw[c.ok]at e;obtain⟨n,j⟩:=Me c;have f:=nY false a b;simp [d,Qo,if_false]at f;have g:=cv (c:=.lst _) a.1 S false rfl;have h:=cv (c:=.lst _) b.1 S false rfl;simp [l,hb,if_false]at g h
 have k:ym [.tup (out.map af),aR L,.lst (S.map nD)]=some (.bl true):=by
  rw[ym,Ye (by rfl)];simp[Qv,Yd,e,n,j,f,g,h]
 have o:=cL (a:="cross") (b:="clash") (by decide +kernel) false;have i:=d_ "cross" false;rw[Yq,Ye (by rfl)];simp[yv,Yd,o,i,k]
theorem SJ{L:AW}(f:L.length<=1000){a b:aF}{out c:AX}(d:cG L a b out)(hb:cG L b a c):Yz [aR L,.tup (out.map af),.tup (c.map af)]=some (.bl true):=by
 have g:=KH f (o:=out) (k:=c) (co:=.tup _) (ck:=.tup _) rfl rfl (by have:=d.len;ac_nf) (by have:=hb.len;ac_nf)
 have e:there L out c=true:=by
  unfold there;rw[d.ok,hb.ok,d.lst,hb.fst,hb.lst,d.fst];simp
 rwa [e]at g
theorem y89{L:AW}(r:L.length<=1000){K S:AE}{a b:aF}(p:a.1∈S)(e:b.1∈K)(k:b.1<a.1){out c:AX}(h:cG L a b out)(hb:cG L b a c):
 Yq [n0 "late" [.tup (out.map af),.tup (c.map af)],aR L,.lst (K.map nD),.lst (S.map nD)]=some (.bl true):=by
 have q:=SJ r h hb;obtain⟨u,v⟩:=Me h;have t:Yc (af a)=_:=rfl;have i2:Yc (af b)=_:=rfl;have j:∀x y z:D,_=some y:=λ_ _ _=>rfl;have f:∀x y z:D,aX [x,y,z] 2=some z:=λ_ _ _=>rfl;rw[Yq,Ye (by rfl)];have g:=cv (c:=.lst _) a.1 S false rfl;have i:=cv (c:=.lst _) b.1 K false rfl;simp [nD,p,e,decide_true,if_false]at g i
 have d:(b.1:Int)<a.1:=by ac_nf
 have n:yn [.tup (out.map af),.tup (c.map af),aR L,.lst (K.map nD),.lst (S.map nD)]=some (.bl true):=by
  rw[yn,Ye (by rfl)];simp[Qw,Yd,q,u,v,t,g,i,d]
 have m:=cL (a:="late") (b:="clash") (by decide +kernel) false;have o:=cL (a:="late") (b:="cross") (by decide +kernel) false;have s:=d_ "late" false;have l:Yc (n0 "late" [.tup (out.map af),.tup (c.map af)])=_:=rfl;simp[yv,Yd,m,o,s,f,n]
theorem y41{L:AW}(e:L.length<=1000){K S:AE}{a:aF}{out b:AX}(d:cG L a (aO a) out)(hb:cG L (aO a) a b):
 Yq [n0 "clash" [.tup (out.map af),.tup (b.map af)],aR L,.lst (K.map nD),.lst (S.map nD)]=some (.bl true):=by
 obtain⟨f,g⟩:=Me d;have c:∀x y z:D,aX [x,y,z] 2=some z:=λ_ _ _=>rfl
 have h:yk [.tup (out.map af),.tup (b.map af),aR L]=some (.bl true):=by
  rw[yk,Ye (by rfl)];simp[Qu,Yd,SJ e d hb,f,g,tL a,nY false (aO a) (aO a)]
 rw[Yq,Ye (by rfl)];simp[yv,Yd,d_ "clash" false,c,h]
theorem y42{L:AW}(b:L.length<=1000){hs:AG}(k:hs.length<=60){st:Nat}(a:st<=hs.length)(f:InE L st hs.length){d:D}(h:vc L (ax hs st true) (ax hs st false) d):
 gc [d,aR L,.tup (hs.map aK),.int st]=some (.bl true):=by
 rcases h with h|⟨h,rfl⟩
 .rw[<-l_]
  cases h with
  | clash c e=>exact KI rfl ∅ a (by unfold zl;decide +kernel) (by rw[l_];exact y41 b c e)
  | cross c e j i=>exact KI rfl ∅ a (by unfold zl;decide +kernel) (by rw[l_];exact y40 b c e j i)
  | late c e j i l=>exact KI rfl ∅ a (by unfold zl;decide +kernel) (by rw[l_];exact y89 b c e j i l)
 .have g:=y10 f.rl k (c:=.tup _) rfl ∅ a
  rwa [Sv,wn h,l_]at g
theorem y43{L:AW}{hs:AG}(p:hs.length<=60){st:Nat}(c:st<=hs.length){rows:List c4}(h:fy L (ax hs st true) (ax hs st false) rows):
 i7 [.tup (j_ rows),aR L,.tup (hs.map aK),.int st]=some (.bl true):=by
 have a:=Yi (c:=.tup _) hs rfl ∅ st c true;have d:=Yi (c:=.tup _) hs rfl ∅ st c false;simp [aK,if_true,if_false]at a d;have b:(ax hs st true).Pairwise _:=.filter _ List.pairwise_lt_range;have n:(ax hs st true).length<=60:=Qg (Qn _ _) (by simpa using p)
 have f:rows.length<=1000:=by
  have g:=congrArg List.length h.ks;simp at g;ac_nf
 have k:=y4n f L (b.imp λh=>qm h) (ax hs st false)
 have j:ma rows L (ax hs st true) (ax hs st false)=true:=by
  unfold ma;rw[Qe,Qe,wm,List.all_eq_true,List.all_eq_true];exact⟨⟨h.ks,h.row⟩,h.kept⟩
 rw[j,l_]at k;rw[i7,Yu,Ye (by rfl)];have l:=d_ "plan" false;have o:=cL (a:="eithers") (b:="nots") (by decide +kernel) false;have m:=d_ "eithers" false;have e:Yc (aR L)=some [.str "eithers",_]:=rfl;have i:Yc (.tup (j_ rows))=some [_,_]:=rfl;simp[tr,Yd,e,i,a,d,l,o,m,k]
theorem eJ{j:Nat}{l:AN}(h:∀d∈l,Yj j [d]=some (.bl true)):Yj (j+1) [.tup l]=some (.bl true):=by
 have b:=bG (fe:=JG (Yj j)) (r:=[]) (enc:=λd=>d) (λ_=>.bl true) (l:=l) (λd hd=>by simp[JG,h d hd]);rw[List.map_id']at b
 have a:(l.map λ_=>true).all id=true:=by rw[List.all_map];exact List.all_eq_true.mpr λ_ _=>rfl
 rw[Yj,Ye (by rfl)];simp[nT,Yd,cg,eD,gw,ao,b,f_ (λ_=>true) l,a]
def kc(j:Nat)(i:Int):Yj (j+1) [.int i]=some (.bl true):=by
 rw[Yj,Ye (by rfl)];simp[nT,Yd,cg,eD,gw]
def my(j:Nat)(b:Bool):Yj (j+1) [.bl b]=some (.bl true):=by
 rw[Yj,Ye (by rfl)];simp[nT,Yd,cg,eD,gw]
def oa(j:Nat)(s:Str):Yj (j+1) [.str s]=some (.bl true):=by
 rw[Yj,Ye (by rfl)];simp[nT,Yd,cg,eD,gw,cc,jB]
def jo(j:Nat)(l:AE):Yj (j+2) [.tup (l.map nD)]=some (.bl true):=eJ λd hd=>by
 obtain⟨x,_,rfl⟩:=qy hd;exact kc j x
def vk(j:Nat):Yj (j+1) [.non]=some (.bl true):=by
 rw[Yj,Ye (by rfl)];simp[nT,Yd,cg,eD,gw]
def vl(j:Nat)(l:AF):Yj (j+2) [.tup (l.map D.int)]=some (.bl true):=eJ λd hd=>by
 obtain⟨x,_,rfl⟩:=qy hd;exact kc j x
def Mf(j:Nat)(s:aF):Yj (j+2) [af s]=some (.bl true):=eJ λd hd=>by
 rcases qu hd with rfl|hd
 .exact kc j _
 .rw[List.mem_singleton]at hd
  subst hd;exact my j _
def Mg(j:Nat)(r:AX):Yj (j+3) [.tup (r.map af)]=some (.bl true):=eJ λd hd=>by
 obtain⟨s,_,rfl⟩:=qy hd;exact Mf j s
def y9a(rows:List c4):gh [.tup (j_ rows)]=some (.bl true):=by
 refine eJ λd hd=>?_;rcases qu hd with rfl|hd
 .exact oa 10 _
 .rw[List.mem_singleton]at hd
  subst hd;refine eJ λd hd=>?_;obtain⟨r,_,rfl⟩:=qy hd;refine eJ λd hd=>?_;rcases qu hd with rfl|hd
  .exact kc 8 _
  .rcases qu hd with rfl|hd
   .cases r.2.1 with
    | none=>exact vk 8
    | some x=>exact kc 8 _
   .rw[List.mem_singleton]at hd
    subst hd;exact my 8 _
def zF(x:Str)(a:AW):gh [.tup (.str x::a.map λr=>.tup (r.map af))]=some (.bl true):=by
 refine eJ λd hd=>?_;rcases qu hd with rfl|hd
 .exact oa 10 _
 .obtain⟨r,_,rfl⟩:=qy hd
  exact Mg 8 r
theorem y44(rows:List c4):Yl [.tup (j_ rows)]=some (.bl true):=by
 have b:Yc (.tup (j_ rows))=some [_,_]:=rfl
 have a:(rows.map λ_=>true).all id=true:=by rw[List.all_map];exact List.all_eq_true.mpr λ_ _=>rfl
 rw[Yl,Ye (by rfl)]
 simp[j0,Yd,b,d_ "plan" false,ao,bG (fe:=tH) (r:=[]) (enc:=aS) (λ_=>.bl true) (l:=rows) (λr _=>by
  simp[tH,uD,cg,eD,gw]),f_ (λ_=>true) rows,a]
def Mh(a:D)(l:AN):bN (a::l) (some 1) none=l:=by
 unfold bN
 have d:HT.sIx (a::l).length 0 (some 1)=1:=by simp[HT.sIx]
 have c:HT.sIx (a::l).length (a::l).length none=_+1:=rfl;rw[d,c];simp
theorem Mi{x:String}(e:x="clash"\/x="cross"\/x="late")(b:AW):Yl [.tup (.str (Str.ofString x)::b.map λr=>.tup (r.map af))]=some (.bl true):=by
 have g:az false (.str (.ofString x)) (.str "plan")=some false:=by
  rcases e with rfl|rfl|rfl<;>exact cL (by decide +kernel) false
 have j:az false (.str (.ofString x)) (.str "sums")=some false:=by
  rcases e with rfl|rfl|rfl<;>exact cL (by decide +kernel) false
 have i:b7 false (.str (.ofString x)) (.lst [.str "clash",.str "cross",.str "late"])=some true:=by
  rcases e with rfl|rfl|rfl<;>decide +kernel
 have d:∀r:AX,JK [↑(.tup (r.map af))]=some (.bl true):=λr=>by
  have f:=bG (fe:=JH) (r:=[]) (enc:=af) (λ_=>.bl true) (l:=r) (λs _=>by
   have h:Yc (af s)=_:=rfl
   simp[JH,h,cg,eD,gw])
  have c:=f_ (λ_:aF=>true) r
  have a:(r.map λ_=>true).all id=true:=by rw[List.all_map];exact List.all_eq_true.mpr λ_ _=>rfl
  simp[JK,ao,f,c,a]
 have f:=bG (r:=[]) _ (l:=b) (λr _=>d r);have c:=f_ (λ_:AX=>true) b
 have a:(b.map λ_=>true).all id=true:=by rw[List.all_map];exact List.all_eq_true.mpr λ_ _=>rfl
 rw[Yl,Ye (by rfl)];simp[j0,Yd,g,j,i,Mh,ao,f,c,a]
theorem Yy8:Yl [.tup [.str "broken"]]=some (.bl true):=by
 have a:b7 false (.str "broken") (.lst [.str "clash",.str "cross",.str "late"])=some false:=by decide +kernel
 rw[Yl,Ye (by rfl)];simp[j0,Yd,cL (a:="broken") (b:="plan") (by decide +kernel) false,cL (a:="broken") (b:="sums") (by decide +kernel) false,a]
def y45{L:AW}{K S:AE}{d:D}(h:vc L K S d):∃pl,d=.tup pl/\gh [.tup pl]=some (.bl true)/\Yl [.tup pl]=some (.bl true):=by
 rcases h with h|⟨h,rfl⟩
 .cases h with
  | @clash s a b c e=>exact⟨_,rfl,zF _ [a,b],Mi (.inl rfl) [a,b]⟩
  | @cross s t a c e f g=>exact⟨_,rfl,zF _ [a],Mi (.inr (.inl rfl)) [a]⟩
  | @late s t a b c e f g i=>exact⟨_,rfl,zF _ [a,b],Mi (.inr (.inr rfl)) [a,b]⟩
 .exact⟨_,rfl,zF _ [],Yy8⟩
def dC{f g:AR}{ρ ρ':Ro}{o:Option Out}(h:f ρ=some (.nx ρ'))(k:g ρ'=o):ag f g ρ=o:=by rwa [h9,h]
def mz{f g:AR}{ρ:Ro}{d:D}(h:f ρ=some (.rt d)):ag f g ρ=some (.rt d):=by rw[h9,h,qd];rfl
def mC{c:AT}{f g:AR}{ρ:Ro}(h:c ρ=some true):aM c f g ρ=f ρ:=by rw[ri,h];rfl
def fR{c:AT}{f g:AR}{ρ:Ro}(h:c ρ=some false):aM c f g ρ=g ρ:=by rw[ri,h];rfl
theorem oe{pl:AN}{bk c:D}{st:Int}(w:Bool)(hpl:gh [.tup pl]=some (.bl true))(htr:Yl [.tup pl]=some (.bl true))(hg:(w=true->gc [.tup pl,bk,c,.int st]=some (.bl true))/\(w=false->i7 [.tup pl,bk,c,.int st]=some (.bl true))):
 h_ [bW w (.tup pl),bk,c,.int st]=some (.bl true):=by
 have hgd:yX [.tup pl,bk,c,.int st,aK (!w)]=some (.bl true):=by
  rw[yX,Ye (by rfl)]
  cases w with
  | true=>
    rw[show l3 _=_ from dC (fR (by exact cL (a:="storm") (b:="keeper") (by decide +kernel) false)) (by simp[Yd,hg.1];rfl)];rfl
  | false=>
    rw[show l3 _=_ from mz ((mC (by exact d_ "keeper" false)).trans (by simp[Yd,hg.2];rfl))];rfl
 have ho:bW w (.tup pl)=.tup [aK (!w),.tup pl]:=by cases w<;>rfl
 rw[ho,h_,Ye (by rfl)];have h1:Rk (Yd 4 [.tup [aK (!w),.tup pl],bk,c,.int st])=JL [↑(.tup [aK (!w),.tup pl]),↑bk,↑c,↑(.int st)]:=dC (fR rfl) rfl
 have h2:c_ (bU (b2 (b2 (aa 0) (aab 0) ai) (kD (.str "keeper")) (az true)) (b2 (b2 (aa 0) (aab 0) ai) (kD (.str "storm")) (az true))) (c_ (aZ (b1 (cC (Yb (b2 (aa 0) (aab 1) ai) ae) gh) aD)) (aZ (b1 (cC (Yb (b2 (aa 0) (aab 1) ai) ae) Yl) aD))) [↑(.tup [aK (!w),.tup pl]),↑bk,↑c,↑(.int st)]=some false:=by
  have q:bU (b2 (b2 (aa 0) (aab 0) ai) (kD (.str "keeper")) (az true)) (b2 (b2 (aa 0) (aab 0) ai) (kD (.str "storm")) (az true)) [↑(.tup [aK (!w),.tup pl]),↑bk,↑c,↑(.int st)]=some false:=by cases w<;>rfl
  generalize aK (!w)=hd at *;rw[c_,q];simp[hpl,htr]
 rw[h1,show JL _=_ from dC (fR h2) rfl];generalize aK (!w)=hd at *;simp[hgd,cB]
def Mj(W:AE):gh [.tup [.str "odd",.tup (W.map nD)]]=some (.bl true):=by
 refine eJ λd hd=>?_;rcases qu hd with rfl|hd
 .exact oa 10 _
 .rw[List.mem_singleton]at hd
  subst hd;exact jo 9 W
def y9b(rows:List b9):gh [.tup [.str "sums",.tup (rows.map aE)]]=some (.bl true):=by
 refine eJ λd hd=>?_;rcases qu hd with rfl|hd
 .exact oa 10 _
 .rw[List.mem_singleton]at hd
  subst hd;refine eJ λd hd=>?_;obtain⟨r,_,rfl⟩:=qy hd;refine eJ λd hd=>?_;rcases qu hd with rfl|hd
  .exact kc 8 _
  .rcases qu hd with rfl|hd
   .exact jo 7 _
   .rw[List.mem_singleton]at hd
    subst hd;exact my 8 _
theorem y9c(x:D):Yl [.tup [.str "odd",x]]=some (.bl true):=by
 have a:b7 false (.str "odd") (.lst [.str "clash",.str "cross",.str "late"])=some false:=by decide +kernel
 rw[Yl,Ye (by rfl)];simp[j0,Yd,cL (a:="odd") (b:="plan") (by decide +kernel) false,cL (a:="odd") (b:="sums") (by decide +kernel) false,a]
theorem y46(rows:List b9):Yl [.tup [.str "sums",.tup (rows.map aE)]]=some (.bl true):=by
 have a:(rows.map λ_=>true).all id=true:=by rw[List.all_map];exact List.all_eq_true.mpr λ_ _=>rfl
 rw[Yl,Ye (by rfl)]
 simp[j0,Yd,cL (a:="sums") (b:="plan") (by decide +kernel) false,d_ "sums" false,ao,bG (fe:=tH) (r:=[]) (enc:=aE) (λ_=>.bl true) (l:=rows) (λr _=>by
  simp[tH,uF,cg,eD,gw]),f_ (λ_=>true) rows,a]
theorem y47{R:List Sm}{c:D}{hs:AG}(u:Yc c=some (hs.map aK))(v:hs.length<=60){st:Nat}(f:st<=hs.length){rows:List b9}(h:gT R (ax hs st true) (ax hs st false) rows):
 i7 [.tup [.str "sums",.tup (rows.map aE)],ec R,c,.int st]=some (.bl true):=by
 have b1:=Yi hs u ∅ st f true;have b2:=Yi hs u ∅ st f false;simp only[aK,if_true,Qo,if_false]at b1 b2;have d:(ax hs st true).Pairwise (·<·):=.filter _ List.pairwise_lt_range;have j:=d.imp λh=>qm h
 have m:rows.length<=1000:=by
  have g:=congrArg List.length h.ks;have t:(ax hs st true).length<=60:=Qg (Qn _ _) (by simpa using v);simp at g;ac_nf
 have b:=λr a y i=>Qi (ik ((h.row r a).2.2 y i).1) v
 have w:=y4q m (λr a=>⟨by
  have:=zi ((h.row r a).2.1.imp λh=>qm h) (b r a)
  ac_nf,b r a⟩) R j (ax hs st false)
 have n:md rows R (ax hs st true) (ax hs st false)=true:=by
  unfold md;rw[Qe,Qe,wm,List.all_eq_true,List.all_eq_true];refine⟨⟨h.ks,λr a=>?_⟩,λq x=>?_⟩
  .obtain⟨_,A,t⟩:=h.row r a
   unfold ij gQ;rw[Qe,List.all_eq_true];refine⟨wn A,λy i=>?_⟩;obtain⟨k,C⟩:=t y i;simp[k,C]
  .obtain⟨p,s,rfl⟩:=List.mem_iff_getElem.mp x
   have e:rg R p=R[p]:=by
    unfold rg;rw[List.getD_eq_getElem?_getD,qr s];rfl
   have:=h.kept p s;rw[e]at this;exact kept_kp.mpr this
 rw[n]at w;have l:tp [_,ec R,_,_]=_:=w;rw[i7,Yu,Ye (by rfl)];have B:=cL (a:="sums") (b:="plan") (by decide +kernel) false;have z:=d_ "sums" false;have k:=cL (a:="sums") (b:="nots") (by decide +kernel) false;have o:Yc (ec R)=some _:=rfl;simp[tr,Yd,o,b1,b2,B,z,k,l]
theorem Ml{R:List Sm}(d:R.length<=60){c:D}{hs:AG}(b:Yc c=some (hs.map aK))(e:hs.length<=60){st:Nat}(a:st<=hs.length){W:AH}(h:fO R (ax hs st false) W):
 gc [.tup [.str "odd",.tup ((fl 60 W).map nD)],ec R,c,.int st]=some (.bl true):=by
 have b1:=Yi hs b ∅ st a true;have b2:=Yi hs b ∅ st a false;simp [aK,Qo]at b1 b2;rw[gc,Yr,Ye (by rfl)];simp[lV,Yd,b1,b2,cL (a:="odd") (b:="broken") (by decide +kernel) false,d_ "odd" false,cL (a:="sums") (b:="nots") (by decide +kernel) false,cL (a:="sums") (b:="eithers") (by decide +kernel) false,d_ "sums" false,y4u d h]
def y9d(b:AL)(is js:AF):gh [.tup (fP b is js)]=some (.bl true):=by
 refine eJ λd hd=>?_;rcases qu hd with rfl|hd
 .exact oa 10 _
 .rcases qu hd with rfl|hd
  .cases b with
   | none=>exact vk 10
   | some x=>exact kc 10 _
  .rcases qu hd with rfl|hd
   .exact vl 9 is
   .rw[List.mem_singleton]at hd
    subst hd;exact vl 9 js
def y9e(first:AE)(rows:List ey):gh [.tup (mj first rows)]=some (.bl true):=by
 refine eJ λd hd=>?_;rcases qu hd with rfl|hd
 .exact oa 10 _
 .rcases qu hd with rfl|hd
  .exact jo 9 _
  .rw[List.mem_singleton]at hd
   subst hd;refine eJ λd hd=>?_;obtain⟨r,_,rfl⟩:=qy hd;refine eJ λd hd=>?_;rcases qu hd with rfl|hd
   .exact kc 8 _
   .rw[List.mem_singleton]at hd
    subst hd;exact jo 7 r.2
theorem y48(b:AL)(is js:AF):Yl [.tup (fP b is js)]=some (.bl true):=by
 have a:b7 false (.str "lone") (.lst [.str "clash",.str "cross",.str "late"])=some false:=by decide +kernel
 have c:Yc (.tup (fP b is js))=some (_::_):=rfl;rw[Yl,Ye (by rfl)];simp[j0,Yd,c,cL (a:="lone") (b:="plan") (by decide +kernel) false,cL (a:="lone") (b:="sums") (by decide +kernel) false,a]
theorem y49(first:AE)(rows:List ey):Yl [.tup (mj first rows)]=some (.bl true):=by
 have a:b7 false (.str "rows") (.lst [.str "clash",.str "cross",.str "late"])=some false:=by decide +kernel
 have b:Yc (.tup (mj first rows))=some (_::_):=rfl;rw[Yl,Ye (by rfl)];simp[j0,Yd,b,cL (a:="rows") (b:="plan") (by decide +kernel) false,cL (a:="rows") (b:="sums") (by decide +kernel) false,a]
def vm{n x:Nat}{l:AE}(h:x<n):at' (cb n l) x=decide (x∈l):=by
 unfold at' cb;rw[List.getD_eq_getElem?_getD,Qm,List.getElem?_range h];rfl
def Mm{n:Nat}{l:AE}{r:a9}(hb:∀x∈r.1,x<n)(d:∀x,r.2=some x->x<n)(h:Hl l r):so .i (cb n l) (n3 r)=true:=by
 show(_||_)=true
 cases a:r.1.any _ with
 | true=>rfl
 | false=>
   obtain⟨y,e,c⟩:=h (λx b=>by
    rw[List.any_eq_false]at a;have:=a x b;rw[vm (hb x b)]at this
    simpa using this)
   rw[e];show(_==_)=true;rw[vm (d y e),wn c];rfl
def vn{n:Nat}{l:AE}{R:List a9}{st:Nat}(a:mi R st n)(h:∀q∈R,Hl l q):brk .i (cb n l) (R.map n3)=[]:=by
 unfold brk;rw[List.filter_eq_nil_iff];intro i d;obtain⟨r,c,e⟩:=qy (se (Qb d));rw[<-e,Mm (λx b=>((a r c).2.1 x b).2) (λx b=>((a r c).2.2 x b).2) (h r c)];exact qi
theorem y2p(j:Nat){R:List a9}{hs:AG}(C:hs.length<=60){st:Nat}(p:st<=hs.length)(i:mi R st hs.length){first:AE}{rows:List ey}(h:ez R (ax hs st true) (ax hs st false) first rows):
 Yu (j+1) [.tup (mj first rows),Yt R,.tup (hs.map aK),.int st]=some (.bl true):=by
 have b1:=Yi (c:=.tup (hs.map aK)) hs rfl ∅ st p true;have b2:=Yi (c:=.tup (hs.map aK)) hs rfl ∅ st p false;simp only[aK,if_true,Qo,if_false]at b1 b2;have I:(ax hs st false).length<=60:=Qg (Qn _ _) (by simpa using C);have f:∀x∈ax hs st true,x<60:=λx k=>Qi (ik k) C
 have m:∀l:AE,l.Pairwise (·<·)->(∀y∈l,y∈ax hs st true)->l.length<=100:=λl B A=>by
  have:=nX 60 l (B.imp λh=>qm h) (λx k=>f x (A x k));ac_nf
 have z:rows.length<=100:=by
  have g:=congrArg List.length h.rs;simp at g;ac_nf
 have t:∀r∈R.map n3,In .i hs.length r:=λr d=>by
  obtain⟨q,F,rfl⟩:=qy d;exact⟨.inl rfl,λx k=>((i q F).2.1 x k).2,λx k=>((i q F).2.2 x k).2⟩
 have E:=y4r (first:=first) (λx k=>f x (h.fK.2 x k)) (m first h.fK.1 h.fK.2) (rows:=rows) z (λr d=>⟨m r.2 (h.rK r d).1 (h.rK r d).2.1,λy v=>f y ((h.rK r d).2.1 y v)⟩) (n:=hs.length) ∅ t (ax hs st true) (S:=ax hs st false) ∅
 have o:ji first rows (R.map n3) (ax hs st true) (ax hs st false) hs.length=true:=by
  have e:∀l:AE,l.Pairwise (·<·)->(∀y∈l,y∈ax hs st true)->j6 l (ax hs st true)=true:=λl B A=>by
   unfold j6 gQ;rw[Qe,List.all_eq_true];exact⟨wn B,λy v=>wn (A y v)⟩
  unfold ji;rw[Qe,Qe,Qe,wm,List.all_eq_true,List.all_eq_true];refine⟨⟨⟨e first h.fK.1 h.fK.2,h.rs⟩,λr d=>?_⟩,λl s=>?_⟩
  .unfold d4
   rw[Qe,wm];exact⟨e r.2 (h.rK r d).1 (h.rK r d).2.1,(h.rK r d).2.2⟩
  .rw[wm]
   unfold dt at s;rcases qu s with rfl|s
   .exact vn i h.h0
   .obtain⟨r,d,rfl⟩:=qy s
    exact vn i (h.hb r d)
 rw[o,KM]at E;clear o h m;rw[Yu,Ye (by rfl)];have K:=cL (a:="rows") (b:="plan") (by decide +kernel) false;have H:=cL (a:="rows") (b:="sums") (by decide +kernel) false;have M:=d_ "rows" false;have J:=cL (a:="ifs") (b:="nots") (by decide +kernel) false;have L:=d_ "ifs" false;have w:=J2 R;have u:Yc (.tup (mj first rows))=some [.str "rows",.tup (first.map nD),.tup (rows.map bK)]:=rfl;have G:∀a b c:D,aX [a,b,c] 2=some c:=λa b c=>rfl
 have n:((hs.map aK).length:Int)=(hs.length:Int):=by simp
 generalize Yt R=O,hs.map aK=N at *;simp[tr,Yd,w,u,b1,b2,K,H,M,J,L,G,n,E]
theorem y5a(j:Nat){R:List a9}{hs:AG}(g:hs.length<=60){st:Nat}(a:st<=hs.length)(d:mi R st hs.length){b:AL}{is js:AF}(h:gU R (ax hs st true) (ax hs st false) b is js):
 Yr (j+1) [.tup (fP b is js),Yt R,.tup (hs.map aK),.int st]=some (.bl true):=by
 have n:(ax hs st false).length<=60:=Qg (Qn _ _) (by simpa using g);have q:(ax hs st true).length<=60:=Qg (Qn _ _) (by simpa using g);have i:=y4j R ∅ (λr t x c=>((d r t).2.2 x c).2) (Kp:=ax hs st true) (S:=ax hs st false) (λx c=>ik c) (λx c=>ik c) ∅ ∅ b (is:=is) (js:=js) (by have:=h.2.1;ac_nf) (by have:=h.2.2;ac_nf);rw[h.1]at i;have e:sU [.tup (fP b is js),_,_,_]=_:=i;have b1:=Yi (c:=.tup _) hs rfl ∅ st a true;have b2:=Yi (c:=.tup _) hs rfl ∅ st a false;simp [aK,if_true,Qo,if_false]at b1 b2;rw[Yr,Ye (by rfl)];have l:=cL (a:="lone") (b:="broken") (by decide +kernel) false;have u:=cL (a:="lone") (b:="odd") (by decide +kernel) false;have m:=d_ "lone" false;have p:=cL (a:="ifs") (b:="nots") (by decide +kernel) false;have k:=cL (a:="ifs") (b:="eithers") (by decide +kernel) false;have s:=d_ "ifs" false;have o:=J2 R;have f:Yc (.tup (fP b is js))=some (_::_):=rfl;simp[lV,Yd,f,b1,b2,l,u,m,p,k,s,e]
noncomputable def jq:Rl->AX
 | .ei l=>l
 | _=>[]
noncomputable def toS:Rl->Sm
 | .su b o=>(λx=>decide (x∈b),o)
 | _=>(λ_=>false,false)
noncomputable def gj:Rl->a9
 | .im b h=>(b,h)
 | _=>([],none)
def Dr(k:Kd)(st n:Nat)(r:Rl):Prop:=In k n r/\dU r/\∀x∈d8 r,st<=x
def mD:Kd->List Rl->AE->AE->Bool->Prop
 | .e,R,K,S,true=>cx (R.map jq) K S
 | .e,R,K,S,false=>∃a,fy (R.map jq) K S a
 | .s,R,_,S,true=>∃W,fO (R.map toS) S W
 | .s,R,K,S,false=>∃a,gT (R.map toS) K S a
 | _,R,K,S,true=>∃b d c,jh (R.map gj) K S b d c=true
 | _,R,K,S,false=>∃f a,ez (R.map gj) K S f a
theorem Mn(h:p<R.length):rg R p∈R:=by
 unfold rg
 ext
theorem Mo(h:∀r∈R,Dr .e st n r):InE (R.map jq) st n/\bz .e R=aR (R.map jq):=by
 have i:∀r∈R,r=.ei (jq r):=λr a=>by
  cases r with
  | ei l=>rfl
  | su b o=>cases (h _ a).1.1
  | im b o=>rcases(h _ a).1.1 with z|z<;>cases z
 refine⟨λl g=>?_,?_⟩
 .obtain⟨r,a,rfl⟩:=qy g
  obtain⟨f,c,d⟩:=h r a;rw[i r a]at f c d;exact⟨c,λs e=>⟨d s.1 (List.mem_map.mpr ⟨s,e,rfl⟩),f.2 s e⟩⟩
 .show D.tup _=.tup _
  rw[Qf,Qq λr a=>show aI r=(nZ ∘ jq) r by
   grind]
theorem Mp(hn:n<=60)(h:∀r∈R,Dr .s st n r):Sh (R.map toS) st n/\bz .s R=ec (R.map toS):=by
 refine⟨λq i=>?_,?_⟩
 .obtain⟨r,e,rfl⟩:=qy i
  obtain⟨a,g,f⟩:=h r e
  cases r with
  | ei l=>cases a.1
  | im b o=>rcases a.1 with z|z<;>cases z
  | su b o=>
    intro x _ d;have c:=wq d;exact⟨f x c,a.2 x c⟩
 .show D.tup _=.tup [aU .s,_]
  rw[Qf,Qq λr e=>show aI r=(aW ∘ toS) r by
   obtain⟨a,g,f⟩:=h r e
   cases r with
   | ei l=>cases a.1
   | im b o=>rcases a.1 with z|z<;>cases z
   | su b o=>exact tW g (λx d=>by have:=a.2 x d;lia) o]
theorem vo(j:k=.i\/k=.n){R:List Rl}(h:∀r∈R,Dr k st n r):mi (R.map gj) st n/\R.map aI=(R.map gj).map dA/\R.map b8=R:=by
 have c:∀r∈R,r=.im (gj r).1 (gj r).2:=λr c=>by
  cases r with
  | ei l=>rcases j with rfl|rfl<;>cases (h _ c).1.1
  | su b o=>rcases j with rfl|rfl<;>cases (h _ c).1.1
  | im b o=>rfl
 refine⟨λq m=>?_,?_,?_⟩
 .obtain⟨r,a,rfl⟩:=qy m
  obtain⟨g,i,e⟩:=h r a;rw[c r a]at g i e;generalize gj r=q at *;obtain⟨b,o⟩:=q;refine⟨i,λx d=>⟨e x ?_,g.2.1 x d⟩,λx d=>⟨e x ?_,g.2.2 x d⟩⟩
  .cases o with
   | none=>exact d
   | some y=>exact List.mem_append.mpr (.inl d)
  .have f:=d
   subst f;exact List.mem_append.mpr (.inr nofun)
 .rw[Qf,Qq λr a=>show aI r=(dA ∘ gj) r by
   conv=>lhs;rw[c r a]
   rfl]
 .conv=>rhs;rw[<-List.map_id R]
  exact Qq λr a=>by
   rw[c r a];rfl
def gv(Hd:AG->Prop)(hs:AG):Nat->AG->Prop
 | 0,ev=>Hd ev
 | m+1,ev=>if at' hs ev.length=true then ∃b,gv Hd hs m (ev++[b])else ∀b,gv Hd hs m (ev++[b])
def fS(hs:AG)(w:Bool)(f:AG->Bool)(n:Nat)(e:AG):Prop:=∀i,n<=i->i<e.length->at' hs i=w->at' e i=f (e.take i)
def Mq(ev:AG)(b:Bool)(t:AG):at' (ev++b::t) ev.length=b:=by simp[at']
theorem SK{hs:AG}{w:Bool}{f:AG->Bool}{ev t:AG}{b:Bool}(c:at' hs ev.length=w->b=f ev)(h:fS hs w f (ev.length+1) (ev++b::t)):fS hs w f ev.length (ev++b::t):=λi g d a=>by
 by_cases e:i=ev.length
 .subst e
  rw[Mq,List.take_left']
  .exact c a
  .rfl
 .exact h i (by lia) d a
theorem vp{g:AG->Prop}{hs:AG}{f:AG->Bool}:∀(m:Nat) (ev:AG),(∀t:AG,t.length=m->fS hs true f ev.length (ev++t)->g (ev++t))->gv g hs m ev
 | 0,ev,h=>by
   have:=h [] rfl (λi n k _=>by simp at k;lia);show g ev;simpa using this
 | m+1,ev,h=>by
   have a:=λb l=>vp m _ λt j d=>by
    have e:ev++[b]++t=ev++b::t:=by simp
    rw[e]at d ⊢;rw[qz]at d;exact h _ (by simp[j]) (SK l d)
   unfold gv;by_cases c:at' hs ev.length=true
   .rw[if_pos c]
    exact⟨f ev,a _ λ_=>rfl⟩
   .rw[if_neg c]
    exact λb=>a b λz=>absurd z c
theorem vq{g:AG->Prop}{hs:AG}{f:AG->Bool}:∀(m:Nat) (ev:AG),(∀t:AG,t.length=m->fS hs false f ev.length (ev++t)->¬g (ev++t))->¬gv g hs m ev
 | 0,ev,h=>λz=>by
   have:=h [] rfl (λi n k _=>by simp at k;ac_nf);have z:g ev:=z;exact this (by simpa using z)
 | m+1,ev,h=>by
   have a:=λb l=>vq m _ λt j d=>by
    have e:ev++[b]++t=ev++b::t:=by simp
    rw[e]at d ⊢;rw[qz]at d;exact h _ (by simp[j]) (SK l d)
   unfold gv;by_cases c:at' hs ev.length=true
   .rw[if_pos c]
    intro ⟨b,z⟩;exact a b (λq=>by rw[c]at q;cases q) z
   .rw[if_neg c]
    exact λz=>a _ (λ_=>rfl) (z _)
def mem_ofH{hs:AG}{st x:Nat}{b:Bool}:x∈ax hs st b↔x<hs.length/\st<=x/\at' hs x=b:=by
 unfold ax at';simp[Ql]
theorem jr{hs:AG}{w:Bool}{f:AG->Bool}{st:Nat}{e:AG}(g:e.length=hs.length)(h:fS hs w f st e){x:Nat}(b:x∈ax hs st w):at' e x=f (e.take x)/\(e.take x).length=x/\∀y,y<x->at' (e.take x) y=at' e y:=by
 obtain⟨i,d,a⟩:=mem_ofH.mp b;refine⟨h x d (by ext) a,by rw[List.length_take];lia,λy c=>?_⟩;unfold at';simp[c]
theorem SM{b:Type}(key:b->Nat){r:b}:∀{rows:List b},(rows.map key).Nodup->r∈rows->rows.find? (λq=>key q==key r)=some r
 | [],_,h=>nomatch h
 | a::rows,c,h=>by
   rw[Qd,List.nodup_cons]at c;rw[List.find?_cons];by_cases e:key a=key r
   .rcases qu h with rfl|h
    .simp
    .exact absurd (e ▸ Qs h) c.1
   .rcases qu h with rfl|h
    .exact absurd rfl e
    .have d:(key a==key r)=false:=by simp[e]
     rw[d];exact SM key c.2 h
noncomputable def jt{a:Type}(c:a->Nat)(b:a->AG->Bool)(rows:List a)(ev:AG):Bool:=match rows.find? (λr=>c r==ev.length)with
 | some r=>b r ev
 | none=>false
def Mr(hs:AG)(st:Nat)(b:Bool):(ax hs st b).Nodup:=.sublist List.filter_sublist List.nodup_range
def SN{hs:AG}{st:Nat}{b:Type}{key:b->Nat}{m:b->AG->Bool}{rows:List b}(d:rows.map key=ax hs st true)(k:∀r∈rows,∀e c:AG,(∀y,y<key r->at' e y=at' c y)->m r e=m r c){e:AG}(j:e.length=hs.length)(i:fS hs true (jt key m rows) st e):∀r∈rows,at' e (key r)=m r e:=λr a=>by
 have l:key r∈ax hs st true:=by rw[<-d];exact Qs a
 obtain⟨h,g,f⟩:=jr j i l;rw[h];unfold jt;rw[g,SM key (by rw[d];exact Mr ..) a];exact k r a _ _ f
def gX(r:c4)(ev:AG):Bool:=match r.2.1 with
 | none=>r.2.2
 | some x=>at' ev x==r.2.2
def endB(ev:AG)(e:e_):Bool:=match e.1 with
 | none=>e.2
 | some x=>at' ev x==e.2
def Ms{rows:List c4}{ev:AG}(a:∀r∈rows,at' ev r.1=gX r ev)(s:aF):(at' ev s.1==s.2)=endB ev (cO rows s):=by
 unfold cO
 cases b:rows.find? _ with
 | none=>rfl
 | some r=>
   have c:=List.find?_some b;simp at c;rw[<-c,a r (List.mem_of_find?_eq_some b)];unfold gX endB;dsimp only
   cases r.2.1 with
   | none=>cases r.2.2<;>cases s.2<;>rfl
   | some x=>
     dsimp only;cases at' ev x<;>cases r.2.2<;>cases s.2<;>rfl
def Mt{rows:List c4}{ev:AG}(b:∀r∈rows,at' ev r.1=gX r ev){l:AX}(a:ig (l.map (cO rows))=true):so .e ev (.ei l)=true:=by
 show(l.any _)=true;unfold ig at a;rw[List.any_eq_true]at a ⊢;obtain⟨e,c,a⟩:=a;obtain⟨s,g,rfl⟩:=qy c;rw[Bool.or_eq_true]at a;rcases a with a|a
 .have h:=wq a
  refine⟨s,g,?_⟩;rw[Ms b s,h];rfl
 .have h:=wq a
  obtain⟨t,d,e⟩:=qy h
  cases f:(at' ev s.1==s.2)with
  | true=>exact⟨s,g,f⟩
  | false=>
    refine⟨t,d,?_⟩;rw[Ms b s]at f;rw[Ms b t,e]
    revert f
    unfold endB ic;dsimp only
    cases (cO _ s).1 with
    | none=>cases (cO _ s).2<;>simp
    | some x=>cases at' ev x<;>cases (cO _ s).2<;>simp
def mE(r:b9)(ev:AG):Bool:=od r.2.1 (at' ev)!=r.2.2
theorem vt(F:Nat->AH)(m:AE):∀l:AE,od l (λx=>od m (λy=>F x y))=od m (λy=>od l (λx=>F x y))
 | []=>by
   rw[zp,n7];exact λ_ _=>rfl
 | a::l=>by
   rw[gR,vt F m l,<-zq];exact gS λy _=>(gR a l λx=>F x y).symm
def vu(b:Bool)(l:AE)(f:AH):(b&&od l f)=od l (λy=>b&&f y):=by
 cases b with
 | true=>rfl
 | false=>exact(n7 λ_ _=>rfl).symm
def Mu(T E:AH)(F:Nat->AH):xr T (λx=>xr (F x) E)=xr E (λy=>xr T (λx=>F x y)):=by
 unfold xr;have a:od (.range 60) (λy=>E y&&od (.range 60) λx=>T x&&F x y)=_:=gS λx _=>vu _ _ _;rw[gS λx _=>vu _ _ _,a,vt]
 exact gS λy _=>gS λx _=>by cases T x<;>cases F x y<;>cases E y<;>rfl
theorem Mv{rows:List b9}{e:AG}(b:∀r∈rows,r.1<60/\r.2.1.Pairwise (·<·)/\∀y∈r.2.1,y<r.1)(c:∀r∈rows,at' e r.1=mE r e){T:AH}{o:Bool}(h:kp rows T o):xr T (at' e)=o:=by
 have f:∀x,x<60->at' e x=(xr (cM _ x).1 _ != (cM _ x).2):=λx f=>by
  unfold cM;by_cases a:x∈rows.map (·.1)
  .obtain⟨g,l⟩:=Lk a
   obtain⟨p,m,i⟩:=b _ g;have:=c _ g;rw[l]at this;rw[this,zr _ (m.imp qm) λy d=>Nat.lt_trans (i y d) p];rfl
  .rw[zt a,zr _ nofun (by simpa using f),gR]
   cases at' e x<;>rfl
 have n:_=xr T (λx=>_ != _):=mf λx h=>by rw[<-f x h]
 have k:xr T (λx=>xr (cM rows x).1 (at' e)!=(cM rows x).2)=(xr T (λx=>xr (cM rows x).1 (at' e))!=xr T (λx=>(cM rows x).2)):=by
  unfold xr;rw[<-zq]
  exact gS λx _=>by
   cases T x
   .rfl
   .simp
 rw[n,k,Mu,h.2]
 have j:xr _ _=_:=n7 λy d=>by
  show(at' e y&&xr T λx=>(cM rows x).1 y)=_;rw[h.1 y (Qb d)];cases at' e y<;>rfl
 rw[j];cases o<;>rfl
def vv{e:AG}{b:AE}{o:Bool}(c:b.Pairwise (·<·))(a:∀x∈b,x<60):so .s e (.su b o)=(xr (λx=>decide (x∈b)) (at' e)==o):=by
 rw[zr _ (c.imp qm) a];rfl
def mF(first:AE)(rows:List ey)(w:Bool)(ev:AG):Bool:=(decide (ev.length∈first)&&rows.all λr=>decide (ev.length<=r.1)||((at' ev r.1==w)||decide (ev.length∈r.2)))==w
theorem win{hs:AG}{st:Nat}{first:AE}{rows:List ey}{w:Bool}{e:AG}(f:rows.map (·.1)=ax hs st false)(A:∀r∈rows,∀x∈r.2,x∈ax hs st true)(o:∀r∈rows,∀x,x∈first->x<r.1->x∈r.2)(D:e.length=hs.length)(E:fS hs true (mF first rows w) st e){x:Nat}(F:st<=x)(C:x<hs.length):
 at' e x=w↔x∈ax hs st false++first/\∀r∈rows,¬at' e r.1=w->x∈(ax hs st false).filter (λy=>!decide (y=r.1))++r.2:=by
 have u:∀r∈rows,r.1∈ax hs st _:=λr d=>by rw[<-f];exact Qs d
 rcases uR F C with a|c
 .have c:=zu x a
  constructor
  .intro j
   refine⟨List.mem_append.mpr (.inl a),λr d hd=>List.mem_append.mpr (.inl (List.mem_filter.mpr ⟨a,?_⟩))⟩;by_cases z:x=r.1
   .exact absurd (z ▸ j) hd
   .simp[z]
  .intro ⟨_,g⟩
   by_cases j:at' e x=w
   .exact j
   .have i:=a
    rw[<-f]at i;obtain⟨r,d,rfl⟩:=qy i;rcases qw (g r d j)with z|z
    .have:=(Qc z).2
     simp at this
    .exact absurd (A r d _ z) c
 .have a:=λz=>zu x z c
  obtain⟨p,n,t⟩:=jr D E c
  have h:at' e x=w↔x∈first/\∀r∈rows,r.1<x->¬at' e r.1=w->x∈r.2:=by
   rw[p];unfold mF;rw[n]
   have s:∀b,(b==w)=w↔b=true:=by cases w<;>intro b<;>cases b<;>simp
   rw[s,Qe,wm,List.all_eq_true];refine and_congr_right λ_=>forall_congr' λr=>forall_congr' λd=>?_;by_cases m:r.1<x
   .rw[t _ m]
    have k:¬x<=r.1:=by lia
    by_cases q:at' e r.1=w<;>simp[m,k,q]
   .have k:x<=r.1:=by ext
    simp[m,k]
  rw[h]
  have s:x∈ax hs st false++first↔x∈first:=by rw[List.mem_append];exact⟨λz=>z.resolve_left a,.inr⟩
  have B:∀r:ey,x∈(ax hs st _).filter (λy=>!decide (y=r.1))++r.2↔x∈r.2:=λr=>by
   rw[List.mem_append];exact⟨λz=>z.resolve_left λz=>a (Qc z).1,.inr⟩
  rw[s];refine and_congr_right λl=>forall_congr' λr=>forall_congr' λd=>?_;rw[B];constructor
  .intro g hd
   by_cases m:r.1<x
   .exact g m hd
   .by_cases v:x=r.1
    .exact absurd (by rw[v];exact u r d) a
    .exact o r d x l (by lia)
  .intro g _ hd
   exact g hd
theorem vw{k:Kd}{w:Bool}(i:decide (k=.i)=w){e:AG}{b:AE}{h:AL}:so k e (.im b h)=true↔((∀x∈b,at' e x=w)->∃y,h=some y/\at' e y=w):=by
 show(_||_)=true↔_;rw[i,Bool.or_eq_true,List.any_eq_true];constructor
 .intro q d
  rcases q with⟨x,c,q⟩|q
  .rw[d x c]at q
   simp at q
  .cases h with
   | none=>cases q
   | some y=>exact⟨y,rfl,by simpa [Bk.hd]using q⟩
 .intro q
  by_cases d:∀x∈b,at' e x=w
  .obtain⟨y,rfl,g⟩:=q d
   exact .inr (by simp[Bk.hd,g])
  .refine .inl ?_
   have ⟨x,c⟩:=Classical.not_forall.mp d;have ⟨f,c⟩:=Classical.not_imp.mp c;exact⟨x,f,by simp[c]⟩
theorem Mw{k:Kd}{R:List Rl}{hs:AG}{st:Nat}(S:hs.length<=60)(D:∀r∈R,Dr k st hs.length r)(v:mD k R (ax hs st true) (ax hs st false) false):∃f,∀e:AG,e.length=hs.length->fS hs true f st e->∀r∈R,so k e r=true:=by
 have L:(k=.i\/k=.n)->(∃f a,ez (R.map gj) (ax hs st true) (ax hs st false) f a)->∃f,∀e,e.length=_->fS hs _ f st e->∀r∈R,so k e r=true:=λJ ⟨j,a,g⟩=>by
  obtain⟨w,O⟩:∃w,decide (k=.i)=w:=⟨_,rfl⟩
  refine⟨mF j a w,λe s t r n=>?_⟩
  have W:=λx (m:st<=x) C=>win g.rs (λr d=>(g.rK r d).2.1) (λr d x c I=>by
   have:x∈j.filter λy=>decide (y<r.1):=List.mem_filter.mpr ⟨c,wn I⟩;rw[<-(g.rK r d).2.2]at this
   exact(Qc this).1) s t m C
  have M:gj r∈_:=Qs n;obtain⟨m,C,u⟩:=D r n
  cases r with
  | ei l=>rcases J with rfl|rfl<;>cases m.1
  | su b o=>rcases J with rfl|rfl<;>cases m.1
  | im b h=>
    have B:∀x∈b,_/\_:=λx c=>⟨u x (by
     cases h with
     | none=>exact c
     | some y=>exact List.mem_append.mpr (.inl c)),m.2.1 x c⟩
    rw[vw O];intro A;obtain⟨y,G,E⟩:=g.h0 _ M λx c=>((W x (B x c).1 (B x c).2).mp (A x c)).1;subst G;refine⟨y,rfl,(W y (u y (List.mem_append.mpr (.inr nofun))) (m.2.2 y rfl)).mpr ⟨E,λr d hd=>?_⟩⟩;obtain⟨T,F,H⟩:=g.hb r d _ M λx c=>((W x (B x c).1 (B x c).2).mp (A x c)).2 r d hd;cases F;exact H
 cases k with
 | e=>
   obtain⟨a,g⟩:=v;refine⟨jt (λr=>r.1) gX a,λe s t r n=>?_⟩
   have p:=SN g.ks (λr d e F h=>by
    have:=g.row r d;unfold dQ at this;unfold gX
    cases q:r.2.1 with
    | none=>rfl
    | some x=>
      rw[q]at this;simp at this;dsimp only
      rw[h x this.2]) s t
   cases r with
   | ei l=>exact Mt p (g.kept l (List.mem_map.mpr ⟨_,n,rfl⟩))
   | su b o=>cases (D _ n).1.1
   | im b h=>rcases(D _ n).1.1 with z|z<;>cases z
 | s=>
   obtain⟨a,g⟩:=v;refine⟨jt (λr=>r.1) mE a,λe s t r n=>?_⟩
   have p:=SN g.ks (λr d e F h=>by
    unfold mE
    rw[gS λx c=>h x ((g.row r d).2.2 x c).2]) s t
   obtain⟨m,C,_⟩:=D r n
   cases r with
   | ei l=>cases m.1
   | im b h=>rcases m.1 with z|z<;>cases z
   | su b o=>
     rw[vv C λx c=>by have:=m.2 x c;lia];obtain⟨i,K,N⟩:=List.mem_iff_getElem.mp (Qs n);have u:=g.kept i K
     have Q:rg (R.map toS) i=toS (.su b o):=by
      unfold rg;rw[List.getD_eq_getElem?_getD,qr K,N];rfl
     rw[Q]at u;rw[Mv (λr d=>⟨(g.row r d).1,(g.row r d).2.1,λy G=>((g.row r d).2.2 y G).2⟩) p (T:=λx=>decide _) (o:=o) u];simp
 | i=>exact L (.inl rfl) v
 | n=>exact L (.inr rfl) v
def Mx{L:AW}(q:∀l∈L,eI l){e:AG}(o:∀l∈L,∃u∈l,at' e u.1=u.2){s t:aF}(h:ed L s t)(hs:at' e s.1=s.2):at' e t.1=t.2:=by
 obtain⟨l,n,c,j,m⟩:=h;obtain⟨u,f,i⟩:=o l n
 have d:u≠aO s:=λz=>by
  subst z;have i:at' e s.1=!s.2:=i;rw[hs]at i;cases r:s.2<;>rw[r]at i<;>cases i
 by_cases g:u=t
 .subst g
  exact i
 .obtain⟨p,v⟩:=q l n
  match l,p,v,c,j,m,f with
  | [a],_,_,c,_,_,f=>
    simp at c f;exact absurd (f.trans c.symm) d
  | [a,b],_,_,c,j,m,f=>
    have k:t≠aO s:=λz=>by have:=m z;simp at this
    simp at c j f;rcases f with rfl|rfl
    .rcases c with z|z
     .exact absurd z.symm d
     .rcases j with y|y
      .exact absurd y.symm g
      .exact absurd (y.trans z.symm) k
    .rcases c with z|z
     .rcases j with y|y
      .exact absurd (y.trans z.symm) k
      .exact absurd y.symm g
     .exact absurd z.symm d
theorem vy{L:AW}(b:∀l∈L,eI l){e:AG}(a:∀l∈L,∃u∈l,at' e u.1=u.2){s t:aF}(h:Rch L s t)(hs:at' e s.1=s.2):at' e t.1=t.2:=by
 induction h with
 | refl=>exact hs
 | step _ d c=>exact Mx b a d c
theorem My{L:AW}(j:∀l∈L,eI l){hs:AG}{st:Nat}(b:cx L (ax hs st true) (ax hs st false)):∃f,∀e:AG,e.length=hs.length->fS hs false f st e->¬∀l∈L,∃u∈l,at' e u.1=u.2:=by
 have q:∀(e:_) (s:aF),¬at' e s.1=s.2->_:=λe s h=>by
  show at' e s.1=!s.2
  cases i:at' e s.1<;>cases a:s.2<;>rw[i,a]at h<;>first|rfl|exact absurd rfl h
 have k:∀(e:_) (s:aF),at' e s.1=s.2->_->False:=λe s h m=>by
  have m:at' e s.1=!s.2:=m;rw[h]at m;cases a:s.2<;>rw[a]at m<;>cases m
 cases b with
 | broken h=>exact⟨λ_=>false,λe _ _ c=>by
  obtain⟨u,B,_⟩:=c [] h
  cases B⟩
 | clash s i a=>
   refine⟨λ_=>false,λe _ _ c=>?_⟩;by_cases hs:at' e s.1=s.2
   .exact k e s hs (vy j c i hs)
   .exact hs (vy j c a (q e s hs))
 | cross s t i a r v=>
   refine⟨λp=>if p.length=s.1 then s.2 else !t.2,λe n o c=>?_⟩;obtain⟨d,w,_⟩:=jr n o i;obtain⟨g,A,_⟩:=jr n o a;rw[w,if_pos rfl]at d;rw[A]at g;have x:=vy j c v d;rw[x]at g;by_cases z:t.1=s.1
   .rw[if_pos z]at g
    exact r (Prod.ext z.symm g.symm)
   .rw[if_neg z]at g
    cases a:t.2<;>rw[a]at g<;>cases g
 | late s t i a r v C=>
   refine⟨λp=>if at' p t.1=t.2 then !s.2 else s.2,λe n o c=>?_⟩;obtain⟨d,w,y⟩:=jr n o i;rw[y _ r]at d;by_cases z:at' e t.1=t.2
   .rw[if_pos z]at d
    exact k e s (vy j c C z) d
   .rw[if_neg z]at d
    exact z (vy j c v d)
theorem Mz{R:List Sm}{hs:AG}{st:Nat}{W:AH}(b:fO R (ax hs st false) W):∃f,∀e:AG,e.length=hs.length->fS hs false f st e->¬∀p,p<R.length->xr (rg R p).1 (at' e)=(rg R p).2:=by
 obtain⟨b1,b2⟩:=b
 have c:∀e,(∀p,_->_)->xr (tP R W) _=_:=λe h=>
  Ko (Q:=λT o=>xr T (at' e)=o) (uL λ_ _=>rfl) (λa i=>by rw[uH,a,i]) (λa i=>by rw[<-a];exact mf λx g=>by rw[i x g]) λp k=>h p (b1 p (Qc k).2)
 rcases b2 with⟨r,a⟩|⟨l,v,d⟩
 .refine⟨λ_=>false,λe _ _ h=>?_⟩
  have:=c e h;rw[uL (fl_nil.mp r),a]at this;cases this
 .refine⟨λt=>!(aJ R (fl 60 W)!=xr (wl (tP R W) l) (at' t)),λe m w h=>?_⟩
  obtain⟨y,z,u⟩:=jr m w v
  have q:xr (wl _ l) (at' (e.take l))=xr (wl _ l) (at' e):=mf λx g=>by
   cases j:wl _ l x with
   | false=>rfl
   | true=>
     unfold wl at j;rw[Qe]at j;have a:=d.2.2 x g j.1;rw[u x ∅]
  have:=c e h;rw[jk d.1 d.2.1,y,q]at this;cases s:aJ R _<;>cases n:xr _ _<;>rw[s,n]at this<;>cases this
theorem MD{R:List a9}{hs:AG}{st:Nat}{b:AL}{d js:AF}(w:Bool)(L:jh R (ax hs st true) (ax hs st false) b d js=true):∃f,∀e:AG,e.length=hs.length->fS hs false f st e->¬∀q∈R,(∀x∈q.1,at' e x=w)->∃y,q.2=some y/\at' e y=w:=by
 unfold jh at L;rw[Qe]at L;obtain⟨O,J⟩:=L;unfold n5 at J;simp only[Qe,wm,Bool.or_eq_true]at J;obtain⟨_,N,Q,U,T⟩:=J
 have u:∀e,(∀q∈R,(∀x∈q.1,at' e x=w)->∃y,q.2=some y/\at' e y=w)->∀{d:_}{s:_},bP R s d=true->(∀x∈s,at' e x=w)->∀x∈s++bg R d,at' e x=w:=λe j d=>by
  induction d with
  | nil=>
    intro s _ n x a;rcases qw a with h|h
    .exact n x h
    .cases h
  | cons i d Y=>
    intro s hd n x a;have t:(_&&_)=true:=hd;rw[Qe]at t;obtain⟨C,H⟩:=t;unfold eZ at C;rw[Qe,Qe,wm]at C;obtain⟨g,G,F⟩:=C;obtain⟨y,p,m⟩:=j _ (zw g) λx a=>n x (wq (List.all_eq_true.mp F x a))
    have S:bj (aw R i)=y:=by unfold bj;rw[p];rfl
    refine Y H (λz k=>?_) x ?_
    .rcases qw k with h|h
     .exact n z h
     .rw[List.mem_singleton]at h
      rw[h,S];exact m
    .rw[w9]
     exact a
 have r:∀e,_->_->∃x,b=some x/\at' e x=w:=λe j n=>by
  have:=u e j Q n;obtain⟨y,p,m⟩:=j _ (zw N) λx a=>this x (wq (List.all_eq_true.mp U x a));rcases T with q|q
  .rw[q]at p
   cases p
  .exact⟨y,q.symm.trans p,m⟩
 cases b with
 | none=>
   refine⟨λ_=>w,λe E D j=>?_⟩
   obtain⟨x,z,_⟩:=r e j λx a=>by
    rcases qw a with q|q
    .exact(jr E D (Qc q).1).1
    .cases q
   cases z
 | some A=>
   have o:(_&&_)=true:=O;rw[Qe,wm]at o;obtain⟨K,B⟩:=o;refine⟨λM=>if M.length=A then (if (eG R (ax hs st true) (some A) d).all (λz=>at' M z==w)=true then !w else w)else w,λe E D j=>?_⟩
   have v:∀x _,_->at' e x=w:=λx a z=>by
    obtain⟨g,G,_⟩:=jr E D a;rw[g,G,if_neg z]
   obtain⟨g,G,F⟩:=jr E D K;rw[G,if_pos rfl]at g
   have l:∀z∈eG R (ax hs st true) (some A) d,_:=λz k=>by
    have:=(Qc k).2;simpa using this
   by_cases c:∀z∈eG R (ax hs st true) (some A) d,at' e z=w
   .rw[if_pos (List.all_eq_true.mpr λz k=>by rw[F z (l z k).1,c z k];simp)]at g
    obtain⟨x,z,a⟩:=r e j λx a=>by
     rcases qw a with q|q
     .obtain⟨C,H⟩:=Qc q
      exact v x C λz=>by simp[z]at H
     .exact c x q
    cases z;rw[a]at g;cases w<;>cases g
   .have I:¬(eG R _ _ d).all (λz=>at' _ z==w)=true:=λz=>c λy m=>by
     have:=List.all_eq_true.mp z y m;rw[F y (l y m).1]at this;simpa using this
    rw[if_neg I]at g
    have V:∀x _,at' e x=w:=λx a=>by
     by_cases z:x=A
     .rw[z,g]
     .exact v x a z
    have:=u e j B V;exact c λz k=>this z (List.mem_append.mpr (.inr (l z k).2))
theorem MH{k:Kd}{R:List Rl}{hs:AG}{st:Nat}(n:hs.length<=60)(d:∀r∈R,Dr k st hs.length r)(v:mD k R (ax hs st true) (ax hs st false) true):∃f,∀e:AG,e.length=hs.length->fS hs false f st e->¬∀r∈R,so k e r=true:=by
 have A:(k=.i\/k=.n)->(∃b y B,jh (R.map gj) (ax hs st true) (ax hs st false) b y B=true)->∃f,∀e,_->_->¬∀r∈R,_=true:=λt ⟨b,y,B,g⟩=>by
  obtain⟨w,H⟩:∃w,decide (k=.i)=w:=⟨_,rfl⟩
  obtain⟨f,m⟩:=MD w g;refine⟨f,λe i j h=>m e i j λq C=>?_⟩;obtain⟨r,a,rfl⟩:=qy C;have:=h r a
  cases r with
  | ei l=>rcases t with rfl|rfl<;>cases (d _ a).1.1
  | su b o=>rcases t with rfl|rfl<;>cases (d _ a).1.1
  | im b o=>exact(vw H).mp this
 cases k with
 | e=>
   have a:∀r∈R,r=.ei (jq r):=λr a=>by
    cases r with
    | ei l=>rfl
    | su b o=>cases (d _ a).1.1
    | im b o=>rcases(d _ a).1.1 with z|z<;>cases z
   obtain⟨f,m⟩:=My (λl n=>by
    obtain⟨r,c,rfl⟩:=qy n;have:=(d r c).2.1;rw[a r c]at this
    exact Md this) v
   refine⟨f,λe i j h=>m e i j λl n=>?_⟩;obtain⟨r,c,rfl⟩:=qy n;have:=h r c;rw[a r c]at this;obtain⟨u,E,q⟩:=List.any_eq_true.mp (this);exact⟨u,E,by simpa using q⟩
 | s=>
   obtain⟨W,b⟩:=v;obtain⟨f,m⟩:=Mz b;refine⟨f,λe i j h=>m e i j λp I=>?_⟩;have c:=Mn I;obtain⟨r,a,G⟩:=qy c;rw[<-G];obtain⟨s,F,_⟩:=d r a;have:=h r a
   cases r with
   | ei l=>cases s.1
   | im b h=>rcases s.1 with z|z<;>cases z
   | su b o=>
     rw[vv F λx D=>by have:=s.2 x D;ac_nf]at this;show xr (λx=>decide _) _=o;simpa using this
 | i=>exact A (.inl rfl) v
 | n=>exact A (.inr rfl) v
theorem vz{k:Kd}{R:List Rl}{hs:AG}{st:Nat}{w:Bool}(c:hs.length<=60)(i:st<=hs.length)(d:∀r∈R,Dr k st hs.length r)(v:mD k R (ax hs st true) (ax hs st false) w){ev:AG}(h:ev.length=st):gv (λe=>∀r∈R,so k e r=true) hs (hs.length-st) ev↔w=false:=by
 subst h
 cases w with
 | false=>
   obtain⟨f,a⟩:=Mw c d v;exact⟨λ_=>rfl,λ_=>vp _ _ λt g b=>a _ (by rw[qz];ext) b⟩
 | true=>
   obtain⟨f,a⟩:=MH c d v;exact⟨λz=>absurd z (vq _ _ λt g b=>a _ (by rw[qz];ext) b),λz=>nomatch z⟩
def MJ{b bk a c:D}{st:Int}{R:AN}(e:Yc bk=some [.str "nots",.tup R])(d:i6 [bk]=some a)(h:Yr 11 [b,a,c,.int st]=some (.bl true)):gc [b,bk,c,.int st]=some (.bl true):=by
 rw[gc,Yr,Ye (by rfl)];simp[lV,Yd,e,d_ "nots" false,d,h]
def y9f{b bk a c:D}{st:Int}{R:AN}(e:Yc bk=some [.str "nots",.tup R])(d:i6 [bk]=some a)(h:Yu 11 [b,a,c,.int st]=some (.bl true)):i7 [b,bk,c,.int st]=some (.bl true):=by
 rw[i7,Yu,Ye (by rfl)];simp[tr,Yd,e,d_ "nots" false,d,h]
theorem vA{k:Kd}{R:List Rl}{hs:AG}{st:Nat}(n:hs.length<=60)(c:st<=hs.length)(K:R.length<=60)(h:∀r∈R,Dr k st hs.length r):
 ∃(w:Bool) (pl:AN),fI [bz k R,.tup (hs.map aK),.int st]=some (bW w (.tup pl))/\h_ [bW w (.tup pl),bz k R,.tup (hs.map aK),.int st]=some (.bl true)/\mD k R (ax hs st true) (ax hs st false) w:=by
 have s:Yc (.tup (hs.map aK))=some (hs.map aK):=rfl
 have v:(k=.i\/k=.n)->∃(w:Bool) (pl:AN),lY [bz .i R,.tup (hs.map aK),.int st]=some (bW w (.tup pl))/\gh [.tup pl]=some (.bl true)/\Yl [.tup pl]=some (.bl true)/\(∀j,(w=true->Yr (j+1) [.tup pl,bz .i R,.tup (hs.map aK),.int st]=some (.bl true))/\(w=false->Yu (j+1) [.tup pl,bz .i R,.tup (hs.map aK),.int st]=some (.bl true)))/\mD .i R (ax hs st true) (ax hs st false) w:=λJ=>by
  obtain⟨o,p,_⟩:=vo J h
  have e:bz .i R=Yt (R.map gj):=by
   show D.tup [aU .i,.tup (R.map aI)]=_;rw[p];rfl
  rw[e];rcases y2g s n c o with⟨b,B,C,g,z⟩|⟨f,a,g,z⟩
  .exact⟨true,_,z,y9d b B C,y48 b B C,λj=>⟨λ_=>y5a j n c o g,λz=>(nomatch z)⟩,b,B,C,g.1⟩
  .exact⟨false,_,z,y9e f a,y49 f a,λj=>⟨λz=>(nomatch z),λ_=>y2p j n c o g⟩,f,a,g⟩
 rw[fI,Ye (by rfl)];have x:Yd 3 [bz k R,.tup (hs.map aK),.int st]=[↑(bz k R),↑(.tup (hs.map aK)),↑(.int st)]:=rfl;have i:Yc (bz k R)=some [aU k,.tup (R.map aI)]:=rfl;rw[x]
 cases k with
 | e=>
   obtain⟨o,p⟩:=Mo h;have I:∀l∈R.map jq,eI l:=λl G=>Md (o l G).1;have E:=Yqc (L:=R.map jq) (by rw[qf];ac_nf) s n c o;rcases E with⟨d,g,z⟩|⟨a,g,z⟩
   .obtain⟨pl,rfl,t,u⟩:=y45 g
    have m:=oe true t u ⟨λ_=>y42 (by rw[qf];ac_nf) n c o g,λz=>(nomatch z)⟩;rw[<-p]at z m;refine⟨true,pl,?_,m,y88 I g⟩;generalize bz .e R=y at *;simp[lZ,i,z]
   .have m:=oe false (y9a a) (y44 a) ⟨λz=>(nomatch z),λ_=>y43 n c g⟩
    rw[<-p]at z m;refine⟨false,j_ a,?_,m,a,g⟩;generalize bz .e R=y at *;simp[lZ,i,z]
 | s=>
   obtain⟨o,p⟩:=Mp n h;have E:=Yyy (R:=R.map toS) (by rw[qf];ac_nf) s n c o;rcases E with⟨W,g,z⟩|⟨a,g,z⟩
   .have m:=oe true (Mj (fl 60 W)) (y9c (.tup ((fl 60 W).map nD))) ⟨λ_=>Ml (by rw[qf];ac_nf) s n c g,λz=>(nomatch z)⟩
    rw[<-p]at z m;refine⟨true,_,?_,m,W,g⟩;generalize bz .s R=y at *;simp[lZ,i,z]
   .have m:=oe false (y9b a) (y46 a) ⟨λz=>(nomatch z),λ_=>y47 s n c g⟩
    rw[<-p]at z m;refine⟨false,_,?_,m,a,g⟩;generalize bz .s R=y at *;simp[lZ,i,z]
 | i=>
   obtain⟨w,pl,z,t,u,A,g⟩:=v (.inl rfl);refine⟨w,pl,?_,oe w t u (A 11),g⟩;generalize bz .i R=y at *;simp[lZ,i,z]
 | n=>
   obtain⟨w,pl,z,t,u,A,g⟩:=v (.inr rfl)
   have q:=Rz (k:=.n) (n:=hs.length) (R:=R) λr F=>⟨(h r F).1,(h r F).2.1⟩
   rw[(vo (.inr rfl) h).2.2]at q;have q:i6 [bz .n R]=some (bz .i R):=q;refine⟨w,pl,?_,oe w t u ⟨λe=>MJ i q ((A 10).1 e),λe=>y9f i q ((A 10).2 e)⟩,by cases w<;>exact g⟩;generalize bz .n R=y,bz .i R=H at *;simp[lZ,i,q,z]
theorem MK{α β:Type}{fe:AU}{r:Ro}{enc:α->D}{g:β->D}{P:α->β->Prop}(l:List α):(∀a∈l,∃x,P a x/\fe (some (.sh (enc a))::r)=some (g x))->
 ∃R:List β,R.length=l.length/\(∀x∈R,∃a∈l,P a x)/\cS (aj 0) tY fe (none::r) (l.map enc)=some (R.map g):=by
 induction l with
 | nil=>exact λ_=>⟨[],rfl,nofun,rfl⟩
 | cons a l ih=>
   intro h;obtain⟨R,h1,h3,h4⟩:=ih λb hb=>h b (.tail _ hb);obtain⟨x,p,e⟩:=h a (.head _);refine⟨x::R,congrArg _ h1,λy hy=>?_,?_⟩
   .cases hy with
    | head=>exact⟨a,.head _,p⟩
    | tail _ hy=>
      obtain⟨b,hb,q⟩:=h3 y hy;exact⟨b,.tail _ hb,q⟩
   .rw[Qd,Qd,cS]
    show(fe (some (.sh (enc a))::r)).bind _=_;rw[e,qd,h4];rfl
theorem ML(n:Nat)(h:n<=1000):di [.int (n:Int)]=some ((List.range' 0 n).map λn:Nat=>D.int (n:Int)):=by
 rw[nt ∅ ∅,jT];simp[List.range_eq_range']
def MM(e:AG)(b:Bool):fJ (e++[b])=fJ e++[!b]:=by
 unfold fJ;rw[wt];rfl
theorem vB{H H':AG->Prop}{hs:AG}:∀(m:Nat) (ev:AG),(∀t:AG,t.length=ev.length+m->(H t↔H' (fJ t)))->(gv H hs m ev↔gv H' hs m (fJ ev))
 | 0,ev,h=>h ev rfl
 | m+1,ev,h=>by
   have a:∀b,gv H hs m _↔gv H' hs m (fJ ev++[!b]):=λb=>by
    rw[<-MM];exact vB m _ λt d=>h t (by rw[d];simp;ac_nf)
   have c:(fJ ev).length=ev.length:=by simp
   rw[gv,gv,c]
   split
   .constructor
    .rintro⟨b,z⟩
     exact⟨!b,(a b).mp z⟩
    .rintro⟨b,z⟩
     refine⟨!b,(a _).mpr ?_⟩
     rwa [Bool.not_not]
   .constructor
    .intro z b
     have:=(a _).mp (z (!b))
     rwa [Bool.not_not]at this
    .intro z b
     exact(a b).mpr (z _)
def MN{r:Rl}{x:Nat}(h:x∈d8 (b8 r)):x∈d8 r:=by
 cases r with
 | ei l=>
   obtain⟨s,a,rfl⟩:=qy (h);have:=mem_ex.mp (a);exact List.mem_map.mpr ⟨_,this,rfl⟩
 | su b o=>exact h
 | im b o=>exact h
def vC{k:Kd}{st n:Nat}{r:Rl}(h:Dr k st n r):Dr (d9 k) st n (b8 r):=by
 obtain⟨a,d,c⟩:=h;obtain⟨f,e⟩:=tN a d;exact⟨f,e,λx b=>c x (MN b)⟩
theorem MO{k:Kd}{R:List Rl}{hs:AG}{st:Nat}{w i:Bool}(l:hs.length<=60)(f:st<=hs.length)(g:∀r∈R,Dr k st hs.length r)(v:mD k R (ax hs st true) (ax hs st false) w)(n:mD (d9 k) (R.map b8) (ax hs st true) (ax hs st false) i):w=i:=by
 have a:=vz l f g v (ev:=.replicate st false) nofun
 have b:=vz l f (λr d=>by
  obtain⟨q,h,rfl⟩:=qy d
  exact vC (g q h)) n (ev:=fJ (.replicate st false)) nofun
 have c:=vB (H:=λe=>∀r∈R,so k e r=true) (H':=λe=>∀r∈R.map b8,so _ e r=true) (hs:=hs) (hs.length-st) (.replicate st false) (λt m=>by
  have j:t.length=hs.length:=by rw[m];simp;ac_nf
  constructor
  .intro z r d
   obtain⟨q,h,rfl⟩:=qy d;rw[tR (by rw[j];exact(g q h).1)];exact z q h
  .intro z r d
   have:=z _ (Qs d)
   rwa [tR (by rw[j];exact(g r d).1)]at this)
 cases w<;>cases i<;>ext
def MQ{n:Nat}{R:List Rl}(h:∀r∈R,In .e n r/\dU r):cS (aj 0) tY zc [none] (R.map aI)=some (R.map λr=>aI (b8 r)):=bG (fe:=zc) (r:=[]) (enc:=aI) (λr=>aI (b8 r)) (l:=R) (λr hr=>by
 obtain⟨h1,h2⟩:=h r hr
 cases r with
 | ei l=>
   have g1:=bG (fe:=Rq) (r:=[]) (enc:=af) (λs=>af (aO s)) (l:=l) (λs _=>rfl);have g2:=tM (l:=l.map aO) (by simpa using h2.1);rw[Qf]at g2;have g2:fq [.lst (l.map λs=>af (aO s))]=_:=g2;have g3:aI (b8 (.ei l))=.tup ((dn (l.map aO)).map af):=rfl;have g4:aI (.ei l)=.tup (l.map af):=rfl;rw[g3,g4];generalize (dn (l.map aO)).map af=X,l.map (λs=>af (aO s))=Y,l.map af=Z at *;clear h h1 h2;simp[zc,ao,g1,g2]
 | su b o=>cases h1.1
 | im b o=>rcases h1.1 with z|z<;>cases z)
theorem MR{n:Nat}{R:List Rl}(h:∀r∈R,In .s n r/\dU r):cS (aj 0) tY zd [none] (R.map aI)=some (R.map λr=>aI (b8 r)):=bG (fe:=zd) (r:=[]) (enc:=aI) (λr=>aI (b8 r)) (l:=R) (λr hr=>by
 have h1:=(h r hr).1
 cases r with
 | su l o=>
   have e:((l.length:Int)%2=1)↔(l.length%2=1):=by ac_nf
   clear h h1;simp[zd,b8,e,aI]
   try (cases o<;>by_cases h:l.length%2=1<;>simp[h,aI,e])
 | ei b=>cases h1.1
 | im b o=>rcases h1.1 with z|z<;>cases z)
def mG{k:Kd}{RR:AN}{o:D}(h:Rr [↑(.tup [aU k,.tup RR]),↑(aU k),↑(.tup RR)]=some (.rt o)):i8 [.tup [aU k,.tup RR]]=some o:=by
 rw[i8,Ye (by rfl)];show(JR [↑(.tup [aU k,.tup RR]),none,none]).bind _=_;rw[show JR _=_ from dC rfl h];rfl
theorem vD{k:Kd}{RR:AN}(hk:k=.i\/k=.n):i8 [.tup [aU k,.tup RR]]=some (.tup [aU (d9 k),.tup RR]):=mG (dC (fR (by rcases hk with rfl|rfl<;>simp)) (dC (fR (by rcases hk with rfl|rfl<;>simp)) (by
 have hd:k9 ["ifs","nots"] [(kD (.str "nots")),(kD (.str "ifs"))] (aa 1) [↑(.tup [aU k,.tup RR]),↑(aU k),↑(.tup RR)]=some (aU (d9 k)):=by
  rcases hk with rfl|rfl
  .rfl
  .show Yn [Str.ofString "ifs",Str.ofString "nots"] [D.str "nots",.str "ifs"] (Str.ofString "nots")=_
   rw[Yn,if_neg (by decide +kernel),Yn,if_pos rfl];rfl
 generalize aU (d9 k)=kd,aU k=kk at *
 simp[hd])))
theorem MU{k:Kd}{n:Nat}{R:List Rl}(h:∀r∈R,In k n r/\dU r):i8 [bz k R]=some (bz (d9 k) (R.map b8)):=by
 have hb2:bz (d9 k) (R.map b8)=.tup [aU (d9 k),.tup (R.map λr=>aI (b8 r))]:=by
  show D.tup [_,.tup ((R.map b8).map aI)]=_;rw[Qf];rfl
 rw[hb2];show i8 [.tup [aU k,.tup (R.map aI)]]=_
 have hI:(k=.i\/k=.n)->(R.map λr=>aI (b8 r))=R.map aI:=λhk=>Qq λr hr=>by
  have h1:=(h r hr).1
  cases r with
  | im b o=>rfl
  | ei b=>rcases hk with rfl|rfl<;>cases h1.1
  | su b o=>rcases hk with rfl|rfl<;>cases h1.1
 cases k with
 | e=>
   have hc:=MQ h;clear h hb2 hI;generalize (R.map λr=>aI (b8 r))=XX,R.map aI=RR at *;refine mG (mz ((mC nofun).trans ?_));show _=some (Out.rt (.tup [aU .e,.tup XX]));generalize aU .e=kd;simp[ao,hc]
 | s=>
   have hc:=MR h;clear h hb2 hI;generalize (R.map λr=>aI (b8 r))=XX,R.map aI=RR at *;refine mG (dC (fR nofun) (mz ((mC nofun).trans ?_)));show _=some (Out.rt (.tup [aU .s,.tup XX]));generalize aU .s=kd;simp[ao,hc]
 | i=>rw[hI (.inl rfl)];exact vD (.inl rfl)
 | n=>rw[hI (.inr rfl)];exact vD (.inr rfl)
section
variable {ns:AF}{x0 x1 x2 x3 v:Int}{n st:Nat}{hs:AG}{k:Kd}
theorem MV{m:Nat}(h:m<=n){r:Rl}(d:Dr k st m r):Dr k st n r:=by
 obtain⟨a,f,g⟩:=d;refine⟨?_,f,g⟩
 cases r with
 | ei l=>exact⟨a.1,λs e=>by have:=a.2 s e;ac_nf⟩
 | su b o=>exact⟨a.1,λx c=>by have:=a.2 x c;ac_nf⟩
 | im b o=>exact⟨a.1,λx c=>by have:=a.2.1 x c;ac_nf,λx c=>by have:=a.2.2 x c;ac_nf⟩
theorem d_4(c3:Yx [.scr ns,.int 3]=some (.int x3))(hl:hs.length=n)(hn:n<=60)(a0 a3 a7 a8:AQ):∃(hs':AG) (z6:AQ),hs'.length=n/\
 Rm [a0,↑(.scr ns),↑(.int n),a3,↑(.tup (hs.map aK)),↑(.int v),none,a7,a8] =
  JQ [a0,↑(.scr ns),↑(.int n),a3,↑(.tup (hs'.map aK)),↑(.int v),z6,a7,a8]:=by
 by_cases hv:v%3=0
 .obtain⟨mo,ml,me⟩:=RJ x3 n ∅
  have hr:=ML n ∅
  have hat:∀{l:AG}{i:Nat},i<l.length->aX (l.map aK) (i:Int)=some (aK (l.getD i false)):=λ{l i} h=>by
   rw[f7,lK h];simp[h]
  have hc:=bG (fe:=JM) (r:=[↑(.tup (hs.map aK)),↑(.tup (mo.map aK))]) (enc:=λj:Nat=>D.int (j:Int)) (λj=>aK (hs.getD j false||mo.getD j false)) (l:=List.range' 0 n) (λj hj=>by
   have hj':j<n:=by simpa using hj
   have g1:=hat (l:=hs) (i:=j) ∅;have g2:=hat (l:=mo) (i:=j) ∅;have q1:az false (aK (hs.getD j false)) (.str "keeper")=some (hs.getD j false==true):=l7 _ true;have q2:az false (aK (mo.getD j false)) (.str "keeper")=some (mo.getD j false==true):=l7 _ true;generalize hs.map aK=A,mo.map aK=C,hs.getD j false=b1,mo.getD j false=b2' at *
   cases b1<;>cases b2'<;>simp[JM,g1,g2,q1,q2]<;>rfl)
  refine⟨(List.range' 0 n).map λj=>hs.getD j false||mo.getD j false,↑(.tup (mo.map aK)),by simp,?_⟩;rw[Qf];have e:((List.range' 0 n).map (aK ∘ λj=>hs.getD j false||mo.getD j false))=(List.range' 0 n).map λj=>aK (hs.getD j false||mo.getD j false):=rfl;rw[e];generalize ((List.range' 0 n).map λj=>aK (hs.getD j false||mo.getD j false))=XX,((List.range' 0 n).map λj:Nat=>D.int (j:Int))=GG,hs.map aK=A,mo.map aK=C at *;exact dC (by simp[hv,c3,me,hr,ao,hc]) rfl
 .refine⟨hs,none,hl,?_⟩
  generalize hs.map aK=A at *;exact dC (by simp[hv]) rfl
theorem d_5(hst:st<n)(hn:n<=60)(a0 a1 a4 a6:AQ):∃f:Nat,st<f/\f<=n/\
 JQ [a0,a1,↑(.int n),↑(.int st),a4,↑(.int v),a6,none,none] =
  JP [a0,a1,↑(.int n),↑(.int st),a4,↑(.int v),a6,↑(.int f),none]:=by
 obtain⟨u,hsm,hsa⟩:=rT (l:=([60,60,60,3,6,12,6,12,6]:AE)) (i:=v/3%9) ∅ (by simp;ac_nf);have hu:=(show ∀u∈([60,60,60,3,6,12,6,12,6]:AE),1<=u by decide) u hsm
 have C:aX (([60,60,60,3,6,12,6,12,6]:AF).map D.int) (v/3%9)=some (.int u):=by
  rw[show(([60,60,60,3,6,12,6,12,6]:AF).map D.int)=([60,60,60,3,6,12,6,12,6]:AE).map nD from rfl,f7,hsa];rfl
 have F:∀ρ:Ro,hP [60,60,60,3,6,12,6,12,6] ρ=some (([60,60,60,3,6,12,6,12,6]:AF).map D.int):=λρ=>if_pos (by decide);generalize (([60,60,60,3,6,12,6,12,6]:AF).map D.int)=LL at C F;clear hsm hsa;by_cases q:st+u<n
 .have q':(st:Int)+u<n:=by ac_nf
  exact⟨st+u,by ac_nf,by ac_nf,dC (by simp[F,C,q']) rfl⟩
 .have q':¬(st:Int)+u<n:=by ac_nf
  exact⟨n,hst,qv _,dC (by simp[F,C,q']) rfl⟩
theorem MX(L:Nat){y:Nat}(h:y<=40):min (4+y) L-min 4 L<=40:=by
 rcases Nat.le_total 4 L with z|z
 .rw[Nat.min_eq_left z]
  exact Nat.sub_le_of_le_add (Qg (Nat.min_le_left ..) ∅)
 .rw[Nat.min_eq_right z]
  exact Nat.sub_le_of_le_add (Qg (Nat.min_le_right ..) (Nat.le_add_left ..))
def MY(c0:Yx [.scr ns,.int 0]=some (.int x0))(hn:1+x0%60=(n:Int))(a0:AQ):ar 2 (b2 (aab 1) (b2 (cC (Yb (ab 1) (Yb (aab 0) ae)) Yx) (aab 60) bb) dJ) [a0,↑(.scr ns),none,none,none,none,none,none,none]=some (.nx [a0,↑(.scr ns),↑(.int n),none,none,none,none,none,none]):=by simp[c0,hn]
def MZ(c0:Yx [.scr ns,.int 0]=some (.int x0))(hm:bb (.int (x0/60)) (.int (n:Int))=some (.int (st:Int)))(a0:AQ):ar 3 (b2 (b2 (cC (Yb (ab 1) (Yb (aab 0) ae)) Yx) (aab 60) c9) (aa 2) bb) [a0,↑(.scr ns),↑(.int n),none,none,none,none,none,none]=some (.nx [a0,↑(.scr ns),↑(.int n),↑(.int st),none,none,none,none,none]):=by simp[c0,hm]
def M0{hh:D}(c1:Yx [.scr ns,.int 1]=some (.int x1))(h:l4 [.int x1,.int n]=some hh)(a0 a3:AQ):ar 4 (cC (Yb (cC (Yb (ab 1) (Yb (aab 1) ae)) Yx) (Yb (ab 2) ae)) l4) [a0,↑(.scr ns),↑(.int n),a3,none,none,none,none,none]=some (.nx [a0,↑(.scr ns),↑(.int n),a3,↑hh,none,none,none,none]):=by simp[c1,h]
def M3(c2:Yx [.scr ns,.int 2]=some (.int x2))(hv:jZ [.int x2,.int 1865811235122147685]=some (.int v))(a0 a2 a3 a4:AQ):ar 5 (cC (Yb (cC (Yb (ab 1) (Yb (aab 2) ae)) Yx) (Yb (aab 1865811235122147685) ae)) jZ) [a0,↑(.scr ns),a2,a3,a4,none,none,none,none]=some (.nx [a0,↑(.scr ns),a2,a3,a4,↑(.int v),none,none,none]):=by simp[c2,hv]
def M4{kd hh bt:D}{RR:AN}(a1 a2 a5 a6 a7:AQ):JO [↑kd,a1,a2,↑bt,↑hh,a5,a6,a7,some (.ow RR)]=some (.rt (.lst [.tup [kd,.tup RR],hh,bt])):=by simp
theorem d_6{f:Nat}(hst:st<f)(hf:f<=1000)(a2 a4 a6:AQ):∃R:List Rl,R.length<=41/\(∀r∈R,Dr k st f r)/\
 JP [↑(aU k),↑(.scr ns),a2,↑(.int st),a4,↑(.int v),a6,↑(.int f),none] =
  JO [↑(aU k),↑(.scr ns),a2,↑(.int st),a4,↑(.int v),a6,↑(.int f),some (.ow (R.map aI))]:=by
 generalize hy:v/32%41=y
 have hy2:0<=y/\y<=40:=by ac_nf
 have k2:=JW ns 4 (4+y.toNat)
 have e:((4+y.toNat:Nat):Int)=4+y:=by ac_nf
 have e4:((4:Nat):Int)=4:=rfl;rw[e,e4]at k2
 obtain⟨cells,hcl⟩:∃c,(ns.drop (min 4 ns.length)).take (min (4+y.toNat) ns.length-min 4 ns.length)=c:=⟨_,rfl⟩
 have hcl':cells.length<=40:=by
  rw[<-hcl];exact Qg (List.length_take_le ..) (MX _ ∅)
 rw[hcl]at k2
 obtain⟨R,h1,h3,h4⟩:=MK (fe:=JN) (r:=[↑(aU k),↑(.int st),↑(.int f)]) (enc:=D.int) (g:=aI) (P:=λ_ r=>Dr k st f r) cells (λc _=>by
  obtain⟨r,g1,g2,g3,g4⟩:=Ks k c st f hst hf;refine⟨r,⟨g1,g2,g3⟩,?_⟩;generalize aI r=rr,aU k=kd at *
  simp[JN,g4])
 refine⟨R,by ac_nf,λr hr=>(h3 r hr).elim λ_ z=>z.2,?_⟩;generalize R.map aI=RR,cells.map D.int=CC,aU k=kd at *;exact dC (by simp[hy,k2,ao,h4]) rfl
end
theorem y5c(ns:AF)(k:Kd):∃(R:List Rl) (hs:AG) (st:Nat),hs.length<=60/\st<hs.length/\R.length<=41/\(∀r∈R,Dr k st hs.length r)/\nU [aU k,.scr ns]=some (.lst [bz k R,.tup (hs.map aK),.int st]):=by
 have c0:=ze ns 0 0 rfl;have c1:=ze ns 1 1 rfl;have c2:=ze ns 2 2 rfl;have c3:=ze ns 3 3 rfl;generalize ns.getD 0 0=x0 at c0;generalize ns.getD 1 0=x1 at c1;generalize ns.getD 2 0=x2 at c2;generalize ns.getD 3 0=x3 at c3
 obtain⟨n,hn⟩:∃n:Nat,1+x0%60=(n:Int):=⟨(1+x0%60).toNat,by ac_nf⟩
 obtain⟨hs,hl,hh⟩:=RJ x1 n ∅;obtain⟨v,_,hv⟩:=JY x2 1865811235122147685
 have hp:(0:Int)<(n:Int):=by ac_nf
 have g1:=Int.emod_nonneg (x0/60) (show(n:Int)≠0 by ac_nf);have g2:=Int.emod_lt_of_pos (x0/60) hp
 obtain⟨st,hst⟩:∃s:Nat,x0/60%(n:Int)=(s:Int):=⟨(x0/60%(n:Int)).toNat,by ac_nf⟩
 have hm:bb (.int (x0/60)) (.int (n:Int))=some (.int (st:Int)):=by rw[<-hst];exact O4 hp
 obtain⟨hs',z6,hl',e4⟩:=d_4 (v:=v) c3 hl ∅ (↑(aU k)) (↑(.int st)) none none;obtain⟨f,f1,f2,e5⟩:=d_5 (v:=v) (st:=st) (n:=n) ∅ ∅ (↑(aU k)) (↑(.scr ns)) (↑(.tup (hs'.map aK))) z6;obtain⟨R,r1,r2,e6⟩:=d_6 (k:=k) (ns:=ns) (v:=v) f1 ∅ (↑(.int n)) (↑(.tup (hs'.map aK))) z6;refine⟨R,hs',st,by ac_nf,by ac_nf,r1,λr hr=>by rw[hl'];exact MV f2 (r2 r hr),?_⟩;rw[nU,Ye (by rfl)];have hst0:Yd 9 [aU k,.scr ns]=[↑(aU k),↑(.scr ns),none,none,none,none,none,none,none]:=rfl
 have hfin:Rn [↑(aU k),↑(.scr ns),none,none,none,none,none,none,none]=some (.rt (.lst [bz k R,.tup (hs'.map aK),.int st])):=
  dC (MY c0 hn _) (dC (MZ c0 hm _) (dC (M0 c1 hh _ _) (dC (M3 c2 hv _ _ _ _) ((e4.trans (e5.trans e6)).trans (M4 _ _ _ _ _)))))
 rw[hst0,hfin];rfl
section
variable {bk bk2 hh o o2:D}{st:Nat}
def l_1{s d:D}(h:nU [d,s]=some (.lst [bk,hh,.int st]))(m j k g f e:AQ):gN (cC (Yb (ab 1) (Yb (ab 0) ae)) nU) (xR 2 3 4) [↑s,↑d,m,j,k,g,f,e]=some (.nx [↑s,↑d,↑bk,↑hh,↑(.int st),g,f,e]):=by
 have l:∀(a b c:D) (i:Ro),xR 2 3 4 (.lst [a,b,c]) i=some _:=λ_ _ _ _=>rfl;simp[h,l]
def l_2(h:fI [bk,hh,.int st]=some o)(c e g b d:AQ):aM (b2 (aa 4) (aab 0) (az false)) (ar 5 (cC (gD (Yb (ab 2) (Yb (ab 3) ae))) fI)) (ar 5 (cC (Yb (ab 2) (Yb (ab 3) (Yb (ab 4) ae))) fI)) [c,e,↑bk,↑hh,↑(.int st),g,b,d]=some (.nx [c,e,↑bk,↑hh,↑(.int st),↑o,b,d]):=by
 by_cases a:st=0
 .subst a
  have f:fI [bk,hh,.int 0]=_:=h;simp[f]
 .simp[a,h]
def l_3(h:h_ [o,bk,hh,.int st]=some (.bl true))(c d b a:AQ):aM (aZ (b1 (cC (Yb (ab 5) (Yb (ab 2) (Yb (ab 3) (Yb (ab 4) ae)))) h_) aD)) (ah (kD (.bl false))) au [c,d,↑bk,↑hh,↑(.int st),↑o,b,a]=some (.nx [c,d,↑bk,↑hh,↑(.int st),↑o,b,a]):=by
 simp[h]
def l_4(h:i8 [bk]=some bk2)(d e b a c g f:AQ):ar 6 (cC (Yb (ab 2) ae) i8) [d,e,↑bk,b,a,c,g,f]=some (.nx [d,e,↑bk,b,a,c,↑bk2,f]):=by
 simp[h]
def l_5(h:fI [bk2,hh,.int st]=some o2)(c d a b e:AQ):ar 7 (cC (Yb (ab 6) (Yb (ab 3) (Yb (ab 4) ae))) fI) [c,d,a,↑hh,↑(.int st),b,↑bk2,e]=some (.nx [c,d,a,↑hh,↑(.int st),b,↑bk2,↑o2]):=by
 simp[h]
theorem l_6{u:Bool}{p d:D}(h:h_ [o2,bk2,hh,.int st]=some (.bl true))(f:Yc o=some [aK u,p])(i2:Yc o2=some [aK u,d])(b a c:AQ):aM (c_ (aZ (b1 (cC (Yb (ab 7) (Yb (ab 6) (Yb (ab 3) (Yb (ab 4) ae)))) h_) aD)) (b2 (b2 (aa 7) (aab 0) ai) (b2 (aa 5) (aab 0) ai) (az true))) (ah (kD (.bl false))) au [b,a,c,↑hh,↑(.int st),↑o,↑bk2,↑o2]=some (.nx [b,a,c,↑hh,↑(.int st),↑o,↑bk2,↑o2]):=by
 have e:az true (aK u) (aK u)=some false:=by
  rw[fH (by cases u<;>simp[aK]) (by cases u<;>simp[aK])];cases u<;>simp[aK]
 simp[h,f,i2,e]
end
theorem M5(ns:AF)(k:Kd)(A j m u t g:AQ):∃D s z h C f,JS [↑(.scr ns),↑(aU k),A,j,m,u,t,g]=some (.nx [↑(.scr ns),↑(aU k),D,s,z,h,C,f]):=by
 obtain⟨R,H,st,c,K,I,a,F⟩:=y5c ns k;obtain⟨w,J,E,x,v⟩:=vA c ∅ ∅ a
 obtain⟨G,l,e,i,o⟩:=vA (R:=R.map b8) (st:=st) c ∅ (by rw[qf];ac_nf) (λr b=>by
  obtain⟨q,n,rfl⟩:=qy b
  exact vC (a q n))
 have y:=MO c ∅ a v o;subst y
 have d:∀p,Yc (bW w p)=some [aK (!w),p]:=λp=>by cases w<;>rfl
 exact⟨_,_,_,_,_,_,dC (l_1 F _ _ _ _ _ _) (dC (l_2 E _ _ _ _ _) (dC (l_3 x _ _ _ _) (dC (l_4 (MU λr b=>⟨(a r b).1,(a r b).2.1⟩) _ _ _ _ _ _ _) (dC (l_5 e _ _ _ _ _) (l_6 i (d _) (d _) _ _ _)))))⟩
theorem law_true(ns:AF)(q:ns.length<=63):l5 [.scr ns]=some (.bl true):=by
 rw[l5,Ye (by rfl)];have l:Yd 8 [.scr ns]=[some _,none,none,none,none,none,none,none]:=rfl;rw[l]
 have m:∃i h f a b c d,M.forM (aj 1) JS (([.n,.e,.i,.s]).map aU) [↑(.scr ns),none,none,none,none,none,none,none]=some (.nx [↑(.scr ns),i,h,f,a,b,c,d]):=by
  obtain⟨ρ',s,i,h,f,a,b,c,d,rfl⟩:=gM (gt:=aj 1) aU (λ_ o=>∃i h f a b c d,o=[↑(.scr ns),i,h,f,a,b,c,d]) _ []
   _ ⟨_,_,_,_,_,_,_,rfl⟩ (by
    rintro p k r o e ⟨i,h,f,a,b,c,d,rfl⟩;obtain⟨x,u,v,y,w,t,g⟩:=M5 ns k h f a b c d
    exact⟨_,_,rfl,g,_,_,_,_,_,_,_,rfl⟩)
  exact⟨i,h,f,a,b,c,d,s⟩
 obtain⟨i,h,f,a,b,c,d,m⟩:=m;have n:M.forM _ _ [.str "nots",.str "eithers",.str "ifs",.str "sums"] _=_:=m;have j:tJ [↑(.scr ns),none,none,none,none,none,none,none]=some (.rt (.bl true)):=dC (ρ':=[↑(.scr ns),i,h,f,a,b,c,d]) (by simp[n]) nofun;rw[j];rfl
end Lw
end
noncomputable section
namespace Op
open PySem PySem.W PyProof.Rows PySem.Calls
noncomputable abbrev pg:P7:=PySem.Challenge.pw_duskbook_k47_nots_and_all_kinds
noncomputable abbrev en(P:Params)(x:Str)(t:Nat)(v:Value):DictEntry:=⟨PyData.keyHash P x,.str x t,v⟩
abbrev fn(e a:Str)(s:Stmt)(i k c h:Value)(f:Option Addr)(d j:Value)(g b:Nat):Data:=.func ⟨e,a,L2.aIa s,.stmts (L2.aHa s),L2.aFa s,g,[],i,k,c,h,f,d,j,b⟩
noncomputable abbrev tu(l:AC):Obj:=⟨.type "tuple",none,.seq ⟨l⟩ 0,#[]⟩
abbrev iz(n:Int):Value:=.int n 0
noncomputable abbrev rf(n:Nat):Value:=.ref n
abbrev Z'(P:Params)(x:Str)(t n:Nat):=en P x t (rf n)
noncomputable abbrev fl:Obj:=⟨.none,none,.fields #[],#[]⟩
abbrev oZ(x:Str)(i:Nat):Obj:=⟨.none,none,fn x x (Lw.top i) .none .none .none .none none .none .none 0 0,#[]⟩
abbrev oF(x:Str)(i:Nat)(d:Value)(c:Nat):Obj:=⟨.type "function",none,.func (fnOf x x (L2.aIa (Lw.top i)) (L2.aHa (Lw.top i)) (L2.aFa (Lw.top i)) .none .none .none d none (.ref c) .none),#[]⟩
noncomputable abbrev oC(x:Str)(t l n b:Nat)(u v:Value)(c k e:Nat):Obj:=⟨.type "code",none,.fields #[.str x t,.str x (t+1),.str "/claim/cut.py" (t+2),.int (.ofNat l) 0,.int (.ofNat n) 0,.int 0 0,.int 0 0,.int 3 0,.ref b,.bool true,.int (.ofNat k) 0,.ref (b+1),.none,u,v,.ref c,.int (.ofNat e) 0,.int (.ofNat l) 0,.str "/claim/cut.py" (e+1)],#[]⟩
abbrev p0:Value:=(.str "duskbook.roads" 187)
abbrev p1:Value:=(.str "duskbook.blends" 233)
abbrev p2:Value:=(.str "duskbook.parts" 260)
abbrev p3:Value:=(.str "duskbook.adding" 275)
abbrev p4:Value:=(.str "duskbook.books" 318)
abbrev p5:Value:=(.str "duskbook.deriving" 381)
abbrev p6:Value:=(.str "duskbook.storming" 440)
abbrev p7:Value:=(.str "duskbook.eitherways" 554)
abbrev p8:Value:=(.str "duskbook.keeping" 648)
abbrev p9:Value:=(.str "duskbook.ifways" 753)
abbrev kf:Value:=(.str "duskbook.sumways" 803)
abbrev SQ:Value:=(.str "duskbook.checking" 849)
abbrev dR:Value:=(.str "law_duskbook_k47_nots_and_all_kinds" 862)
def et0(P:Params):List DictEntry:=[en P "__doc__" 166 .none,en P "__package__" 167 .none,en P "__loader__" 168 (.builtin "__main__.__loader__#opaque"),en P "__spec__" 169 .none,Z' P "__annotations__" 170 6,Z' P "__builtins__" 171 4,en P "__file__" 173 (.str "/claim/cut.py" 172),en P "__cached__" 174 .none,Z' P "contrary" 195 21,Z' P "led_to" 201 26,Z' P "is_road" 210 33,Z' P "traced" 220 40,Z' P "ways_from" 232 47,Z' P "EXCHANGED_KINDS" 247 48,Z' P "exchanged_rule" 253 53,Z' P "exchanged" 259 58,Z' P "beacons_with" 267 63,Z' P "is_rising" 274 70,Z' P "both_added" 284 77,Z' P "added" 294 84,Z' P "pairs_added" 302 91,Z' P "cleared" 311 98,Z' P "reduced" 317 103,Z' P "either_holds" 325 108,Z' P "sum_holds" 331 113,Z' P "if_holds" 337 118,Z' P "rule_holds" 346 125,Z' P "broken_rules" 352 130,Z' P "holds" 360 137,Z' P "beacons_in" 366 142,Z' P "is_void" 374 149,Z' P "without" 380 154,Z' P "is_place" 390 161,Z' P "body_is_known" 396 166,Z' P "is_step" 406 173,Z' P "is_derivation" 417 180,Z' P "derived" 423 185,Z' P "step_to_more" 433 192,Z' P "derived_in_full" 439 197,Z' P "is_broken" 447 202]
def et1(P:Params):List DictEntry:=[Z' P "lead_there_and_back" 456 209,Z' P "clash_good" 465 216,Z' P "cross_good" 474 223,Z' P "late_good" 485 230,Z' P "odd_good" 491 235,Z' P "first_ones" 497 240,Z' P "is_first_part" 507 247,Z' P "is_last_part" 519 254,Z' P "lone_good" 531 261,Z' P "either_paper_good" 541 268,Z' P "storm_good" 553 275,Z' P "sayings_of" 564 282,Z' P "lead_to_one_another" 573 289,Z' P "clash_found" 582 296,Z' P "cross_found" 592 303,Z' P "late_found" 603 310,Z' P "storms_paper" 609 315,Z' P "free_saying" 618 322,Z' P "truths_made" 630 329,Z' P "plan_row" 641 336,Z' P "either_outcome" 647 341,Z' P "rows_by_beacon" 655 346,Z' P "is_plan_row" 663 353,Z' P "come_to" 672 360,Z' P "either_is_kept" 678 365,Z' P "plan_good" 684 370,Z' P "is_sum_row" 690 375,Z' P "replaced" 701 382,Z' P "sums_good" 707 387,Z' P "are_some_of" 713 392,Z' P "ahead_of" 719 397,Z' P "is_row" 728 404,Z' P "holds_where_lit" 734 409,Z' P "rows_good" 740 414,Z' P "keeper_good" 752 421,Z' P "places_to_none" 764 428,Z' P "places_to_beacon" 770 433,Z' P "some_of" 776 438,Z' P "facts_beside" 785 445,Z' P "if_outcome" 802 452]
def et2(P:Params):List DictEntry:=[Z' P "last_beacon" 811 459,Z' P "storms_places" 817 464,Z' P "sum_rows" 823 469,Z' P "sum_outcome" 836 476,Z' P "outcome" 848 484,Z' P "good" 861 491,Z' P "_law_cell" 871 498,Z' P "_law_mixed" 879 505,Z' P "_law_hands" 885 510,Z' P "_law_own" 891 515,Z' P "_law_rule" 897 520,Z' P "_law_plain" 903 525,Z' P "_law_truths" 909 530,Z' P "_law_good" 919 537,Z' P "_law_drawn" 925 542,Z' P "_law_turned" 931 547,Z' P "law" 945 554]
def et(P:Params):List DictEntry:=et0 P++et1 P++et2 P
abbrev ns(P:Params)(x:DictEntry)(n k:Nat):Obj:=⟨.type "dict",none,.dict ⟨x::(et P).take n⟩ k,#[]⟩
def ff0:AC:=[iz 2,iz 0,rf 20,iz 4,iz 0,rf 25,iz 12,iz 0,rf 32,iz 17,iz 0,rf 39,iz 24,iz 0,rf 46,iz 37,iz 0,rf 52,iz 43,iz 0,rf 57,iz 47,iz 0,rf 62,iz 49,iz 0,rf 69,iz 52,iz 0,rf 76,iz 54,iz 0,rf 83,iz 59,iz 0,rf 90,iz 61,iz 0,rf 97,iz 66]
def ff1:AC:=[iz 0,rf 102,iz 78,iz 0,rf 107,iz 80,iz 0,rf 112,iz 83,iz 0,rf 117,iz 87,iz 0,rf 124,iz 93,iz 0,rf 129,iz 95,iz 0,rf 136,iz 97,iz 0,rf 141,iz 103,iz 0,rf 148,iz 105,iz 0,rf 153,iz 108,iz 0,rf 160,iz 110,iz 0,rf 165,iz 112,iz 0,rf 172,iz 117,iz 0]
def ff2:AC:=[rf 179,iz 124,iz 0,rf 184,iz 127,iz 0,rf 191,iz 132,iz 0,rf 196,iz 142,iz 0,rf 201,iz 144,iz 0,rf 208,iz 148,iz 0,rf 215,iz 150,iz 0,rf 222,iz 154,iz 0,rf 229,iz 158,iz 0,rf 234,iz 165,iz 0,rf 239,iz 170,iz 0,rf 246,iz 174,iz 0,rf 253,iz 180,iz 0,rf 260]
def ff3:AC:=[iz 186,iz 0,rf 267,iz 194,iz 0,rf 274,iz 209,iz 0,rf 281,iz 214,iz 0,rf 288,iz 216,iz 0,rf 295,iz 222,iz 0,rf 302,iz 228,iz 0,rf 309,iz 234,iz 0,rf 314,iz 240,iz 0,rf 321,iz 243,iz 0,rf 328,iz 251,iz 0,rf 335,iz 256,iz 0,rf 340,iz 266,iz 0,rf 345,iz 268]
def ff4:AC:=[iz 0,rf 352,iz 270,iz 0,rf 359,iz 275,iz 0,rf 364,iz 278,iz 0,rf 369,iz 283,iz 0,rf 374,iz 285,iz 0,rf 381,iz 291,iz 0,rf 386,iz 296,iz 0,rf 391,iz 298,iz 0,rf 396,iz 300,iz 0,rf 403,iz 302,iz 0,rf 408,iz 304,iz 0,rf 413,iz 311,iz 0,rf 420,iz 324,iz 0]
def ff5:AC:=[rf 427,iz 329,iz 0,rf 432,iz 334,iz 0,rf 437,iz 336,iz 0,rf 444,iz 338,iz 0,rf 451,iz 355,iz 0,rf 458,iz 357,iz 0,rf 463,iz 362,iz 0,rf 468,iz 370,iz 0,rf 475,iz 379,iz 0,rf 483,iz 388,iz 0,rf 490,iz 393,iz 0,rf 497,iz 397,iz 0,rf 504,iz 399,iz 0,rf 509]
def ff6:AC:=[iz 402,iz 0,rf 514,iz 404,iz 0,rf 519,iz 424,iz 0,rf 524,iz 428,iz 0,rf 529,iz 434,iz 0,rf 536,iz 440,iz 0,rf 541,iz 451,iz 0,rf 546,iz 458,iz 0,rf 553]
def ff:AC:=ff0++ff1++ff2++ff3++ff4++ff5++ff6
abbrev ft(n:Nat):Obj:=⟨.none,none,.fields ⟨ff.take n⟩,#[]⟩
abbrev dF(x:Str)(i l n t b:Nat)(a:Value)(k:Nat):List Obj:=[tu [],fl,oZ x i,oC x t l n b .none .none (b+2) k (t+3),oF x i a (b+3)]
abbrev dG(x:Str)(i l n t b:Nat)(a:Value)(k:Nat)(u:AC):List Obj:=[tu [],fl,tu u,tu [],oZ x i,oC x t l n b (.ref (b+2)) (.ref (b+3)) (b+4) k (t+3+u.length),oF x i a (b+5)]
def al0(P:Params):List Obj:=[boot_o_0 P,boot_o_1 P,boot_o_2 P,ns P (en P "__name__" 165 (.str "law_duskbook_k47_nots_and_all_kinds" 862)) 97 98,boot_o_4 P,boot_o_5 P,boot_o_6 P,boot_o_7 P,boot_o_8 P,boot_o_9 P,boot_o_10 P,tu [],ft 264,⟨.type "code",none,(.fields #[.str "<module>" 182,.str "<module>" 183,.str "/claim/cut.py" 184,iz 1,iz 0,iz 0,iz 0,iz 0,rf 11,.bool false,iz 181,rf 12,.none,.none,.none,.none,iz 185,iz 1,.str "/claim/cut.py" 186]),#[]⟩,⟨.type "frame",none,.plain,#[(some (rf 13)),(some (rf 3)),(some (rf 3)),none,(some (.str "__main__" 164)),none,(some (rf 0))]⟩]++(dG "contrary" 1 2 1 189 15 p0 181 [.str "saying" 192]++(dF "led_to" 2 4 2 196 22 p0 181++(dG "is_road" 3 12 2 202 27 p0 181 [.str "book" 205,.str "road" 206,.str "place" 207]++(dG "traced" 4 17 2 211 34 p0 181 [.str "ahead" 214,.str "last" 215,.str "road" 216,.str "saying" 217]++(dG "ways_from" 5 24 2 221 41 p0 181 [.str "book" 224,.str "saying" 225,.str "ahead" 226,.str "reached" 227,.str "place" 228,.str "led" 229]++([⟨.type "dict",none,(.dict #[en P "eithers" 235 (.str "eithers" 236),en P "sums" 237 (.str "sums" 238),en P "ifs" 239 (.str "nots" 240),en P "nots" 241 (.str "ifs" 242)] 4),#[]⟩]++(dF "exchanged_rule" 8 37 2 248 49 p1 181++(dF "exchanged" 9 43 1 254 54 p1 181++(dF "beacons_with" 11 47 3 262 59 p2 181++(dG "is_rising" 12 49 1 268 64 p2 181 [.str "numbers" 271]++(dG "both_added" 14 52 2 277 71 p3 181 [.str "rule" 280,.str "other" 281]++(dG "added" 15 54 2 285 78 p3 181 [.str "book" 288,.str "places" 289,.str "whole" 290,.str "place" 291]++(dG "pairs_added" 16 59 2 295 85 p3 181 [.str "pair" 298,.str "other" 299]++(dG "cleared" 17 61 2 303 92 p3 181 [.str "pair" 306,.str "by_last" 307,.str "left" 308]++(dF "reduced" 18 66 1 312 99 p3 181++(dF "either_holds" 20 78 2 320 104 p4 181++(dF "sum_holds" 21 80 2 326 109 p4 181++(dF "if_holds" 22 83 3 332 114 p4 181++(dG "rule_holds" 23 87 3 338 119 p4 181 [.str "kind" 341,.str "rule" 342,.str "evening" 343]++(dF "broken_rules" 24 93 2 347 126 p4 181++(dG "holds" 25 95 2 353 131 p4 181 [.str "book" 356,.str "evening" 357]++(dF "beacons_in" 26 97 2 361 138 p4 181++(dG "is_void" 27 103 2 367 143 p4 181 [.str "kind" 370,.str "rule" 371]++(dF "without" 28 105 2 375 150 p4 181))))))))))))))))))))))))
def al1(P:Params):List Obj:=dG "is_place" 30 108 2 383 155 p5 181 [.str "book" 386,.str "place" 387]++(dF "body_is_known" 31 110 2 391 162 p5 181++(dG "is_step" 32 112 3 397 167 p5 181 [.str "book" 400,.str "known" 401,.str "place" 402,.str "rule" 403]++(dG "is_derivation" 33 117 3 407 174 p5 181 [.str "book" 410,.str "facts" 411,.str "places" 412,.str "known" 413,.str "place" 414]++(dF "derived" 34 124 3 418 181 p5 181++(dG "step_to_more" 35 127 2 424 186 p5 181 [.str "book" 427,.str "known" 428,.str "place" 429,.str "rule" 430]++(dF "derived_in_full" 36 132 2 434 193 p5 181++(dF "is_broken" 38 142 1 442 198 p6 181++(dG "lead_there_and_back" 39 144 3 448 203 p6 181 [.str "book" 451,.str "road" 452,.str "other" 453]++(dG "clash_good" 40 148 3 457 210 p6 181 [.str "road" 460,.str "other" 461,.str "book" 462]++(dG "cross_good" 41 150 3 466 217 p6 181 [.str "road" 469,.str "book" 470,.str "storms" 471]++(dG "late_good" 42 154 5 475 224 p6 181 [.str "road" 478,.str "other" 479,.str "book" 480,.str "keepers" 481,.str "storms" 482]++(dF "odd_good" 43 158 3 486 231 p6 181++(dF "first_ones" 44 165 4 492 236 p6 181++(dG "is_first_part" 45 170 4 498 241 p6 181 [.str "beacon" 501,.str "places" 502,.str "book" 503,.str "storms" 504]++(dG "is_last_part" 46 174 4 508 248 p6 181 [.str "beacon" 511,.str "places" 512,.str "book" 513,.str "facts" 514,.str "rule" 515,.str "known" 516]++(dG "lone_good" 47 180 4 520 255 p6 181 [.str "paper" 523,.str "book" 524,.str "keepers" 525,.str "storms" 526,.str "beacon" 527,.str "facts" 528]++(dG "either_paper_good" 48 186 4 532 262 p6 181 [.str "paper" 535,.str "book" 536,.str "keepers" 537,.str "storms" 538]++(dG "storm_good" 49 194 4 542 269 p6 181 [.str "paper" 545,.str "book" 546,.str "hands" 547,.str "start" 548,.str "keepers" 549,.str "storms" 550]++(dG "sayings_of" 51 209 1 556 276 p7 181 [.str "beacons" 559,.str "sayings" 560,.str "beacon" 561]++(dG "lead_to_one_another" 52 214 3 565 283 p7 181 [.str "ways" 568,.str "saying" 569,.str "other" 570]++(dG "clash_found" 53 216 1 574 290 p7 181 [.str "ways" 577,.str "saying" 578,.str "other" 579]++(dG "cross_found" 54 222 2 583 297 p7 181 [.str "ways" 586,.str "storms" 587,.str "saying" 588,.str "other" 589]++(dG "late_found" 55 228 3 593 304 p7 181 [.str "ways" 596,.str "keepers" 597,.str "storms" 598,.str "saying" 599,.str "other" 600]++(dF "storms_paper" 56 234 4 604 311 p7 181))))))))))))))))))))))))
def al2(P:Params):List Obj:=dG "free_saying" 57 240 2 610 316 p7 181 [.str "keeper" 613,.str "ways" 614,.str "dark" 615]++(dG "truths_made" 58 243 3 619 323 p7 181 [.str "ways" 622,.str "keepers" 623,.str "storms" 624,.str "truths" 625,.str "saying" 626,.str "keeper" 627]++(dG "plan_row" 59 251 4 631 330 p7 181 [.str "keeper" 634,.str "ways" 635,.str "storms" 636,.str "truths" 637,.str "saying" 638]++(dF "either_outcome" 60 256 3 642 337 p7 181++(dF "rows_by_beacon" 62 266 1 650 342 p8 181++(dG "is_plan_row" 63 268 2 656 347 p8 181 [.str "row" 659,.str "storms" 660]++(dG "come_to" 64 270 2 664 354 p8 181 [.str "saying" 667,.str "plan" 668,.str "row" 669]++(dF "either_is_kept" 65 275 2 673 361 p8 181++(dF "plan_good" 66 278 4 679 366 p8 181++(dF "is_sum_row" 67 283 2 685 371 p8 181++(dG "replaced" 68 285 2 691 376 p8 181 [.str "rule" 694,.str "sums" 695,.str "whole" 696,.str "beacon" 697,.str "row" 698]++(dF "sums_good" 69 291 4 702 383 p8 181++(dF "are_some_of" 70 296 2 708 388 p8 181++(dF "ahead_of" 71 298 2 714 393 p8 181++(dG "is_row" 72 300 3 720 398 p8 181 [.str "row" 723,.str "first" 724,.str "keepers" 725]++(dF "holds_where_lit" 73 302 3 729 405 p8 181++(dF "rows_good" 74 304 6 735 410 p8 181++(dG "keeper_good" 75 311 4 741 415 p8 181 [.str "paper" 744,.str "book" 745,.str "hands" 746,.str "start" 747,.str "keepers" 748,.str "storms" 749]++(dG "places_to_none" 77 324 2 755 422 p9 181 [.str "book" 758,.str "full" 759,.str "place" 760,.str "rule" 761]++(dF "places_to_beacon" 78 329 3 765 429 p9 181++(dF "some_of" 79 334 2 771 434 p9 181++(dG "facts_beside" 80 336 3 777 439 p9 181 [.str "beacon" 780,.str "storms" 781,.str "first" 782]++(dG "if_outcome" 81 338 3 786 446 p9 181 [.str "book" 789,.str "hands" 790,.str "start" 791,.str "keepers" 792,.str "storms" 793,.str "whole" 794,.str "places" 795,.str "first" 796,.str "rows" 797,.str "beacon" 798,.str "full" 799]++(dG "last_beacon" 83 355 1 805 453 kf 181 [.str "pair" 808]++(dF "storms_places" 84 357 3 812 460 kf 181))))))))))))))))))))))))
def al3(P:Params):List Obj:=dF "sum_rows" 85 362 2 818 465 kf 181++(dG "sum_outcome" 86 370 3 824 470 kf 181 [.str "book" 827,.str "hands" 828,.str "start" 829,.str "keepers" 830,.str "storms" 831,.str "answer" 832,.str "places" 833]++([tu [(.int (0) 839)],tu [],fl,tu [.str "book" 843,.str "hands" 844,.str "start" 845],tu [],oZ "outcome" 88,oC "outcome" 840 379 3 478 (rf 480) (rf 481) 482 181 846,⟨.type "function",none,(fn "outcome" "outcome" (Lw.top 88) (rf 477) .none .none (.str "duskbook.outcomes" 837) none (rf 483) .none 3 0),#[]⟩]++(dG "good" 90 388 5 851 485 SQ 181 [.str "paper" 854,.str "book" 855,.str "hands" 856,.str "start" 857,.str "hand" 858]++(dG "_law_cell" 92 393 2 864 492 dR 181 [.str "script" 867,.str "k" 868]++(dG "_law_mixed" 93 397 2 872 499 dR 181 [.str "cell" 875,.str "by" 876]++(dF "_law_hands" 94 399 2 880 506 dR 181++(dF "_law_own" 95 402 3 886 511 dR 181++(dF "_law_rule" 96 404 4 892 516 dR 181++(dF "_law_plain" 97 424 1 898 521 dR 181++(dF "_law_truths" 98 428 1 904 526 dR 181++(dG "_law_good" 99 434 4 910 531 dR 181 [.str "found" 913,.str "book" 914,.str "hands" 915,.str "start" 916]++(dF "_law_drawn" 100 440 2 920 538 dR 181++(dF "_law_turned" 101 451 1 926 543 dR 181++(dG "law" 102 458 1 932 548 dR 181 [.str "script" 935,.str "kind" 936,.str "book" 937,.str "hands" 938,.str "start" 939,.str "found" 940,.str "other" 941,.str "again" 942]))))))))))))))
def al(P:Params):List Obj:=al0 P++al1 P++al2 P++al3 P
noncomputable def upd(l:List (Nat×Obj))(xs:List Obj):List Obj:=l.foldl (λxs p=>xs.set p.1 p.2) xs
noncomputable def ev:List Obj->List Obj
 | []=>[]
 | [x]=>[x]
 | x::_::r=>x::ev r
noncomputable def bt:Nat->List Obj->BT
 | 0,_=>.nil
 | _+1,[]=>.nil
 | n+1,x::xs=>.node x (bt n (ev xs)) (bt n (ev xs.tail))
abbrev bd:List Stmt:=behindTheImports pg
abbrev sl(i n:Nat):List Stmt:=(bd.drop i).take n
abbrev env:Env:={scope:=pg.main.scope,locals:=mainNs,globals:=mainNs,cells:=[],code:=(rf 13),frame:=some 14}
abbrev cE:Code:=.body bd env
noncomputable abbrev B:List Frame:=[topFrame ⟨0,0,0,0⟩]
abbrev ss(n:Nat)(l:Params->List (Nat×Obj))(t:Nat)(w:World)(os:OsState):SharedT:=⟨bt 12 (upd (l w.params) ((al w.params).take n)),n,{},.mk [],boot_drawn,t,os⟩
def h0(P:Params):Heap:=⟨⟨upd [(3,boot_o_3 P),(12,fl)] ((al P).take 15)⟩,{}⟩
abbrev s0(w:World)(os:OsState):Shared:=⟨h0 w.params,.mk [],boot_drawn,187,os⟩
abbrev s1:World->OsState->SharedT:=ss 15 (λP=>[(3,boot_o_3 P),(12,fl)]) 187
abbrev s2:World->OsState->SharedT:=ss 78 (λP=>[(3,ns P (en P "__name__" 165 (.str "duskbook.adding" 275)) 19 20),(12,ft 30)]) 285
abbrev s3:World->OsState->SharedT:=ss 155 (λP=>[(3,ns P (en P "__name__" 165 (.str "duskbook.deriving" 381)) 32 33),(12,ft 69)]) 383
abbrev s4:World->OsState->SharedT:=ss 236 (λP=>[(3,ns P (en P "__name__" 165 (.str "duskbook.storming" 440)) 45 46),(12,ft 108)]) 492
abbrev s5:World->OsState->SharedT:=ss 316 (λP=>[(3,ns P (en P "__name__" 165 (.str "duskbook.eitherways" 554)) 57 58),(12,ft 144)]) 610
abbrev s6:World->OsState->SharedT:=ss 393 (λP=>[(3,ns P (en P "__name__" 165 (.str "duskbook.keeping" 648)) 70 71),(12,ft 183)]) 714
abbrev s7:World->OsState->SharedT:=ss 470 (λP=>[(3,ns P (en P "__name__" 165 (.str "duskbook.sumways" 803)) 83 84),(12,ft 222)]) 824
abbrev s8:World->OsState->SharedT:=ss 543 (λP=>[(3,ns P (en P "__name__" 165 (.str "law_duskbook_k47_nots_and_all_kinds" 862)) 95 96),(12,ft 258)]) 926
abbrev s9:World->OsState->SharedT:=ss 555 (λP=>[]) 946
def vE(P:Params):Heap:=⟨⟨upd [] ((al P).take 555)⟩,{}⟩
abbrev og(w:World)(os:OsState):Shared:=⟨vE w.params,.mk [],boot_drawn,946,os⟩
abbrev sz(w:World)(os:OsState):Shared:=⟨boot_heap w.params,.mk [],boot_drawn,boot_toks,os⟩
def e0:∀w:World,(λos=>topGo treeTable pg w 11 (some (rf 6)) 12 (sz w os) (topStub pg))=λos=>some (s0 w os,⟨denote treeTable cE,cE,⟨0,0,0,0⟩,B⟩):=by
 rw[W.Fast.te15667345088766844465,W.Fast.te14364793385576792824,W.Fast.te11892475500146522536];intro w;kernel_rfl
def e1:∀w:World,(λos=>segRun treeTable pg w 11 (some (rf 6)) 1 1 (s0 w os) (blockOf bd env cE ⟨0,0,0,0⟩ B))=λos=>some (.next,(s1 w os).abs,cE,⟨0,0,0,0⟩):=by
 rw[W.Fast.te14374325043358763698,W.Fast.te14364793385576792824];intro w;kernel_rfl
abbrev EK(m:Nat)(s u:World->OsState->SharedT)(i n:Nat)(p q:Pos):Prop:=∀w:World,(λos=>segRunT treeTable pg w 11 (some (rf 6)) 1 m (s w os) (piecesOf (sl i n) env cE p B))=λos=>some (.next,u w os,cE,q)
local macro_rules | `(tactic| and_intros)=>`(tactic| (unfold EK;rw[W.Fast.te10110043849684766642,W.Fast.te14364793385576792824];intro w;kernel_rfl))
def e2:EK 396 s1 s2 0 15 ⟨0,0,0,0⟩ ⟨52,0,53,77⟩:=by
 unfold EK;rw[W.Fast.te10110043849684766642,W.Fast.te14364793385576792824];refine byRow2 "special-get-raises" ?_ ?_<;>(intro w;kernel_rfl)
def e3:EK 385 s2 s3 15 15 ⟨52,0,53,77⟩ ⟨107,0,107,8⟩:=by
 and_intros
def e4:EK 393 s3 s4 30 14 ⟨107,0,107,8⟩ ⟨158,0,164,34⟩:=by
 and_intros
def e5:EK 386 s4 s5 44 13 ⟨158,0,164,34⟩ ⟨234,0,239,40⟩:=by
 and_intros
def e6:EK 384 s5 s6 57 14 ⟨234,0,239,40⟩ ⟨296,0,297,79⟩:=by
 and_intros
def e7:EK 397 s6 s7 71 15 ⟨296,0,297,79⟩ ⟨362,0,369,54⟩:=by
 and_intros
def e8:EK 377 s7 s8 86 15 ⟨362,0,369,54⟩ ⟨440,0,450,47⟩:=by
 and_intros
def e9:EK 63 s8 s9 101 2 ⟨440,0,450,47⟩ ⟨458,0,471,15⟩:=by
 and_intros
def e10:∀w:World,(λos=>topRun treeTable pg w 11 (some (rf 6)) 2 (s9 w os).abs ⟨doneF .next,cE,⟨458,0,471,15⟩,B⟩)=λos=>some (og w os):=by
 rw[W.Fast.te14082659384304107361,W.Fast.te14364793385576792824];intro w;kernel_rfl
abbrev R(w:World)(os:OsState)(m:Nat)(s:Shared)(t:List Stmt)(p:Pos):Prop:=topRun treeTable pg w 11 (some (rf 6)) m s (restOf t env cE p B)=some (og w os)
def rk{m M i n:Nat}{s u:World->OsState->SharedT}{T:List Stmt}{p q:Pos}{w:World}{os:OsState}(h:EK m s u i n p q)(r:R w os M (u w os).abs T q):R w os (m+M) (s w os).abs (sl i n++T) p:=piece_app (segRun_of (congrFun (h w) os)) r
def rj{m:Nat}{s:Shared}{T:List Stmt}{p:Pos}{w:World}{os:OsState}(r:R w os m s T p)(h:T=bd):R w os m s bd p:=h ▸ r
def run(w:World)(os:OsState):topRun treeTable pg w 11 (some (rf 6)) (12+(1+(396+(385+(393+(386+(384+(397+(377+(63+2)))))))))) (sz w os) (topStub pg)=some (og w os):=
 go_top (congrFun (e0 w) os) (piece_block (congrFun (e1 w) os) (rj (rk e2 (rk e3 (rk e4 (rk e5 (rk e6 (rk e7 (rk e8 (rk e9 (show R w os 2 (s9 w os).abs [] ⟨458,0,471,15⟩ from congrFun (e10 w) os))))))))) (by kernel_rfl)))
def op:∀w:World,(fencedOpening treeTable pg w 5672).map (λs=>(s.heap,s.gens,s.drawn,s.toks))=some (boot_heap w.params,Array.mk [],boot_drawn,boot_toks):=
 boot_open (by kernel_rfl) (by decide) (λs=>by kernel_rfl)
def size:∀w:World,((boot_heap w.params).isNs mainGlobals&&(Array.mk []:Array GenState).size==0,(boot_heap w.params).objs.size,(boot_heap w.params).nsMap mainGlobals "__annotations__")=(true,11,(some (rf 6))):=by
 rw[W.Fast.te8920871248978507458];intro w;kernel_rfl
local macro_rules|`(-$x:num)=>`(nat_lit $x)
def K(P:Params):Frag:=(-3,ns P (en P "__name__" 165 (.str "law_duskbook_k47_nots_and_all_kinds" 862)) 97 98)::(-20,oC "contrary" 189 2 1 15 (rf 17) (rf 18) 19 181 193)::(-21,oF "contrary" 1 p0 20)::(-25,oC "led_to" 196 4 2 22 .none .none 24 181 199)::(-26,oF "led_to" 2 p0 25)::(-32,oC "is_road" 202 12 2 27 (rf 29) (rf 30) 31 181 208)::(-33,oF "is_road" 3 p0 32)::(-39,oC "traced" 211 17 2 34 (rf 36) (rf 37) 38 181 218)::(-40,oF "traced" 4 p0 39)::(-46,oC "ways_from" 221 24 2 41 (rf 43) (rf 44) 45 181 230)::(-47,oF "ways_from" 5 p0 46)::(-48,⟨.type "dict",none,(.dict #[en P "eithers" 235 (.str "eithers" 236),en P "sums" 237 (.str "sums" 238),en P "ifs" 239 (.str "nots" 240),en P "nots" 241 (.str "ifs" 242)] 4),#[]⟩)::(-52,oC "exchanged_rule" 248 37 2 49 .none .none 51 181 251)::(-53,oF "exchanged_rule" 8 p1 52)::(-57,oC "exchanged" 254 43 1 54 .none .none 56 181 257)::(-58,oF "exchanged" 9 p1 57)::(-62,oC "beacons_with" 262 47 3 59 .none .none 61 181 265)::(-63,oF "beacons_with" 11 p2 62)::(-69,oC "is_rising" 268 49 1 64 (rf 66) (rf 67) 68 181 272)::(-70,oF "is_rising" 12 p2 69)::(-76,oC "both_added" 277 52 2 71 (rf 73) (rf 74) 75 181 282)::(-77,oF "both_added" 14 p3 76)::(-83,oC "added" 285 54 2 78 (rf 80) (rf 81) 82 181 292)::(-84,oF "added" 15 p3 83)::(-90,oC "pairs_added" 295 59 2 85 (rf 87) (rf 88) 89 181 300)::(-91,oF "pairs_added" 16 p3 90)::(-97,oC "cleared" 303 61 2 92 (rf 94) (rf 95) 96 181 309)::(-98,oF "cleared" 17 p3 97)::(-102,oC "reduced" 312 66 1 99 .none .none 101 181 315)::(-103,oF "reduced" 18 p3 102)::(-107,oC "either_holds" 320 78 2 104 .none .none 106 181 323)::(-108,oF "either_holds" 20 p4 107)::(-112,oC "sum_holds" 326 80 2 109 .none .none 111 181 329)::(-113,oF "sum_holds" 21 p4 112)::(-117,oC "if_holds" 332 83 3 114 .none .none 116 181 335)::(-118,oF "if_holds" 22 p4 117)::(-124,oC "rule_holds" 338 87 3 119 (rf 121) (rf 122) 123 181 344)::(-125,oF "rule_holds" 23 p4 124)::(-129,oC "broken_rules" 347 93 2 126 .none .none 128 181 350)::(-130,oF "broken_rules" 24 p4 129)::(-136,oC "holds" 353 95 2 131 (rf 133) (rf 134) 135 181 358)::(-137,oF "holds" 25 p4 136)::(-141,oC "beacons_in" 361 97 2 138 .none .none 140 181 364)::(-142,oF "beacons_in" 26 p4 141)::(-148,oC "is_void" 367 103 2 143 (rf 145) (rf 146) 147 181 372)::(-149,oF "is_void" 27 p4 148)::(-153,oC "without" 375 105 2 150 .none .none 152 181 378)::(-154,oF "without" 28 p4 153)::(-160,oC "is_place" 383 108 2 155 (rf 157) (rf 158) 159 181 388)::(-161,oF "is_place" 30 p5 160)::(-165,oC "body_is_known" 391 110 2 162 .none .none 164 181 394)::(-166,oF "body_is_known" 31 p5 165)::(-172,oC "is_step" 397 112 3 167 (rf 169) (rf 170) 171 181 404)::(-173,oF "is_step" 32 p5 172)::(-179,oC "is_derivation" 407 117 3 174 (rf 176) (rf 177) 178 181 415)::(-180,oF "is_derivation" 33 p5 179)::(-184,oC "derived" 418 124 3 181 .none .none 183 181 421)::(-185,oF "derived" 34 p5 184)::(-191,oC "step_to_more" 424 127 2 186 (rf 188) (rf 189) 190 181 431)::(-192,oF "step_to_more" 35 p5 191)::(-196,oC "derived_in_full" 434 132 2 193 .none .none 195 181 437)::(-197,oF "derived_in_full" 36 p5 196)::(-201,oC "is_broken" 442 142 1 198 .none .none 200 181 445)::(-202,oF "is_broken" 38 p6 201)::(-208,oC "lead_there_and_back" 448 144 3 203 (rf 205) (rf 206) 207 181 454)::(-209,oF "lead_there_and_back" 39 p6 208)::(-215,oC "clash_good" 457 148 3 210 (rf 212) (rf 213) 214 181 463)::(-216,oF "clash_good" 40 p6 215)::(-222,oC "cross_good" 466 150 3 217 (rf 219) (rf 220) 221 181 472)::(-223,oF "cross_good" 41 p6 222)::(-229,oC "late_good" 475 154 5 224 (rf 226) (rf 227) 228 181 483)::(-230,oF "late_good" 42 p6 229)::(-234,oC "odd_good" 486 158 3 231 .none .none 233 181 489)::(-235,oF "odd_good" 43 p6 234)::(-239,oC "first_ones" 492 165 4 236 .none .none 238 181 495)::(-240,oF "first_ones" 44 p6 239)::(-246,oC "is_first_part" 498 170 4 241 (rf 243) (rf 244) 245 181 505)::(-247,oF "is_first_part" 45 p6 246)::(-253,oC "is_last_part" 508 174 4 248 (rf 250) (rf 251) 252 181 517)::(-254,oF "is_last_part" 46 p6 253)::(-260,oC "lone_good" 520 180 4 255 (rf 257) (rf 258) 259 181 529)::(-261,oF "lone_good" 47 p6 260)::(-267,oC "either_paper_good" 532 186 4 262 (rf 264) (rf 265) 266 181 539)::(-268,oF "either_paper_good" 48 p6 267)::(-274,oC "storm_good" 542 194 4 269 (rf 271) (rf 272) 273 181 551)::(-275,oF "storm_good" 49 p6 274)::(-281,oC "sayings_of" 556 209 1 276 (rf 278) (rf 279) 280 181 562)::(-282,oF "sayings_of" 51 p7 281)::(-288,oC "lead_to_one_another" 565 214 3 283 (rf 285) (rf 286) 287 181 571)::(-289,oF "lead_to_one_another" 52 p7 288)::(-295,oC "clash_found" 574 216 1 290 (rf 292) (rf 293) 294 181 580)::(-296,oF "clash_found" 53 p7 295)::(-302,oC "cross_found" 583 222 2 297 (rf 299) (rf 300) 301 181 590)::(-303,oF "cross_found" 54 p7 302)::(-309,oC "late_found" 593 228 3 304 (rf 306) (rf 307) 308 181 601)::(-310,oF "late_found" 55 p7 309)::(-314,oC "storms_paper" 604 234 4 311 .none .none 313 181 607)::(-315,oF "storms_paper" 56 p7 314)::(-321,oC "free_saying" 610 240 2 316 (rf 318) (rf 319) 320 181 616)::(-322,oF "free_saying" 57 p7 321)::(-328,oC "truths_made" 619 243 3 323 (rf 325) (rf 326) 327 181 628)::(-329,oF "truths_made" 58 p7 328)::(-335,oC "plan_row" 631 251 4 330 (rf 332) (rf 333) 334 181 639)::(-336,oF "plan_row" 59 p7 335)::(-340,oC "either_outcome" 642 256 3 337 .none .none 339 181 645)::(-341,oF "either_outcome" 60 p7 340)::(-345,oC "rows_by_beacon" 650 266 1 342 .none .none 344 181 653)::(-346,oF "rows_by_beacon" 62 p8 345)::(-352,oC "is_plan_row" 656 268 2 347 (rf 349) (rf 350) 351 181 661)::(-353,oF "is_plan_row" 63 p8 352)::(-359,oC "come_to" 664 270 2 354 (rf 356) (rf 357) 358 181 670)::(-360,oF "come_to" 64 p8 359)::(-364,oC "either_is_kept" 673 275 2 361 .none .none 363 181 676)::(-365,oF "either_is_kept" 65 p8 364)::(-369,oC "plan_good" 679 278 4 366 .none .none 368 181 682)::(-370,oF "plan_good" 66 p8 369)::(-374,oC "is_sum_row" 685 283 2 371 .none .none 373 181 688)::(-375,oF "is_sum_row" 67 p8 374)::(-381,oC "replaced" 691 285 2 376 (rf 378) (rf 379) 380 181 699)::(-382,oF "replaced" 68 p8 381)::(-386,oC "sums_good" 702 291 4 383 .none .none 385 181 705)::(-387,oF "sums_good" 69 p8 386)::(-391,oC "are_some_of" 708 296 2 388 .none .none 390 181 711)::(-392,oF "are_some_of" 70 p8 391)::(-396,oC "ahead_of" 714 298 2 393 .none .none 395 181 717)::(-397,oF "ahead_of" 71 p8 396)::(-403,oC "is_row" 720 300 3 398 (rf 400) (rf 401) 402 181 726)::(-404,oF "is_row" 72 p8 403)::(-408,oC "holds_where_lit" 729 302 3 405 .none .none 407 181 732)::(-409,oF "holds_where_lit" 73 p8 408)::(-413,oC "rows_good" 735 304 6 410 .none .none 412 181 738)::(-414,oF "rows_good" 74 p8 413)::(-420,oC "keeper_good" 741 311 4 415 (rf 417) (rf 418) 419 181 750)::(-421,oF "keeper_good" 75 p8 420)::(-427,oC "places_to_none" 755 324 2 422 (rf 424) (rf 425) 426 181 762)::(-428,oF "places_to_none" 77 p9 427)::(-432,oC "places_to_beacon" 765 329 3 429 .none .none 431 181 768)::(-433,oF "places_to_beacon" 78 p9 432)::(-437,oC "some_of" 771 334 2 434 .none .none 436 181 774)::(-438,oF "some_of" 79 p9 437)::(-444,oC "facts_beside" 777 336 3 439 (rf 441) (rf 442) 443 181 783)::(-445,oF "facts_beside" 80 p9 444)::(-451,oC "if_outcome" 786 338 3 446 (rf 448) (rf 449) 450 181 800)::(-452,oF "if_outcome" 81 p9 451)::(-458,oC "last_beacon" 805 355 1 453 (rf 455) (rf 456) 457 181 809)::(-459,oF "last_beacon" 83 kf 458)::(-463,oC "storms_places" 812 357 3 460 .none .none 462 181 815)::(-464,oF "storms_places" 84 kf 463)::(-468,oC "sum_rows" 818 362 2 465 .none .none 467 181 821)::(-469,oF "sum_rows" 85 kf 468)::(-475,oC "sum_outcome" 824 370 3 470 (rf 472) (rf 473) 474 181 834)::(-476,oF "sum_outcome" 86 kf 475)::(-477,tu [(.int (0) 839)])::(-483,oC "outcome" 840 379 3 478 (rf 480) (rf 481) 482 181 846)::(-484,⟨.type "function",none,(fn "outcome" "outcome" (Lw.top 88) (rf 477) .none .none (.str "duskbook.outcomes" 837) none (rf 483) .none 3 0),#[]⟩)::(-490,oC "good" 851 388 5 485 (rf 487) (rf 488) 489 181 859)::(-491,oF "good" 90 SQ 490)::(-497,oC "_law_cell" 864 393 2 492 (rf 494) (rf 495) 496 181 869)::(-498,oF "_law_cell" 92 dR 497)::(-504,oC "_law_mixed" 872 397 2 499 (rf 501) (rf 502) 503 181 877)::(-505,oF "_law_mixed" 93 dR 504)::(-509,oC "_law_hands" 880 399 2 506 .none .none 508 181 883)::(-510,oF "_law_hands" 94 dR 509)::(-519,oC "_law_rule" 892 404 4 516 .none .none 518 181 895)::(-520,oF "_law_rule" 96 dR 519)::(-524,oC "_law_plain" 898 424 1 521 .none .none 523 181 901)::(-525,oF "_law_plain" 97 dR 524)::(-529,oC "_law_truths" 904 428 1 526 .none .none 528 181 907)::(-530,oF "_law_truths" 98 dR 529)::(-536,oC "_law_good" 910 434 4 531 (rf 533) (rf 534) 535 181 917)::(-537,oF "_law_good" 99 dR 536)::(-541,oC "_law_drawn" 920 440 2 538 .none .none 540 181 923)::(-542,oF "_law_drawn" 100 dR 541)::(-546,oC "_law_turned" 926 451 1 543 .none .none 545 181 929)::(-547,oF "_law_turned" 101 dR 546)::(-553,oC "law" 932 458 1 548 (rf 550) (rf 551) 552 181 943)::(-554,oF "law" 102 dR 553)::[]
def hk:Hook:=kHook K (3::20::21::25::26::32::33::39::40::46::47::48::52::53::57::58::62::63::69::70::76::77::83::84::90::91::97::98::102::103::107::108::112::113::117::118::124::125::129::130::136::137::141::142::148::149::153::154::160::161::165::166::172::173::179::180::184::185::191::192::196::197::201::202::208::209::215::216::222::223::229::230::234::235::239::240::246::247::253::254::260::261::267::268::274::275::281::282::288::289::295::296::302::303::309::310::314::315::321::322::328::329::335::336::340::341::345::346::352::353::359::360::364::365::369::370::374::375::381::382::386::387::391::392::396::397::403::404::408::409::413::414::420::421::427::428::432::433::437::438::444::445::451::452::458::459::463::464::468::469::475::476::477::483::484::490::491::497::498::504::505::509::510::519::520::524::525::529::530::536::537::541::542::546::547::553::554::[]) (λ_=>by kernel_rfl)
def Q:P7:={pg with main:={pg.main with body:=[Lw.top 102]} }
noncomputable def ls:AJ:=(["contrary","led_to","is_road","traced","ways_from","EXCHANGED_KINDS","exchanged_rule","exchanged","beacons_with","is_rising","both_added","added","pairs_added","cleared","reduced","either_holds","sum_holds","if_holds","rule_holds","broken_rules","holds","beacons_in","is_void","without","is_place","body_is_known","is_step","is_derivation","derived","step_to_more","derived_in_full","is_broken","lead_there_and_back","clash_good","cross_good","late_good","odd_good","first_ones","is_first_part","is_last_part","lone_good","either_paper_good","storm_good","sayings_of","lead_to_one_another","clash_found","cross_found","late_found","storms_paper","free_saying"]++["truths_made","plan_row","either_outcome","rows_by_beacon","is_plan_row","come_to","either_is_kept","plan_good","is_sum_row","replaced","sums_good","are_some_of","ahead_of","is_row","holds_where_lit","rows_good","keeper_good","places_to_none","places_to_beacon","some_of","facts_beside","if_outcome","last_beacon","storms_places","sum_rows","sum_outcome","outcome","good","_law_cell","_law_mixed","_law_hands","_law_own","_law_rule","_law_plain","_law_truths","_law_good","_law_drawn","_law_turned"]).map Str.ofString
abbrev Xt(s:Shared):Bool:=xlAt Q [] s&&recOk (RowW.records (OpenRow.toRowW PySem.Challenge.rw_duskbook_k47_nots_and_all_kinds.row)) s
def M6:∀w:World,(λos=>((staticsOk (importedModules pg.main.body) (boot_heap w.params) (vE w.params)&&namesBound pg (vE w.params)&&gensDone (og w os)&&laidKept (boot_heap w.params) (vE w.params)),openSeen Q ls (importedModules pg.main.body) Xt true (og w os),Hook.obs hk (og w os)))=λ_=>(true,openGood Q ls,Hook.val hk w):=by
 rw[W.Fast.te5923862056798008813,W.Fast.te4187177175401517315];intro w;kernel_rfl
def left:LeftO pg Q ls Xt (Hook.obs hk) (Hook.val hk) 5672:=LeftO.of_pieces (H₁:=vE) op size run (by decide) M6
end Op
end
noncomputable def PySem.W.Fast.tw6835235659669560233:PySem.Program:=PySem.Challenge.pw_duskbook_k47_nots_and_all_kinds
theorem PySem.W.Fast.te6835235659669560233:PySem.Challenge.pw_duskbook_k47_nots_and_all_kinds=PySem.W.Fast.tw6835235659669560233:=rfl
open PySem PySem.W PyProof.Rows
theorem PySem.Challenge.cw_duskbook_k47_nots_and_all_kinds_holds : PySem.Challenge.rw_duskbook_k47_nots_and_all_kinds.Holds := by
 w_on;o_law
 refine holds_open (q:=Op.Q) (loose:=Op.ls) (Xt:=Op.Xt) (XP:=XL Op.Q []) (Yf:=Hook.obs Op.hk) (Ya:=Hook.val Op.hk) (YP:=InK Op.K) (N:=5672) Op.left (Hook.of Op.hk) (Hook.keeps Op.hk) (λs e=>xl_of s (Bool.and_eq_true_iff.mp e).1) XL.keeps (by rfl) (by rfl) (by rfl) (λs e=>recFacts_of (Bool.and_eq_true_iff.mp e).2) (by rfl) (by assumption) (by decide +kernel) ⟨rfl,rfl,rfl,rfl,rfl,by decide +kernel⟩ ?hw ?hc
 (case hw=>w_witness2)
 k_fill
 refine Lw.walk Lw.law_true (l:=PySem.Challenge.rw_duskbook_k47_nots_and_all_kinds) rfl rfl (K:=Op.K) (λw h Y=>Y) ?F
 case F=>
  intro w mg fa h KX G hmg;refine' Lw.all_mk KX G hmg ..
  all_goals (try (first|(refine' Lw.fkd_mk ?a ?l ?c ?k ?t;(case a=>k_is);(case l=>k_is);(case c=>k_is);(case k=>k_is);(case t=>k_is))|(refine' Lw.fk_mk ?a ?l ?c ?k;(case a=>k_is);(case l=>k_is);(case c=>k_is);(case k=>k_is))|k_is))
