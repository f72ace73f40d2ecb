import PyProof.Rows.All
import Wide.All
import OpenK.AllK
import Wide.FinOn
import Lean
import PyProof.EqAt
import PyProof.EqKinds
import PyProof.TupleCall
import PySem.Challenge.RW_duskbook_k42_whole_keepers_papers_win
set_option Elab.async false
set_option linter.all false
set_option compiler.extract_closed false
set_option maxRecDepth 100000
abbrev aW(l:List (PySem.Str×PySem.NameKind)):PySem.Scope:={ kind:=.function,names:=l,isGenerator:=false,isCoroutine:=false,more:=[] }
def qa{c d:Type _}{o:Option c}{f:c->Option d}{b:d}(h:o.bind f=some b):∃a,o=some a/\f a=some b:=Option.bind_eq_some_iff.mp h
def qc{c d:Type _}{o:Option c}{f:c->d}{b:d}(h:o.map f=some b):∃a,o=some a/\f a=b:=Option.map_eq_some_iff.mp h
def qd:=@Option.bind_some
def qe:=@PySem.Heap.get?_push_of_some
def qf:=@List.length_map
def qg:=@List.mem_cons_of_mem
def qh:=@List.mem_cons_self
def qi:=@Bool.false_ne_true
def qj:=@Array.length_toList
def qk:=@List.size_toArray
def ql:=@PySem.Heap.lt_size
def qm:=@Nat.ne_of_lt
def qo{b:Type _}{l:List b}{i:Nat}{a:b}(h:l[i]?=some a):∃h:i<l.length,l[i]=a:=List.getElem?_eq_some_iff.mp h
def qp:=@PySem.Heap.get?_push_size
def qr:=@List.getElem?_eq_getElem
def qt:=@List.length_cons
def qu{c:Type _}{a b:c}{l:List c}(h:a∈b::l):a=b\/a∈l:=List.mem_cons.mp h
def qv:=@Nat.le_refl
def qw{b:Type _}{a:b}{s t:List b}(h:a∈s++t):a∈s\/a∈t:=List.mem_append.mp h
def qx:=@Nat.lt_succ_of_lt
def qy{c d:Type _}{b:d}{f:c->d}{l:List c}(h:b∈l.map f):∃a,a∈l/\f a=b:=List.mem_map.mp h
def qz:=@List.length_append
def Qa:=@Nat.lt_succ_self
def Qb{m n:Nat}(h:m∈List.range n):m<n:=List.mem_range.mp h
def Qc{b:Type _}{p:b->Bool}{l:List b}{a:b}(h:a∈l.filter p):a∈l/\p a=true:=List.mem_filter.mp h
def Qd:=@List.map_cons
def Qe:=@Bool.and_eq_true
def Qf:=@List.map_map
def Qg:=@Nat.le_trans
def Qh:=@Nat.zero_le
def Qi:=@Nat.lt_of_lt_of_le
def Qj:=@List.nil_append
def Qk:=@List.map_append
def Ql:=@List.mem_filter
def Qm:=@List.getElem?_map
def Qn:=@List.length_filter_le
def Qo:=@Bool.false_eq_true
def Qp:=@List.getElem?_set_ne
def Qq:=@List.map_congr_left
def Qr:=@List.mem_append_right
set_option maxHeartbeats 4000000
local macro_rules|`(tactic|trivial)=>`(tactic|first|exact .inl rfl|exact .inr rfl|exact .inr (.inl rfl)|exact .inr (.inr rfl)|assumption)
local macro_rules|`(~~~$x)=>`(($x).heap.objs.size)|`(↑$x)=>`(some (.sh $x))
abbrev AB:=PySem.Value->PySem.Shared->Prop
abbrev AC:=List (PySem.Addr×PySem.Obj)
abbrev AD:=List PySem.Value
abbrev AE:=PySem.Str->Option PySem.Value
abbrev AF:=List Nat
abbrev AG:=List Int
abbrev AH:=List Bool
abbrev AJ:=Nat->Bool
abbrev AK:=List PySem.Str
abbrev AL:=List PySem.Expr
abbrev AM:=Option Nat
def wa:=@PySem.wpAny_bind
def wc:=@PySem.wpAny_pure
def wd:=@PySem.wpAny_holding
def we:=@PySem.wpAny_call_entry
def wf:=@PySem.wpAny_newObj_type
def wg:=@PySem.wpAny_setState_of
def wh:=@decide_eq_true_eq
def wj:=@decide_eq_true
def wm:=@decide_eq_false
def wq:=@of_decide_eq_true
def wt:=@Function.comp_def
def wu:=@PySem.Heap.SameBut.update
def wv:=@PySem.Heap.size_push
def ww:=@PySem.Heap.get?_update_self
def wx:=@PySem.codeAny_builtin
def wy:=@PySem.wpAny_mono
def wz:=@Option.some.inj
def w5:=@List.append_nil
def w6:=@List.append_assoc
def w9:=@List.length_singleton
def ja:=@PySem.plainId_quiet
def jb:=@PySem.Around.under_plainId
def jc:=@PySem.PassesOwn.never
def jd:=@PySem.Obj.data_mapFields
def je:=@PySem.wpAny_attempt
def jf:=@PySem.sizeLine_eq
abbrev mZ:=@PySem.model
abbrev W7:=PySem.W.Frag
abbrev P7:=PySem.Program
noncomputable section
namespace L2
open PySem PySem.Spec PyProof.Rows
abbrev bD:=Sum Int Str
def jh:bD->Value->Bool
 | .inl k,v=>Value.isInt k v
 | .inr x,v=>Value.isStrOf x v
def tD(w:World):bD->Int
 | .inl k=>hashInt k
 | .inr x=>hashStr w x
theorem fG:∀{k:bD}{v:Value},jh k v=true->(∃i t,k=Sum.inl i/\v=Value.int i t)\/(∃x t,k=Sum.inr x/\v=Value.str x t)
 | .inl i,v,h=>by
   obtain⟨t,e⟩:=Value.isInt_shape   h;grind
 | .inr x,v,h=>by
   obtain⟨t,e⟩:=Value.isStrOf_shape   h;grind
def Lg(i:Int)(t:Tok):jh (.inl i) (.int i t)=true:=by simp[jh,Value.isInt]
def Lh(x:Str)(t:Tok):jh (.inr x) (.str x t)=true:=by simp[jh,Value.isStrOf]
theorem tE(a b:Int):decide ((Sum.inl a:bD)=Sum.inl b)=(a==b):=by grind
theorem tF(a b:Str):decide ((Sum.inr a:bD)=Sum.inr b)=decide (a=b):=by grind
theorem tG(a:Int)(b:Str):decide ((Sum.inl a:bD)=Sum.inr b)=false:=by grind
theorem tH(a:Str)(b:Int):decide ((Sum.inr a:bD)=Sum.inl b)=false:=by grind
def y6(prog:P7)(w:World):KeyKind prog w bD where
 is:=jh
 hash:=tD w
 inj:=λv a b l hb=>by
  rcases fG l with⟨i,t,rfl,rfl⟩|⟨x,t,rfl,rfl⟩
  .rcases fG hb with⟨j,u,rfl,e⟩|⟨y,u,rfl,e⟩
   .grind
   grind
  .rcases fG hb with⟨j,u,rfl,e⟩|⟨y,u,rfl,e⟩
   .grind
   grind
 byValue:=λk v h=>by
  rcases fG h with⟨i,t,rfl,rfl⟩|⟨x,t,rfl,rfl⟩<;>rfl
 pyHash:=λd h=>by
  rcases fG d with⟨i,t,rfl,rfl⟩|⟨x,t,rfl,rfl⟩
  .exact wpAny_pyHash_int h
  .exact wpAny_pyHash_str h
 eqBool:=λg d h=>by
  rcases fG g with⟨i,t,rfl,rfl⟩|⟨x,t,rfl,rfl⟩
  .rcases fG d with⟨j,u,rfl,rfl⟩|⟨y,u,rfl,rfl⟩
   .rw[tE]at h;exact wpAny_eqBool_int h
   .exact SeqAt.EqAt.int_str i t y u _ _ _ _ h
  .rcases fG d with⟨j,u,rfl,rfl⟩|⟨y,u,rfl,rfl⟩
   .exact SeqAt.EqAt.str_int x t j u _ _ _ _ h
   .rw[tF]at h;exact wpAny_eqBool_str h
 «strs»:=λk x t v h=>by
  rcases fG h with⟨i,u,rfl,e⟩|⟨y,u,rfl,e⟩
  .grind
  .injection e with e1 _
   subst e1;cases v<;>rfl
def Li(prog:P7)(w:World)(i:Int)(t:Tok):(y6 prog w).is (.inl i) (.int i t)=true:=Lg i t
def Lj(prog:P7)(w:World)(x:Str)(t:Tok):(y6 prog w).is (.inr x) (.str x t)=true:=Lh x t
inductive V where
 | non|bl (b:Bool)|int (i:Int)|str (x:Str)|byt (b:Array UInt8)|flt (b:UInt64)|ref (a:Addr)|ty (n:String)
 deriving DecidableEq
abbrev AN:=List V
def RelV:V->Value->Prop
 | .non,u=>u=Value.none
 | .bl b,u=>u=Value.bool b
 | .int i,u=>∃t,u=Value.int i t
 | .str x,u=>∃t,u=Value.str x t
 | .byt b,u=>∃t,u=Value.bytes b t
 | .flt b,u=>∃t,u=Value.float b t
 | .ref a,u=>u=Value.ref a
 | .ty n,u=>u=Value.type n
abbrev Vals:AN->AD->Prop:=Paired RelV
def Vals.length(r:Vals xs us):xs.length=us.length:=Paired.length r
theorem Vals.get:∀{xs:AN}{us:AD}{i:Nat}{x:V},Vals xs us->xs[i]?=some x->∃u,us[i]?=some u/\RelV x u
 | _,_,_,_,.nil,e=>by simp at e
 | _,_,0,_,.cons r _,e=>by grind
 | _,_,i+1,x,.cons _ t,e=>by
   obtain⟨u,a,b⟩:=Vals.get   t (by simpa using e);grind
theorem Vals.append:∀{xs ys:AN}{us a:AD},Vals xs us->Vals ys a->Vals (xs++ys) (us++a)
 | _,_,_,_,.nil,s=>s
 | _,_,_,_,.cons r t,s=>.cons r (Vals.append t s)
theorem Vals.take:∀{xs:AN}{us:AD} (n:Nat),Vals xs us->Vals (xs.take n) (us.take n)
 | _,_,0,_=>.nil
 | _,_,_+1,.nil=>.nil
 | _,_,n+1,.cons r t=>.cons r (Vals.take n t)
theorem Vals.drop:∀{xs:AN}{us:AD} (n:Nat),Vals xs us->Vals (xs.drop n) (us.drop n)
 | _,_,0,r=>r
 | _,_,_+1,.nil=>.nil
 | _,_,n+1,.cons _ t=>Vals.drop n t
def RelO:Option V->Option Value->Prop
 | some v,some u=>RelV v u
 | none,none=>True
 | _,_=>False
def KV{κ:Type}:List (κ×V)->List (κ×Value)->Prop:=Paired λp q=>p.1=q.1/\RelV p.2 q.2
def kV:bD->V
 | .inl i=>.int i
 | .inr x=>.str x
inductive HO where
 | lst (xs:AN)
 | tup (xs:AN)
 | dK (kvs:List (bD×V))|dT (kvs:List (List bD×V))
 | set (S:Int->Bool) (n:Nat)
 | ins (C dx:Addr) (fs:List (Str×V))
 | own (x:Addr)
 | xd (fs:List (Str×V))
 | met (f x:Addr)
 | rng (lo hi:Int)
 | frz (o:Obj) (u:HO)
 | tbl (ps:Array Value)
 | ext (φ:Heap->Prop)
abbrev Hp:=Addr->Option HO
def upd(H:Hp)(a:Addr)(o:HO):Hp:=λb=>if b=a then some o else H b
theorem Yk:upd H a o a=some o:=by unfold upd;grind
def Yi(h:b≠a):upd H a o b=H b:=by unfold upd;rw[if_neg h]
theorem Yl{H:Hp}(h:H a=some o)(h':H b=none):a≠b:=by grind
section
variable (P:P7) (w:World)
def ObjOk(H:Hp)(h:Heap)(a:Addr):HO->Prop
 | .lst xs=>xs.length<=sizeLine/\∃(its:AD) (n:Nat),Vals xs its/\h.get? a=some { cls:=.type "list",data:=.seq its.toArray n }
 | .tup xs=>xs.length<=sizeLine/\∃its:AD,Vals xs its/\IsTup h a its.toArray
 | .dK c=>c.length<=sizeLine/\(a==sysModules)=false/\∃vs,KV c vs/\h.DictOf (y6 P w) a vs
 | .dT c=>c.length<=sizeLine/\(a==sysModules)=false/\∃xs:List (List bD×Addr×Value),
  Paired (λp q=>p.1=q.1/\H q.2.1=some (.tup (p.1.map kV))/\RelV p.2 q.2.2) c xs/\
  ∃o k m,h.get? a=some o/\o.ExactDict/\o.data=.dict k m/\k.toList=xs.map (entryOfKey (tupleKind (y6 P w)))/\(xs.map (·.1)).Nodup
 | .set S n=>h.SetOf (intKind P w) a S n
 | .ins C g e=>H g=some (.own a)/\e.length<=1000/\g≠a/\h.get? a=some (W.instObj C g)/\
  ∃d,h.Ns1 g d/\(∀f,RelO (e.lookup f) (d f))/\PySem.Within d (e.map (·.1))
 | .own _=>∃o,h.get? a=some o
 | .xd e=>∃d,h.Ns1 a d/\∀f,RelO (e.lookup f) (d f)
 | .rng lo r=>∃t u v,h.get? a=some { cls:=.type "range",data:=.fields #[.int lo t,.int r u,.int 1 v] }
 | .frz o u=>h.get? a=some o/\ObjOk H h a u
 | .tbl ps=>h.get? a=some { cls:=.none,data:=.fields ps }
 | .met f x=>h.get? a=some (W.methodObj (.ref f) (.ref x))
 | .ext i=>i h/\(∃o,h.get? a=some o)/\∀j l,i j->(∀o,j.get? a=some o->l.get? a=some o)->i l
def HOk(H:Hp)(h:Heap):Prop:=∀a o,H a=some o->ObjOk P w H h a o
end
section
variable {P:P7}{w:World}{H H':Hp}{h h':Heap}{a:Addr}{o:HO}
def ObjOk.lt(x:ObjOk P w H h a o):a<h.objs.size:=by
 cases o with
 | lst xs=>obtain⟨_,_,_,_,e⟩:=x;exact ql e
 | tup xs=>obtain⟨_,_,_,p⟩:=x;exact p.lt
 | dK b=>obtain⟨_,_,_,_,o,_,_,e,_⟩:=x;exact ql e
 | dT b=>obtain⟨_,_,_,_,o,_,_,e,_⟩:=x;exact ql e
 | set S n=>obtain⟨o,_,_,_,e,_⟩:=x;exact ql e
 | ins C i c=>obtain⟨_,_,_,e,_⟩:=x;exact ql e
 | own y=>obtain⟨_,e⟩:=x;exact ql e
 | xd c=>obtain⟨_,⟨_,_,_,e,_⟩,_⟩:=x;exact ql e
 | rng lo g=>obtain⟨_,_,_,e⟩:=x;exact ql e
 | frz d u=>obtain⟨e,_⟩:=x;exact ql e
 | tbl ps=>exact ql ( x)
 | met f y=>exact ql ( x)
 | ext j=>obtain⟨_,⟨_,e⟩,_⟩:=x;exact ql e
theorem Paired.mapP:∀{l₁:List d}{c:List e},Paired F l₁ c->(∀a b,F a b->G a b)->Paired G l₁ c
 | _,_,.nil,_=>.nil
 | _,_,.cons r t,f=>.cons (f _ _ r) (Paired.mapP t f)
theorem ObjOk.stay(x:ObjOk P w H h a o)(k:∀b u,(b=a\/H b=some (.own a))->h.get? b=some u->h'.get? b=some u)(G:∀b,H b=some (.own a)->H' b=some (.own a))(E:∀b xs,H b=some (.tup xs)->H' b=some (.tup xs)):ObjOk P w H' h' a o:=by
 induction o with
 | lst xs=>obtain⟨z,its,n,r,e⟩:=x;exact⟨z,its,n,r,k _ _ (.inl rfl) e⟩
 | tup xs=>obtain⟨z,its,r,g,e,c⟩:=x;exact⟨z,its,r,g,k _ _ (.inl rfl) e,c⟩
 | dK s=>obtain⟨z,y,vs,r,g,i,j,e,c⟩:=x;exact⟨z,y,vs,r,g,i,j,k _ _ (.inl rfl) e,c⟩
 | dT s=>
   obtain⟨z,y,xs,r,g,i,j,e,c⟩:=x;exact⟨z,y,xs,Paired.mapP r λp q z=>⟨z.1,E _ _ z.2.1,z.2.2⟩,g,i,j,k _ _ (.inl rfl) e,c⟩
 | set S n=>obtain⟨g,i,j,t,e,c⟩:=x;exact⟨g,i,j,t,k _ _ (.inl rfl) e,c⟩
 | ins C I D=>
   obtain⟨d,z,B,e,A,⟨m,i,j,e2,c⟩,r⟩:=x;exact⟨G _ d,z,B,k _ _ (.inl rfl) e,A,⟨m,i,j,k _ _ (.inr d) e2,c⟩,r⟩
 | own y=>obtain⟨g,e⟩:=x;exact⟨g,k _ _ (.inl rfl) e⟩
 | xd D=>obtain⟨A,⟨m,i,j,e,c⟩,r⟩:=x;exact⟨A,⟨m,i,j,k _ _ (.inl rfl) e,c⟩,r⟩
 | rng lo K=>obtain⟨t,u,v,e⟩:=x;exact⟨t,u,v,k _ _ (.inl rfl) e⟩
 | frz g u F=>obtain⟨e,q⟩:=x;exact⟨k _ _ (.inl rfl) e,F q⟩
 | tbl ps=>
   have e:h.get? a=some { cls:=.none,data:=.fields ps }:=x;show h'.get? a=some { cls:=.none,data:=.fields ps };grind
 | met f y=>
   have e:h.get? a=some (W.methodObj (.ref f) (.ref y)):=x;show h'.get? a=some (W.methodObj (.ref f) (.ref y));grind
 | ext J=>obtain⟨p,⟨o,e⟩,st⟩:=x;exact⟨st _ _ p λo q=>k _ _ (.inl rfl) q,⟨o,k _ _ (.inl rfl) e⟩,st⟩
def HOk.lt(x:HOk P w H h)(e:H a=some o):a<h.objs.size:=(x a o e).lt
def HOk.fresh(x:HOk P w H h)(e:h.objs.size<=a):H a=none:=by
 cases q:H a with
 | none=>rfl
 | some u=>exact absurd (Qi (x.lt q) e) (Nat.lt_irrefl _)
def HOk.kept(x:HOk P w H h)(k:∀b u,h.get? b=some u->h'.get? b=some u):HOk P w H h':=λa o e=>
 (x a o e).stay (λb u _ q=>k b u q) (λ_ q=>q) λ_ _ q=>q
theorem HOk.laid(x:HOk P w H h)(k:∀b u,h.get? b=some u->h'.get? b=some u)(g:h.objs.size<=a)(f:ObjOk P w (upd H a o) h' a o):HOk P w (upd H a o) h':=λb u e=>by
 have d:=x.fresh g;by_cases hb:b=a
 .subst hb;rw[Yk]at e;grind
 .rw[Yi hb]at e
  exact(x b u e).stay (λc v _ q=>k c v q) (λc q=>by rw[Yi (Yl q d)];exact q) λc xs q=>by rw[Yi (Yl q d)];exact q
end
def Rd(H:Hp)(a:Addr)(u:HO):Prop:=H a=some u\/∃o,H a=some (.frz o u)
def Rd.ok(r:Rd H a u)(x:HOk P w H h):ObjOk P w H h a u:=by
 rcases r with r|⟨o,r⟩
 .exact x a u r
 .obtain⟨_,q⟩:=x a _ r
  exact q
def oE:Option HO->Prop
 | some (.lst _)=>True
 | some (.dK _)=>True
 | some (.dT _)=>True
 | some (.set _ _)=>True
 | some (.ins _ _ _)=>True
 | some (.ext _)=>True
 | _=>False
section
variable {P:P7}{w:World}{H:Hp}{h h':Heap}{x e:Addr}{o':HO}
theorem HOk.write(l:HOk P w H h)(d:oE (H x))(o:e=x\/H e=some (.own x))(k:∀b u,b≠e->h.get? b=some u->h'.get? b=some u)(f:∃u,h'.get? e=some u)(i:ObjOk P w (upd H x o') h' x o'):HOk P w (upd H x o') h':=λb u q=>by
 have a:∀c y,H c=some (.own y)->c≠x:=λc y r z=>by subst z;rw[r]at d;exact d
 by_cases hb:b=x
 .subst hb;rw[Yk]at q;grind
 .rw[Yi hb]at q
  by_cases j:b=e
  .have g:H b=some (.own x):=by
    grind
   rw[q]at g;cases g;obtain⟨v,m⟩:=f;exact⟨v,by grind⟩
  .refine(l b u q).stay (λc v n r=>k c v ?_ r) (λc r=>by rw[Yi (a c b r)];exact r) λc xs r=>by rw[Yi ((λc xs r z=>by subst z;rw[r]at d;exact d) c xs r)];exact r
   grind
end
structure Un(fs ex:List Addr)(H H':Hp)(h h':Heap):Prop where
 keep:∀b o,h.get? b=some o->H b=none->b∉fs->b∉ex->h'.get? b=some o
 slot:∀b o,h.get? b=some o->H b=none->b∈fs->b∉ex->∃sl,h'.get? b=some { o with slots:=sl }
 free:∀b o,h.get? b=some o->H b=none->b∉ex->H' b=none
 there:∀b o,h.get? b=some o->b∉ex->∃o',h'.get? b=some o'
 tups:∀b xs,H b=some (.tup xs)->H' b=some (.tup xs)
 frzs:∀b o u,H b=some (.frz o u)->H' b=some (.frz o u)
 tbls:∀b ps,H b=some (.tbl ps)->∃more,H' b=some (.tbl (ps++more))
section
variable {fs fs' ex ex':List Addr}{H H1 H2:Hp}{h h1 h2 h':Heap}{a x e:Addr}{o:HO}
def Un.any(u:Un fs ex H H1 h h1)(q:h.get? b=some c)(n:H b=none)(d:b∉ex):∃f,h1.get? b=some { c with slots:=f }:=by
 by_cases hb:b∈fs
 .exact u.slot b c q n hb d
 .exact⟨c.slots,u.keep b c q n hb d⟩
def Un.kept(k:∀b u,h.get? b=some u->h'.get? b=some u):Un fs ex H H h h':=
 ⟨λb c q _ _ _=>k b c q,λb c q _ _ _=>⟨c.slots,k b c q⟩,λ_ _ _ n _=>n,λb c q _=>⟨c,k b c q⟩,λ_ _ q=>q,λ_ _ _ q=>q,λ_ ps q=>⟨#[],by rw[q];simp⟩⟩
def Un.refl:Un fs ex H H h h:=Un.kept λ_ _ q=>q
theorem Un.laid(k:∀b u,h.get? b=some u->h'.get? b=some u)(d:h.objs.size<=a)(c:H a=none):Un fs ex H (upd H a o) h h' where
 keep:=λb u q _ _ _=>k b u q
 slot:=λb u q _ _ _=>⟨u.slots,k b u q⟩
 free:=λb u q n _=>by rw[Yi (qm (Qi (ql q) d))];exact n
 there:=λb u q _=>⟨u,k b u q⟩
 tups:=λb xs q=>by rw[Yi (Yl q c)];exact q
 frzs:=λb u xs q=>by rw[Yi (Yl q c)];exact q
 tbls:=λb ps q=>⟨#[],by rw[Yi (Yl q c),q];simp⟩
theorem Un.write(d:oE (H x))(j:e=x\/H e=some (.own x))(k:∀b u,b≠e->h.get? b=some u->h'.get? b=some u)(g:∃u,h'.get? e=some u):Un fs ex H (upd H x o) h h':=by
 have f:∀b,H b=none->b≠x:=λb n z=>by subst z;rw[n]at d;exact d
 have hb:∀b,H b=none->b≠e:=λb n z=>by
  grind
 have c:∀b u,H b=some u->¬oE (some u)->b≠x:=λb u q i z=>by grind
 refine⟨λb u q n _ _=>k b u (hb b n) q,λb u q n _ _=>⟨u.slots,k b u (hb b n) q⟩,λb u q n _=>by rw[Yi (f b n)];exact n,λb u q _=>?_,
  λb xs q=>by rw[Yi (c b _ q λz=>z)];exact q,λb u xs q=>by rw[Yi (c b _ q λz=>z)];exact q,λb ps q=>⟨#[],by rw[Yi (c b _ q λz=>z),q];simp⟩⟩
 grind
end
def tI(h:Heap)(H:Hp):List Addr:=(List.range h.objs.size).filter λa=>(H a).isSome
def dq(h:Heap)(H:Hp):Heap:=W.hideAll h (tI h H)
def Lk(h:Heap)(H:Hp):(dq h H).objs.size=h.objs.size:=W.hideAll_size _ _
theorem Ll(e:h.get? b=some o)(n:H b=none):(dq h H).get? b=some o:=
 W.hideAll_get _ e λc=>by
  have q:=(Qc c).2;grind
theorem tJ(e:(dq h H).get? b=some o):h.get? b=some o/\H b=none:=by
 have c:=W.of_hideAll (tI h H) e;refine⟨c,?_⟩
 cases q:H b with
 | none=>rfl
 | some x=>
   have z:(dq h H).get? b=none:=W.hideAll_none (tI h H) (List.mem_filter.mpr ⟨List.mem_range.mpr (ql c),by simp[q]⟩);grind
structure Mod(K:W7)(mg:AE)(base:Heap):Prop where
 kin:K.In base
 glob:base.Ns mainGlobals mg
 blt:∃mb,base.Ns builtinsNs mb/\∀x:Str,x≠"__name__"->mb x=bootBuiltins x
 nolimit:base.NoLimit
structure Cx where
 prog:P7
 w:World
 K:W7
 mg:AE
 base:Heap
 A:Around
 N:AK
 s₀:Shared
 H₀:Hp
 env:Env
 outer:List Env
 stack:List Env
 ex:List Addr
 fn:Str->Bool
 calm:Bool
 pn:AC
 xe:AB
def ey(l:List Env):List Addr:=l.filterMap (·.frame)
abbrev Cx.fs(X:Cx):List Addr:=ey X.outer
def eG(a:Scope)(x:Str):Prop:=a.names.lookup x=some .local\/a.names.lookup x=some .cell\/a.names.lookup x=some .free
def dJ(a:Scope)(x:Str):Prop:=a.names.lookup x=some .local\/a.names.lookup x=some .cell
def tL(env:Env)(h:Heap)(m:AE)(x:Str)(u:Value):Prop:=
 (env.kindOf x=some .local/\m x=some u)\/((env.kindOf x=some .cell\/env.kindOf x=some .free)/\∃c,env.cells.lookup x=some c/\h.IsCell c (some u))
structure Cx.Ok(X:Cx):Prop where
 mod:Mod X.K X.mg X.base
 kind:X.env.scope.kind=.function
 glob:X.env.globals=mainGlobals
 blt:X.env.builtins=builtinsNs
 above:X.s₀.heap.objs.size<=X.env.locals
 inj:∀x y c,X.env.cells.lookup x=some c->X.env.cells.lookup y=some c->x=y
 has:∀x,(X.env.kindOf x=some .cell\/X.env.kindOf x=some .free)->∃c,X.env.cells.lookup x=some c
 cab:∀x c,X.fn x=true->X.env.cells.lookup x=some c->X.s₀.heap.objs.size<=c
 hd:X.calm=true->X.A.handled=none
 frames:X.A.frames=some X.stack
 stk:X.stack=X.outer\/(X.stack=X.env::X.outer/\X.env.frame=some X.env.locals)
 exf:∀b∈X.ex,b≠X.env.locals/\∀x c,X.env.cells.lookup x=some c->c≠b
 bs:∀b o,X.base.get? b=some o->X.s₀.heap.get? b=some o/\X.H₀ b=none
 bsz:X.base.objs.size<=X.s₀.heap.objs.size
 noex:∀b o,X.base.get? b=some o->b∉X.ex
 exfs:∀b∈X.ex,b∉X.fs
 funs:X.s₀.heap.FunFrames X.base X.outer
 frf:∀b∈X.fs,X.H₀ b=none
structure Inv(X:Cx)(pins:AC)(σ:List (Option V))(H:Hp)(s:Shared):Prop where
 ok:X.Ok
 os:s.os=X.s₀.os
 bare:AllBare s.gens
 base:Un X.fs X.ex X.H₀ H X.s₀.heap s.heap
 loc:∃m,s.heap.Ns X.env.locals m/\∀(i:Nat) (x:Str) (v:V),X.N[i]?=some x->σ[i]?=some (some v)->eG X.env.scope x->∃u,RelV v u/\tL X.env s.heap m x u
 cell:∀x c,X.env.cells.lookup x=some c->∃v,s.heap.IsCell c v
 free:H X.env.locals=none
 freeC:∀x c,X.env.cells.lookup x=some c->H c=none
 pin:∀p∈X.pn++pins,s.heap.get? p.1=some p.2/\H p.1=none/\p.1≠X.env.locals/\p.1∉X.fs/\∀v,p.2.data≠.cell v
 hok:HOk X.prog X.w H s.heap
 len:σ.length=X.N.length
section
variable {X:Cx}{pins:AC}{σ:List (Option V)}{H H':Hp}{s:Shared}{h':Heap}
theorem Cx.Ok.nofr(ok:X.Ok)(e:X.base.get? b=some o):b∉X.fs:=λhb=>by
 have:=(ok.funs.mem hb).1;grind
def Inv.bs(I:Inv X pins σ H s):∀b o,X.base.get? b=some o->s.heap.get? b=some o/\H b=none:=λb o e=>
 ⟨I.base.keep b o (I.ok.bs b o e).1 (I.ok.bs b o e).2 (I.ok.nofr e) (I.ok.noex b o e),I.base.free b o (I.ok.bs b o e).1 (I.ok.bs b o e).2 (I.ok.noex b o e)⟩
def Inv.bk(I:Inv X pins σ H s):∀b o,X.base.get? b=some o->s.heap.get? b=some o:=λb o e=>(I.bs b o e).1
def Inv.mod(I:Inv X pins σ H s):Mod X.K X.mg X.base:=I.ok.mod
def Inv.kIn(I:Inv X pins σ H s):X.K.In s.heap:=I.ok.mod.kin.keeps I.bk
def Inv.lt(I:Inv X pins σ H s):X.env.locals< ~~~s:=let ⟨_,a,_⟩:=I.loc;a.lt
def Inv.sz(I:Inv X pins σ H s):X.s₀.heap.objs.size<= ~~~s:=Qg I.ok.above (Nat.le_of_lt I.lt)
def Inv.nofs(I:Inv X pins σ H s){a:Addr}(h:(~~~s)<=a):a∉X.fs:=λhb=>by
 obtain⟨_,o,b,_⟩:=I.ok.funs.mem hb;exact absurd (Qi (ql b) (Qg I.sz h)) (Nat.lt_irrefl _)
theorem Inv.cne(I:Inv X pins σ H s):∀x c,X.env.cells.lookup x=some c->c≠X.env.locals:=λx c e z=>by
 obtain⟨v,o,d,i⟩:=I.cell x c e;obtain⟨m,⟨g,f,h,b,a,_⟩,_⟩:=I.loc;grind
theorem Inv.funs(I:Inv X pins σ H s):s.heap.FunFrames X.base X.outer:=by
 have c:∀(l:List Env),(∀b∈ey l,b∈X.fs)->X.s₀.heap.FunFrames X.base l->s.heap.FunFrames X.base l:=by
  intro l
  induction l with
  | nil=>intro _ _;trivial
  | cons env r k=>
    intro hs m;obtain⟨j,⟨L,o,d,i,f,h⟩,g⟩:=m;have a:=hs L (by unfold ey;grind);obtain⟨n,e⟩:=I.base.slot L o f (I.ok.frf L a) a λz=>I.ok.exfs L z a;exact⟨j,⟨L,_,d,i,e,h⟩,k (λb hb=>hs b (by unfold ey;rw[List.filterMap_cons,d];exact qg _ hb)) g⟩
 exact c X.outer (λ_ hb=>hb) I.ok.funs
theorem Inv.stack(I:Inv X pins σ H s):s.heap.FunFrames X.base X.stack:=by
 rcases I.ok.stk with e|⟨e,b⟩
 .rw[e];exact I.funs
 .rw[e]
  obtain⟨m,a,_⟩:=I.loc;exact .cons (by rw[I.ok.kind];decide) b a (Heap.get?_none_of_le (Qg I.ok.bsz I.ok.above)) I.funs
theorem Inv.stkSub(I:Inv X pins σ H s):∀b∈ey X.stack,b∈X.env.locals::X.fs:=λb hb=>by
 rcases I.ok.stk with e|⟨e,a⟩
 .grind
 .rw[e]at hb
  unfold ey at hb;rw[List.filterMap_cons,a]at hb;exact hb
def Inv.stkFree(I:Inv X pins σ H s):∀b∈ey X.stack,H b=none:=λb hb=>by
 rcases qu (I.stkSub b hb)with e|hb
 .rw[e];exact I.free
 .obtain⟨_,o,a,_⟩:=I.ok.funs.mem hb
  exact I.base.free b o a (I.ok.frf b hb) λz=>I.ok.exfs b z hb
theorem Inv.step{ch:List Addr}(I:Inv X pins σ H s)(g:∀b∈ch,(b∈X.ex\/X.s₀.heap.objs.size<=b)/\b≠X.env.locals/\(∀x c,X.env.cells.lookup x=some c->c≠b)/\∀p∈X.pn++pins,p.1≠b)(h:∀b o,b≠X.env.locals->b∉X.fs->b∉ch->s.heap.get? b=some o->H b=none->h'.get? b=some o)(j:∀b o,b≠X.env.locals->b∈X.fs->b∉ch->s.heap.get? b=some o->H b=none->∃G,h'.get? b=some { o with slots:=G })(f:∀b o,b∉ch->s.heap.get? b=some o->H b=none->H' b=none)(K:∀b o,b∉ch->s.heap.get? b=some o->∃F,h'.get? b=some F)(E:∀b xs,H b=some (.tup xs)->H' b=some (.tup xs))(C:∀b o u,H b=some (.frz o u)->H' b=some (.frz o u))(O:∀b ps,H b=some (.tbl ps)->∃B,H' b=some (.tbl (ps++B)))(ns:∀m,s.heap.Ns X.env.locals m->h'.Ns X.env.locals m)(M:HOk X.prog X.w H' h')(S:AllBare g'):
 Inv X pins σ H' { s with heap:=h',gens:=g',drawn:=d',toks:=t' }:=by
 have A:∀b o,X.s₀.heap.get? b=some o->b≠X.env.locals:=λb o e=>qm (Qi (ql e) I.ok.above)
 have w:∀b o,X.s₀.heap.get? b=some o->b∉X.ex->b∉ch:=λb o e a hb=>by
  rcases(g b hb).1 with z|z
  .exact a z
  .exact absurd (Qi (ql e) z) (Nat.lt_irrefl _)
 have t:∀x c,X.env.cells.lookup x=some c->∀v,s.heap.IsCell c v->h'.IsCell c v:=λx c e v J=>by
  obtain⟨o,y,L⟩:=J;have D:c∉ch:=λz=>(g c z).2.2.1 x c e rfl;by_cases N:c∈X.fs
  .obtain⟨G,q⟩:=j c o (I.cne x c e) N D y (I.freeC x c e)
   exact⟨_,q,L⟩
  .exact⟨o,h c o (I.cne x c e) N D y (I.freeC x c e),L⟩
 refine⟨I.ok,I.os,S,⟨λb o e n hb a=>?_,λb o e n hb a=>?_,λb o e n a=>?_,λb o e a=>?_,λb xs e=>E b xs (I.base.tups b xs e),λb o xs e=>C b o xs (I.base.frzs b o xs e),λb ps e=>?_⟩,?_,λx c e=>?_,?_,λx c e=>?_,λp U=>?_,M,I.len⟩
 .exact h b o (A b o e) hb (w b o e a) (I.base.keep b o e n hb a) (I.base.free b o e n a)
 .obtain⟨G,e1⟩:=I.base.slot b o e n hb a
  obtain⟨R,e2⟩:=j b _ (A b o e) hb (w b o e a) e1 (I.base.free b o e n a);grind
 .obtain⟨F,e1⟩:=I.base.there b o e a
  exact f b F (w b o e a) e1 (I.base.free b o e n a)
 .obtain⟨F,e1⟩:=I.base.there b o e a
  grind
 .obtain⟨Y,e1⟩:=I.base.tbls b ps e
  grind
 .obtain⟨m,T,Q⟩:=I.loc
  refine⟨m,ns m T,λi x v e1 e2 P=>?_⟩;obtain⟨u,r,l⟩:=Q i x v e1 e2 P;refine⟨u,r,?_⟩;rcases l with l|⟨k,c,e,z⟩
  .exact .inl l
  .exact .inr ⟨k,c,e,t x c e _ z⟩
 .obtain⟨v,z⟩:=I.cell x c e
  grind
 .obtain⟨m,⟨o,_,_,y,_⟩,_⟩:=I.loc
  exact f _ o (λz=>(g _ z).2.1 rfl) y I.free
 .obtain⟨v,o,y,L⟩:=I.cell x c e
  exact f c o (λz=>(g c z).2.2.1 x c e rfl) y (I.freeC x c e)
 .obtain⟨e,n,Z,W,d⟩:=I.pin p U
  grind
theorem Inv.un(I:Inv X pins σ H s)(u:Un X.fs [] H H' s.heap h')(f:HOk X.prog X.w H' h'):Inv X pins σ H' { s with heap:=h',toks:=t' }:=by
 obtain⟨m,⟨o,q,t,g,r⟩,_⟩:=id I.loc;obtain⟨p,j⟩:=u.any g I.free (by simp)
 exact I.step   (ch:=[]) (λ_ z=>nomatch z) (λb o _ hb _ e n=>u.keep b o e n hb (by simp)) (λb o _ hb _ e n=>u.slot b o e n hb (by simp)) (λb o _ e n=>u.free b o e n (by simp)) (λb o _ e=>u.there b o e (by simp)) u.tups u.frzs u.tbls (λk h=>by
  obtain⟨l,c,d,a,i⟩:=h;rw[g]at a;cases a
  exact⟨_,c,d,j,i⟩) f I.bare
theorem Inv.call(I:Inv X pins σ H s)(u:Un (ey X.stack) ch H H' s.heap h')(i:HOk X.prog X.w H' h')(q:AllBare g')(d:∀b∈ch,(b∈X.ex\/X.s₀.heap.objs.size<=b)/\b≠X.env.locals/\(∀x c,X.env.cells.lookup x=some c->c≠b)/\∀p∈X.pn++pins,p.1≠b):
 Inv X pins σ H' { s with heap:=h',gens:=g',drawn:=d',toks:=t' }:=by
 obtain⟨m,⟨o,B,A,k,r⟩,_⟩:=id I.loc;obtain⟨v,j⟩:=u.any k I.free λz=>(d _ z).2.1 rfl
 exact I.step  d (λb o j hb a e n=>u.keep b o e n (λz=>(qu (I.stkSub b z)).elim j hb) a) (λb o _ _ a e n=>u.any e n a) (λb o a e n=>u.free b o e n a) (λb o a e=>u.there b o e a) u.tups u.frzs u.tbls (λy l=>by
  obtain⟨w,g,h,f,t⟩:=l;rw[k]at f;cases f
  exact⟨_,g,h,j,t⟩) i q
theorem Inv.turned(I:Inv X pins σ H s)(k:∀b o,b≠a->s.heap.get? b=some o->h'.get? b=some o)(t:H a=none)(i:a≠X.env.locals)(w:a∈X.ex\/X.s₀.heap.objs.size<=a)(y:∀x c,X.env.cells.lookup x=some c->c≠a)(l:∀p∈X.pn++pins,p.1≠a):Inv X pins σ H { s with heap:=h',toks:=t' }:=by
 refine I.step   (ch:=[a]) (λb hb=>?_) (λb o _ _ d e _=>k b o (λz=>d (by simp[z])) e) (λb o _ _ d e _=>⟨o.slots,k b o (λz=>d (by simp[z])) e⟩) (λ_ _ _ _ n=>n)
  (λb o d e=>⟨o,k b o (λz=>d (by simp[z])) e⟩) (λ_ _ e=>e) (λ_ _ _ e=>e) (λb ps e=>⟨#[],by rw[e];simp⟩) (λm f=>?_) (λb u e=>?_) I.bare
 .grind
 .obtain⟨o,g,h,j,r⟩:=f
  exact⟨o,g,h,k _ o (Ne.symm i) j,r⟩
 .refine(I.hok b u e).stay (λc v d q=>k c v ?_ q) (λ_ q=>q) λ_ _ q=>q
  grind
def Inv.tok(I:Inv X pins σ H s)(t:Nat):Inv X pins σ H { s with toks:=t }:=I.un   Un.refl I.hok
def Inv.kept(I:Inv X pins σ H s)(k:∀b u,s.heap.get? b=some u->h'.get? b=some u):Inv X pins σ H { s with heap:=h',toks:=t' }:=I.un (Un.kept k) (I.hok.kept k)
def Inv.laid{a:Addr}(I:Inv X pins σ H s)(k:∀b u,s.heap.get? b=some u->h'.get? b=some u)(c:(~~~s)<=a)(d:ObjOk X.prog X.w (upd H a o) h' a o):
 Inv X pins σ (upd H a o) { s with heap:=h',toks:=t' }:=I.un (Un.laid k c (I.hok.fresh c)) (I.hok.laid k c d)
def Inv.write(I:Inv X pins σ H s)(f:oE (H x))(d:e=x\/H e=some (.own x))(k:∀b u,b≠e->s.heap.get? b=some u->h'.get? b=some u)(a:∃u,h'.get? e=some u)(c:ObjOk X.prog X.w (upd H x o) h' x o):Inv X pins σ (upd H x o) { s with heap:=h',toks:=t' }:=I.un (Un.write f d k a) (I.hok.write f d k a c)
def Inv.pins_of(I:Inv X pins σ H s)(h:∀p∈a,s.heap.get? p.1=some p.2/\H p.1=none/\p.1≠X.env.locals/\p.1∉X.fs/\∀v,p.2.data≠.cell v):Inv X a σ H s:=
 ⟨I.ok,I.os,I.bare,I.base,I.loc,I.cell,I.free,I.freeC,λp b=>(qw b).elim (λz=>I.pin p (List.mem_append_left _ z)) (h p),I.hok,I.len⟩
def Fx{N:AK}(c:N.Nodup){i j:Nat}(a:N[i]?=some x)(b:N[j]?=some x):i=j:=by
 obtain⟨e,e1⟩:=qo a;obtain⟨d,e2⟩:=qo b;exact(List.getElem_inj c).mp (e1.trans e2.symm)
theorem Fy(I:Inv X pins σ H s)(hN:X.N.Nodup)(J:X.N[i]?=some x)(g:dJ X.env.scope x)(r:RelV v u)(h:∀s',Inv X pins (σ.set i (some v)) H s'->(∃a,Heap.SameBut a s.heap s'.heap/\(a=X.env.locals\/X.env.cells.lookup x=some a))->Q () s')(hf:X.fn x=true\/X.env.scope.names.lookup x=some .local:=by trivial):wpAny M A (storeName X.env x u) Q E s:=by
 obtain⟨m,N,hl⟩:=id I.loc
 have F:(X.env.scope.kind==.class||(X.env.scope.kind==.module&&X.env.locals != X.env.globals))=false:=by rw[I.ok.kind];rfl
 have t:i<σ.length:=by rw[I.len];grind
 have B:=I.cne
 have f:∀{a:Addr}{h':Heap},(∃o,s.heap.get? a=some o/\H a=none)->Heap.SameBut a s.heap h'->HOk X.prog X.w H h':=λ{a h'} ha hs b ob e=>by
  refine(I.hok b ob e).stay (λc R l q=>(hs.2 c ?_).trans q) (λ_ q=>q) λ_ _ q=>q;grind
 rcases g with D|D
 .refine wpAny_storeName_local D N (λh' hn' hs=>?_) F
  obtain⟨oL,_,_,Z,_⟩:=id N;refine h _ ⟨I.ok,I.os,I.bare,⟨λb o e n hb g=>?_,λb o e n hb g=>?_,I.base.free,λb o e g=>?_,I.base.tups,I.base.frzs,I.base.tbls⟩,⟨_,hn',λj y O e1 e2 U=>?_⟩,λy c e=>?_,I.free,I.freeC,λp L=>?_,f ⟨oL,Z,I.free⟩ hs,by simpa using I.len⟩ ⟨_,hs,.inl rfl⟩
  .exact(hs.2 b (qm (Qi (ql e) I.ok.above))).trans (I.base.keep b o e n hb g)
  .obtain⟨T,e1⟩:=I.base.slot b o e n hb g
   exact⟨T,(hs.2 b (qm (Qi (ql e) I.ok.above))).trans e1⟩
  .obtain⟨o',e1⟩:=I.base.there b o e g
   exact⟨o',(hs.2 b (qm (Qi (ql e) I.ok.above))).trans e1⟩
  .by_cases w:j=i
   .subst w
    rw[J]at e1;cases e1;rw[List.getElem?_set_self t]at e2;cases e2;exact⟨u,r,.inl ⟨D,by simp⟩⟩
   .rw[Qp (Ne.symm w)]at e2
    obtain⟨W,S,q⟩:=hl j y O e1 e2 U;refine⟨W,S,?_⟩;rcases q with⟨k,e⟩|⟨k,c,e,z⟩
    .refine .inl ⟨k,?_⟩
     have:y≠x:=λe=>w (Fx hN e1 (e ▸ J));grind
    .exact .inr ⟨k,c,e,z.sameBut hs (B y c e)⟩
  .obtain⟨R,z⟩:=I.cell y c e
   exact⟨R,z.sameBut hs (B y c e)⟩
  .obtain⟨e,n,K,nf,d⟩:=I.pin p L
   exact⟨(hs.2 p.1 K).trans e,n,K,nf,d⟩
 .have C:X.fn x=true:=by
   grind
  obtain⟨c,l⟩:=I.ok.has x (.inl D);obtain⟨R,z⟩:=I.cell x c l;refine wpAny_storeName_cell I.ok.kind D l z (λh' P hs=>?_);obtain⟨oc,hoc,hocd⟩:=id z;refine h { s with heap:=h' } ⟨I.ok,I.os,I.bare,⟨λb o e n hb g=>?_,λb o e n hb g=>?_,I.base.free,λb o e g=>?_,I.base.tups,I.base.frzs,I.base.tbls⟩,⟨m,N.sameBut hs (Ne.symm (B x c l)),λj y O e1 e2 U=>?_⟩,λy G e=>?_,I.free,I.freeC,λp L=>?_,f ⟨oc,hoc,I.freeC x c l⟩ hs,by simpa using I.len⟩ ⟨c,hs,.inr l⟩
  .exact(hs.2 b (qm (Qi (ql e) (I.ok.cab x c C l)))).trans (I.base.keep b o e n hb g)
  .obtain⟨T,e1⟩:=I.base.slot b o e n hb g
   exact⟨T,(hs.2 b (qm (Qi (ql e) (I.ok.cab x c C l)))).trans e1⟩
  .obtain⟨o',e1⟩:=I.base.there b o e g
   exact⟨o',(hs.2 b (qm (Qi (ql e) (I.ok.cab x c C l)))).trans e1⟩
  .by_cases w:j=i
   .subst w
    rw[J]at e1;cases e1;rw[List.getElem?_set_self t]at e2;cases e2;exact⟨u,r,.inr ⟨.inl D,c,l,P⟩⟩
   .rw[Qp (Ne.symm w)]at e2
    obtain⟨W,S,q⟩:=hl j y O e1 e2 U;refine⟨W,S,?_⟩;rcases q with q|⟨k,G,e,z'⟩
    .exact .inl q
    .refine .inr ⟨k,G,e,z'.sameBut hs ?_⟩
     rintro rfl;exact w (Fx hN e1 (I.ok.inj _ _ _ e l ▸ J))
  .by_cases Y:G=c
   .grind
   .obtain⟨w2,z2⟩:=I.cell y G e
    exact⟨w2,z2.sameBut hs Y⟩
  .obtain⟨e,n,K,nf,d⟩:=I.pin p L
   refine⟨(hs.2 p.1 ?_).trans e,n,K,nf,d⟩;grind
def Fz(I:Inv X pins σ H s)(a:X.N.Nodup)(d:X.N[i]?=some x)(b:dJ X.env.scope x)(r:RelV v u)(h:∀s',Inv X pins (σ.set i (some v)) H s'->Q () s')(e:X.fn x=true\/X.env.scope.names.lookup x=some .local:=by trivial):wpAny M A (storeName X.env x u) Q E s:=
 Fy I a d b r (λs' c _=>h s' c) e
def Inv.call'(I:Inv X pins σ H s)(f:s'.os=s.os)(u:Un (ey X.stack) ch H H' s.heap s'.heap)(d:HOk X.prog X.w H' s'.heap)(e:AllBare s'.gens)(a:∀b∈ch,(b∈X.ex\/X.s₀.heap.objs.size<=b)/\b≠X.env.locals/\(∀x c,X.env.cells.lookup x=some c->c≠b)/\∀p∈X.pn++pins,p.1≠b):Inv X pins σ H' s':=by
 obtain⟨h',g',d',t',g⟩:=s';subst f;exact I.call    u d e a
end
abbrev XK:=Value->Option Addr->Hp->Prop
abbrev St:=List (Option V)
abbrev VK:=V->Hp->Prop
abbrev TE:=St->Hp->VK->Prop
abbrev TT:=St->Hp->(Bool->Hp->Prop)->Prop
abbrev TA:=St->Hp->(AN->Hp->Prop)->Prop
structure c8 where
 nx:St->Hp->Prop
 rt:VK
 bk:St->Hp->Prop:=λ_ _=>False
 ct:St->Hp->Prop:=λ_ _=>False
abbrev TS:=c8->St->Hp->Prop
def EP(X:Cx)(pins:AC)(σ:St)(Q:VK)(u:Value)(s':Shared):Prop:=∃v H',Inv X pins σ H' s'/\RelV v u/\Q v H'
def TP(X:Cx)(pins:AC)(σ:St)(Q:Bool->Hp->Prop)(b:Bool)(s':Shared):Prop:=∃H',Inv X pins σ H' s'/\Q b H'
def AP(X:Cx)(pins:AC)(σ:St)(Q:AN->Hp->Prop)(us:AD)(s':Shared):Prop:=∃vs H',Inv X pins σ H' s'/\Vals vs us/\Q vs H'
def SP(X:Cx)(pins:AC)(D:c8)(f:Flow)(s':Shared):Prop:=
 match f with
 | .next=>∃σ' H',Inv X pins σ' H' s'/\D.nx σ' H'
 | .brk=>∃σ' H',Inv X pins σ' H' s'/\D.bk σ' H'
 | .cont=>∃σ' H',Inv X pins σ' H' s'/\D.ct σ' H'
 | .ret u=>∃v σ' H',Inv X pins σ' H' s'/\RelV v u/\D.rt v H'
def PE(X:Cx)(e:Expr)(t:TE):Prop:=
 ∀(pins:AC) (s:Shared) (σ:St) (H:Hp) (Q:VK),Inv X pins σ H s->t σ H Q->wpAny (mZ X.prog X.w) X.A (eval e X.env) (EP X pins σ Q) X.xe s
def PT(X:Cx)(e:Expr)(t:TT):Prop:=
 ∀(pins:AC) (s:Shared) (σ:St) (H:Hp) (Q:Bool->Hp->Prop),Inv X pins σ H s->t σ H Q->wpAny (mZ X.prog X.w) X.A (isTrue e X.env (eval e X.env)) (TP X pins σ Q) X.xe s
def PW(X:Cx)(e:Expr)(t:TT):Prop:=
 ∀(a:Sem Value) (pins:AC) (s:Shared) (σ:St) (H:Hp) (Q:Bool->Hp->Prop),Inv X pins σ H s->t σ H Q->wpAny (mZ X.prog X.w) X.A (isTrue e X.env a) (TP X pins σ Q) X.xe s
def PW.pt(h:PW X e t):PT X e t:=h _
def PA(X:Cx)(b:AL)(t:TA):Prop:=
 ∀(a:Pos) (pins:AC) (s:Shared) (σ:St) (H:Hp) (Q:AN->Hp->Prop),Inv X pins σ H s->t σ H Q->wpAny (mZ X.prog X.w) X.A (spliced (backTo a (starEach b X.env))) (AP X pins σ Q) X.xe s
def PS(X:Cx)(st:Stmt)(t:TS):Prop:=
 ∀(pins:AC) (s:Shared) (σ:St) (H:Hp) (D:c8),Inv X pins σ H s->t D σ H->wpAny (mZ X.prog X.w) X.A (exec st X.env) (SP X pins D) X.xe s
def PSs(X:Cx)(st:List Stmt)(t:TS):Prop:=
 ∀(pins:AC) (s:Shared) (σ:St) (H:Hp) (D:c8),Inv X pins σ H s->t D σ H->wpAny (mZ X.prog X.w) X.A (execs st X.env) (SP X pins D) X.xe s
def aI(h:wpAny M A t Q E s)(c:∀a s,Q a s->b a s):wpAny M A t b E s:=wy h c λ_ _ x=>x
section
variable {X:Cx}
def tM(i:Nat):TE:=λσ H Q=>∃v,σ[i]?=some (some v)/\Q v H
def tC(v:V):TE:=λ_ H Q=>Q v H
abbrev b9(x:Str):Prop:=(x==("__debug__":Str))=false
abbrev eZ(x:Str):Prop:=(x==("__classdict__":Str))=false
theorem fH{j:Pos}(p:X.N[i]?=some x)(o:eG X.env.scope x)(f:b9 x:=by decide)(g:eZ x:=by decide):PE X (.Name x j) (tM i):=by
 intro pins s σ H Q I h;obtain⟨v,e,h⟩:=h;obtain⟨m,n,q⟩:=I.loc;obtain⟨u,r,l⟩:=q i x v p e o
 have b:EP X pins σ Q u s:=⟨v,H,I,r,h⟩
 rcases l with⟨d,t⟩|⟨d,c,k,a⟩
 .exact wpAny_Name (wpAny_loadName_local I.ok.kind d n t b) f
 .rcases d with d|d
  .exact wpAny_Name (wpAny_loadName_cell I.ok.kind d k a b) f
  .exact wpAny_Name (wpAny_loadName_free I.ok.kind d k a b g) f
def j5{i j a}:PE X (.Constant (.int i) j a) (tC (.int i)):=λ_ _ _ H _ I h=>wpAny_Constant_int ⟨.int i,H,I.tok _,⟨_,rfl⟩,h⟩
def tN{b j a}:PE X (.Constant (.bool b) j a) (tC (.bl b)):=λ_ _ _ H _ I h=>Constant_bool ⟨.bl b,H,I,rfl,h⟩
def tP{j a}:PE X (.Constant .none j a) (tC .non):=λ_ _ _ H _ I h=>Constant_none ⟨.non,H,I,rfl,h⟩
def tQ{x j b}:PE X (.Constant (.str x) j b) (tC (.str x)):=λ_ _ _ H _ I h=>Calls.Constant_str ⟨.str x,H,I.tok _,⟨_,rfl⟩,h⟩
def Gl(X:Cx)(x:Str):Prop:=X.env.kindOf x=some .globalImplicit
theorem oG{σ:St}(I:Inv X pins σ H s)(d:Gl X x)(e:X.mg x=some u)(h:Q u s)(c:b9 x:=by decide):wpAny (mZ X.prog X.w) X.A (eval (.Name x b) X.env) Q E s:=
 Calls.Name_function_global I.ok.kind d (Calls.loadGlobal_global (by rw[I.ok.glob];exact I.mod.glob.keeps I.bk) e h) c
theorem gX{E:AB}{σ:St}{b:Pos}(I:Inv X pins σ H s)(e:Gl X x)(g:X.mg x=none)(c:bootBuiltins x=some u)(h:Q u s)(j:x≠"__name__":=by decide)(f:b9 x:=by decide):wpAny (mZ X.prog X.w) X.A (eval (.Name x b) X.env) Q E s:=by
 obtain⟨mb,i,d⟩:=I.mod.blt;exact Calls.Name_function_global I.ok.kind e (Calls.loadGlobal_builtin (by rw[I.ok.glob];exact I.mod.glob.keeps I.bk) g (by rw[I.ok.blt];exact i.keeps I.bk) ((d x j).trans c) h) f
def tR{x:Str}{v:V}{u:Value}{a:Pos}(c:Gl X x)(b:X.mg x=some u)(r:RelV v u)(d:b9 x:=by decide):PE X (.Name x a) (tC v):=
 λ_ _ _ H _ I h=>oG I c b ⟨v,H,I,r,h⟩ d
theorem tS{a:Pos}(d:Gl X x)(e:X.mg x=none)(b:bootBuiltins x=some u)(r:RelV v u)(f:x≠"__name__":=by decide)(c:b9 x:=by decide):PE X (.Name x a) (tC v):=
 λ_ _ _ H _ I h=>gX I d e b ⟨v,H,I,r,h⟩ f c
variable {a b:Expr}{ta tb:TE}{pos:Pos}
def tB(t:TE):TT:=λσ H Q=>t σ H λx d=>∃c,x=.bl c/\Q c d
theorem tU{e:Expr}{t:TE}(h:PE X e t)(k:∀c,isTrue e X.env c=(do let v <-c;standAt e.pos;holding [v] (truthy v)):=by intro _;rfl):PT X e (tB t):=by
 intro pins s σ H Q I j;refine isTrue_plain (aI (h pins s σ H _ I j) λv n f=>?_) (k _);obtain⟨x,m,i,g,l⟩:=f;obtain⟨d,rfl,q⟩:=l;cases g;exact wpAny_truthy_bool ⟨m,i,q⟩
variable {tA tB':TT}{rest:AL}
def j6(t u:TT):TT:=λσ H Q=>t σ H λc d=>if c=true then u σ d Q else Q false d
def FA(t u:TT):TT:=λσ H Q=>t σ H λc d=>if c=true then Q true d else u σ d Q
def tV(t:TT):TT:=λσ H Q=>t σ H λc d=>Q (!c) d
def tW(d:PT X a tA):PW X (.BoolOp .And [a] pos) tA:=by
 intro g pins s σ H Q I h;refine isTrue_and (aI (d pins s σ H Q I h) λc f e=>?_)
 cases c with
 | true=>exact isTrue_and_nil e
 | false=>exact e
def tX(d:PT X a tA):PW X (.BoolOp .Or [a] pos) tA:=by
 intro g pins s σ H Q I h;refine isTrue_or (aI (d pins s σ H Q I h) λc f e=>?_)
 cases c with
 | false=>exact isTrue_or_nil e
 | true=>exact e
def tZ(i:PT X a tA)(hb:PW X (.BoolOp .And (b::rest) pos) tB'):PW X (.BoolOp .And (a::b::rest) pos) (j6 tA tB'):=by
 intro k pins s σ H Q I h;refine isTrue_and (aI (i pins s σ H _ I h) λc j d=>?_);obtain⟨g,f,e⟩:=d
 cases c with
 | true=>exact hb k pins j σ g Q f e
 | false=>exact⟨g,f,e⟩
def t_(i:PT X a tA)(hb:PW X (.BoolOp .Or (b::rest) pos) tB'):PW X (.BoolOp .Or (a::b::rest) pos) (FA tA tB'):=by
 intro k pins s σ H Q I h;refine isTrue_or (aI (i pins s σ H _ I h) λc j d=>?_);obtain⟨g,f,e⟩:=d
 cases c with
 | true=>exact⟨g,f,e⟩
 | false=>exact hb k pins j σ g Q f e
def j7(d:PT X a tA):PT X (.UnaryOp .Not a pos) (tV tA):=by
 intro pins s σ H Q I h;exact isTrue_not (d pins s σ H (λc e=>Q (!c) e) I h)
def uA(ta tb:TE):TE:=λσ H Q=>ta σ H λx d=>∃c,x=.bl c/\if c=true then tb σ d Q else Q (.bl false) d
def uB(ta tb:TE):TE:=λσ H Q=>ta σ H λx d=>∃c,x=.bl c/\if c=true then Q (.bl true) d else tb σ d Q
def uC(ta:TE):TE:=λσ H Q=>ta σ H λx d=>∃c,x=.bl c/\Q (.bl (!c)) d
def j8{op}(h:PE X a t):PE X (.BoolOp op [a] pos) t:=λpins s σ H Q I c=>BoolOp_one (h pins s σ H Q I c)
def uD(k:PE X a ta)(hb:PE X (.BoolOp .And (b::rest) pos) tb):PE X (.BoolOp .And (a::b::rest) pos) (uA ta tb):=by
 intro pins s σ H Q I h;refine BoolOp_and (aI (k pins s σ H _ I h) λv i e=>?_);obtain⟨x,f,g,j,d⟩:=e;obtain⟨c,rfl,d⟩:=d;cases j;refine wpAny_truthy_bool ?_
 cases c with
 | true=>exact hb pins i σ f Q g d
 | false=>exact⟨.bl false,f,g,rfl,d⟩
def uE(k:PE X a ta)(hb:PE X (.BoolOp .Or (b::rest) pos) tb):PE X (.BoolOp .Or (a::b::rest) pos) (uB ta tb):=by
 intro pins s σ H Q I h;refine BoolOp_or (aI (k pins s σ H _ I h) λv i e=>?_);obtain⟨x,f,g,j,d⟩:=e;obtain⟨c,rfl,d⟩:=d;cases j;refine wpAny_truthy_bool ?_
 cases c with
 | false=>exact hb pins i σ f Q g d
 | true=>exact⟨.bl true,f,g,rfl,d⟩
def uF(j:PE X a ta):PE X (.UnaryOp .Not a pos) (uC ta):=by
 intro pins s σ H Q I h;refine UnaryOp_ (aI (j pins s σ H _ I h) λv k d=>?_);obtain⟨x,i,g,f,e⟩:=d;obtain⟨c,rfl,e⟩:=e;cases f;exact not_of (wpAny_truthy_bool ⟨.bl (!c),i,g,rfl,e⟩)
def Lm(t:TT)(ta tb:TE):TE:=λσ H Q=>t σ H λc d=>if c=true then ta σ d Q else tb σ d Q
def Ln(l:PT X c tA)(k:PE X a ta)(hb:PE X b tb):PE X (.IfExp c a b pos) (Lm tA ta tb):=by
 intro pins s σ H Q I h;refine wpAny_IfExp (aI (l pins s σ H _ I h) λd j e=>?_);obtain⟨i,g,f⟩:=e
 cases d with
 | true=>exact k pins j σ i Q g f
 | false=>exact hb pins j σ i Q g f
end
def SqL(K:W7)(H:Hp)(a:Addr)(xs:AN):Prop:=
 Rd H a (.lst xs)\/
  ∃(o:Obj) (its:Array Value) (n:Nat),K.lookup a=some o/\o.cls=.type "list"/\o.dict=none/\o.data=.seq its n/\its.size<=sizeLine/\Vals xs its.toList
def SqT(K:W7)(H:Hp)(a:Addr)(xs:AN):Prop:=
 Rd H a (.tup xs)\/
  ∃(o:Obj) (its:Array Value) (n:Nat),K.lookup a=some o/\o.cls=.type "tuple"/\o.data=.seq its n/\its.size<=sizeLine/\Vals xs its.toList
def uG:Value->Option V
 | .none=>some .non
 | .bool b=>some (.bl b)
 | .int i _=>some (.int i)
 | .str x _=>some (.str x)
 | .bytes b _=>some (.byt b)
 | .float b _=>some (.flt b)
 | .ref a=>some (.ref a)
 | .type n=>some (.ty n)
 | _=>none
def RelV.abs(r:RelV x u):uG u=some x:=by
 cases x with
 | non=>cases r;rfl
 | bl _=>cases r;rfl
 | int _=>obtain⟨t,rfl⟩:=r;rfl
 | str _=>obtain⟨t,rfl⟩:=r;rfl
 | byt _=>obtain⟨t,rfl⟩:=r;rfl
 | flt _=>obtain⟨t,rfl⟩:=r;rfl
 | ref _=>cases r;rfl
 | ty _=>cases r;rfl
def RelV.inj(r:RelV x u)(q:RelV y u):x=y:=wz (r.abs.symm.trans q.abs)
theorem Vals.inj:∀{xs ys:AN}{us:AD},Vals xs us->Vals ys us->xs=ys
 :=by
  intro xs ys us h
  induction h generalizing ys with
  | nil=>
    intro a;cases a;rfl
  | cons r t c=>
    intro a
    cases a with
    | cons b t'=>rw[r.inj b,c t']
section
variable {X:Cx}{pins:AC}{σ:St}{H:Hp}{s:Shared}{a:Addr}{xs ys:AN}
def SqL.of{K:W7}(h:H a=some (.lst xs)):SqL K H a xs:=.inl (.inl h)
def SqT.of{K:W7}(h:H a=some (.tup xs)):SqT K H a xs:=.inl (.inl h)
theorem Inv.list(I:Inv X pins σ H s)(h:SqL X.K H a xs):∃its:AD,Vals xs its/\PlainL s.heap a its.toArray/\xs.length<=sizeLine:=by
 rcases h with h|⟨o,its,n,c,d,b,hs,f,r⟩
 .obtain⟨z,its,n,r,e⟩:=h.ok I.hok
  exact⟨its,r,⟨_,n,e,rfl,rfl,rfl⟩,z⟩
 .refine⟨its.toList,r,⟨o,n,I.kIn a o c,d,b,by simpa using hs⟩,?_⟩
  have e:=r.length;grind
theorem Inv.tuple(I:Inv X pins σ H s)(h:SqT X.K H a xs):∃its:AD,Vals xs its/\IsTup s.heap a its.toArray/\xs.length<=sizeLine:=by
 rcases h with h|⟨o,its,n,c,b,hs,d,r⟩
 .obtain⟨z,its,r,p⟩:=h.ok I.hok
  grind
 .refine⟨its.toList,r,⟨o,I.kIn a o c,b,n,by simpa using hs⟩,?_⟩
  have e:=r.length;grind
theorem Inv.list_inj(I:Inv X pins σ H s)(h:SqL X.K H a xs)(h':SqL X.K H a ys):xs=ys:=by
 obtain⟨its,r,⟨o,n,e,_,_,d⟩,_⟩:=I.list h;obtain⟨its',b,⟨c,f,g,_,_,d'⟩,_⟩:=I.list h'
 have:its=its':=by grind
 subst this;exact r.inj b
theorem Inv.tuple_inj(I:Inv X pins σ H s)(h:SqT X.K H a xs)(h':SqT X.K H a ys):xs=ys:=by
 obtain⟨its,r,⟨o,e,_,n,d⟩,_⟩:=I.tuple h;obtain⟨its',b,⟨c,g,_,f,d'⟩,_⟩:=I.tuple h'
 have:its=its':=by grind
 subst this;exact r.inj b
end
abbrev Cx.wish(X:Cx)(E:AB):Cx:={ X with xe:=E }
abbrev Cx.nox(X:Cx):Cx:=X.wish λ_ _=>False
def Cx.Ok.wish{X:Cx}(a:X.Ok)(E:AB):(X.wish E).Ok:=
 ⟨a.mod,a.kind,a.glob,a.blt,a.above,a.inj,a.has,a.cab,a.hd,a.frames,a.stk,a.exf,a.bs,a.bsz,a.noex,a.exfs,a.funs,a.frf⟩
def Cx.Ok.unwish{X:Cx}(a:(X.wish E).Ok):X.Ok:=
 ⟨a.mod,a.kind,a.glob,a.blt,a.above,a.inj,a.has,a.cab,a.hd,a.frames,a.stk,a.exf,a.bs,a.bsz,a.noex,a.exfs,a.funs,a.frf⟩
section
variable {X:Cx}{pins:AC}{σ:St}{H:Hp}{s:Shared}{E:AB}{st:Stmt}{rest:List Stmt}{t u:TS}{e:Expr}{te:TE}{pos:Pos}
def Inv.wish(I:Inv X pins σ H s)(E:AB):Inv (X.wish E) pins σ H s:=⟨I.ok.wish E,I.os,I.bare,I.base,I.loc,I.cell,I.free,I.freeC,I.pin,I.hok,I.len⟩
def Inv.unwish(I:Inv (X.wish E) pins σ H s):Inv X pins σ H s:=⟨I.ok.unwish,I.os,I.bare,I.base,I.loc,I.cell,I.free,I.freeC,I.pin,I.hok,I.len⟩
def SP.unwish(h:SP (X.wish E) pins D f s'):SP X pins D f s':=by
 cases f with
 | next=>obtain⟨σ',H',I,q⟩:=h;exact⟨σ',H',I.unwish,q⟩
 | brk=>obtain⟨σ',H',I,q⟩:=h;exact⟨σ',H',I.unwish,q⟩
 | cont=>obtain⟨σ',H',I,q⟩:=h;exact⟨σ',H',I.unwish,q⟩
 | ret u=>obtain⟨v,σ',H',I,r,q⟩:=h;exact⟨v,σ',H',I.unwish,r,q⟩
def PSs.nox{st:List Stmt}(h:PSs X.nox st t):PSs X st t:=λpins s σ H D I a=>
 wy (h pins s σ H D (I.wish _) a) (λ_ _ q=>q.unwish) λ_ _ z=>False.elim z
def j9:TS:=λD σ H=>D.nx σ H
def uH(t u:TS):TS:=λD σ H=>t { D with nx:=u D } σ H
def FB:PSs X [] j9:=λ_ _ σ H _ I h=>wpAny_execs_nil ⟨σ,H,I,h⟩
def FC(a:PS X st t)(c:PSs X rest u):PSs X (st::rest) (uH t u):=by
 intro pins s σ H D I h;refine wpAny_execs_cons (aI (a pins s σ H { D with nx:=u D } I h) λf b q=>?_)
 cases f with
 | next=>
   obtain⟨σ',H',d,q⟩:=q;exact c pins b σ' H' D d q
 | ret v=>exact q
 | brk=>exact q
 | cont=>exact q
def FD(a:PS X st t):PSs X [st] t:=by
 intro pins s σ H D I h;refine wpAny_execs_cons (aI (a pins s σ H D I h) λf b q=>?_)
 cases f with
 | next=>exact wpAny_execs_nil q
 | ret v=>exact q
 | brk=>exact q
 | cont=>exact q
def uI:PS X (.Pass pos) j9:=λ_ _ σ H _ I h=>wpAny_Pass ⟨σ,H,I,h⟩
def Inv.quiet(I:Inv X pins σ H s):interactive X.env=false:=by simp[interactive,I.ok.kind]
def uJ(te:TE):TS:=λD σ H=>te σ H λ_ a=>D.nx σ a
theorem j_(f:PE X e te)(hs:swapsWith e none pos.line X.env=pure false:=by rfl):PS X (.Expr e pos) (uJ te):=by
 intro pins s σ H D I h;refine wpAny_Expr_any (aI (f pins s σ H _ I h) λv i a=>?_) I.quiet hs;obtain⟨x,d,c,g,b⟩:=a;exact⟨σ,d,c,b⟩
def uK(te:TE):TS:=λD σ H=>te σ H D.rt
def uL(d:PE X e te):PS X (.Return (some e) pos) (uK te):=by
 intro pins s σ H D I h;refine wpAny_Return_some (aI (d pins s σ H _ I h) λv i a=>?_);obtain⟨x,g,c,b,f⟩:=a;exact⟨x,σ,g,c,b,f⟩
def uM(c:TT)(t u:TS):TS:=λD σ H=>c σ H λb a=>if b=true then t D σ a else u D σ a
def gY(m:PT X c n)(l:PSs X a t)(hb:PSs X b u):PS X (.If c a b pos) (uM n t u):=by
 intro pins s σ H D I h;refine wpAny_If (aI (m pins s σ H _ I h) λd g f=>?_);obtain⟨k,i,j⟩:=f
 cases d with
 | true=>exact l pins g σ k D i j
 | false=>exact hb pins g σ k D i j
end
abbrev TG:=V->St->Hp->(St->Hp->Prop)->Prop
abbrev ka:=AN->St->Hp->(St->Hp->Prop)->Prop
def PG(X:Cx)(a:Expr)(t:TG):Prop:=
 ∀(pins:AC) (s:Shared) (σ:St) (H:Hp) (v:V) (u:Value) (Q:St->Hp->Prop),Inv X pins σ H s->RelV v u->t v σ H Q->
  wpAny (mZ X.prog X.w) X.A (assign a X.env u) (λ_ s'=>∃σ' H',Inv X pins σ' H' s'/\Q σ' H') X.xe s
def oH(X:Cx)(a:AL)(t:ka):Prop:=
 ∀(pins:AC) (s:Shared) (σ:St) (H:Hp) (vs:AN) (us:AD) (Q:St->Hp->Prop),Inv X pins σ H s->Vals vs us->t vs σ H Q->
  wpAny (mZ X.prog X.w) X.A (assignInOrder ((assignEach a X.env).map (·.2)) us) (λ_ s'=>∃σ' H',Inv X pins σ' H' s'/\Q σ' H') X.xe s
section
variable {X:Cx}{pos:Pos}
def ji(i:Nat):TG:=λv σ H Q=>Q (σ.set i (some v)) H
theorem jj(a:X.N.Nodup)(d:X.N[i]?=some x)(b:dJ X.env.scope x)(e:X.fn x=true\/X.env.scope.names.lookup x=some .local:=by trivial):PG X (.Name x pos) (ji i):=by
 intro pins s σ H v u Q I r h;exact wpAny_assign_Name (Fz I a d b r (λs' c=>⟨_,H,c,h⟩) e)
def uN:ka:=λvs σ H Q=>vs=[]/\Q σ H
def uO(t:TG)(u:ka):ka:=λvs σ H Q=>∃v r,vs=v::r/\t v σ H λσ' H'=>u r σ' H' Q
def FE:oH X [] uN:=by
 intro pins s σ H vs us Q I r h;obtain⟨e,h⟩:=h;exact assignInOrder_nil ⟨σ,H,I,h⟩
theorem kb(k:PG X e t)(i:oH X a u)(hs:(assignEach (e::a) X.env).map (·.2)=assign e X.env::(assignEach a X.env).map (·.2):=by rfl):oH X (e::a) (uO t u):=by
 intro pins s σ H vs us Q I r h;obtain⟨v,m,e1,h⟩:=h;subst e1
 cases r with
 | cons r f=>
   rw[hs];refine assignInOrder_cons (aI (k pins s σ H _ _ _ I r h) λ_ d b=>?_);obtain⟨c,j,g,l⟩:=b;exact i pins d c j _ _ Q g f l
def uP(K:W7)(n:Nat)(t:ka):TG:=λv σ H Q=>∃a xs,v=.ref a/\SqT K H a xs/\xs.length=n/\t xs σ H Q
theorem kd{k:Nat}(l:X.calm=true)(h:oH X f t)(m:(assignEach f X.env).length=n:=by rfl)(d:(assignEach f X.env).findIdx? (·.1)=none:=by rfl):PG X (.Tuple f k pos) (uP X.K n t):=by
 intro pins s σ H v u Q I r c;obtain⟨a,xs,e1,p,q,c⟩:=c;subst e1;cases r;obtain⟨its,i,j,w⟩:=I.tuple p
 exact assign_Tuple_tuple (I.ok.hd l) j (by simp[m,<-q,i.length]) d λh' g=>(h pins _ σ H xs _ Q (I.kept (t':=s.toks) λb o e=>g b o (qm (ql e)) e) (by grind) c)
def eH(a:TE)(g:TG):TS:=λD σ H=>a σ H λx b=>g x σ b D.nx
theorem uQ(i:PE X e m)(j:PG X a g)(hs:swapsWithSole [a] e pos.line X.env=pure false:=by rfl)(o:swappedStores [a] e X.env=pure none:=by rfl)(n:(assignEach [a] X.env).map (·.2)=[assign a X.env]:=by rfl):PS X (.Assign [a] e pos) (eH m g):=by
 intro pins s σ H D I h;refine wpAny_Assign_stores (aI (i pins s σ H _ I h) λv c b=>?_) hs o;obtain⟨x,d,l,k,f⟩:=b;rw[n];exact aI (j pins c σ d x v _ l k f) λ_ p q=>q
theorem uR(c:X.N.Nodup)(o:X.N[i]?=some x)(p:dJ X.env.scope x)(j:PE X e n)(hs:swapsWith e (some (.Name x a)) pos.line X.env=pure false:=by rfl)(g:X.fn x=true\/X.env.scope.names.lookup x=some .local:=by trivial):
 PS X (.Assign [.Name x a] e pos) (eH n (ji i)):=by
 intro pins s σ H D I h;refine wpAny_Assign_Name (aI (j pins s σ H _ I h) λv r b=>?_) hs;obtain⟨y,d,m,l,f⟩:=b;exact Fz m c o p l (λq k=>⟨_,d,k,f⟩) g
def uS(c:TT)(e:TS):TS:=λD σ H=>∃W:Nat->St->Hp->Prop,(∃m,W m σ H)/\∀m σ H,W m σ H->
 c σ H λb d=>if b=true then ∃N:St->Hp->Prop,(∀σ' H',N σ' H'->∃a,a<m/\W a σ' H')/\e { D with nx:=N,ct:=N,bk:=D.nx } σ d else D.nx σ d
theorem Lo(p:PassesOwn (mZ X.prog X.w) X.A X.env X.xe)(y:PT X c A)(hb:PSs X d r):PS X (.While c d [] pos) (uS A r):=by
 intro pins s σ H D I h;obtain⟨W,⟨q,B⟩,e⟩:=h;refine wpAny_While (codeAny_whileLoop (λn s'=>∃σ' H',Inv X pins σ' H' s'/\W n σ' H') ?_ q ⟨σ,H,I,B⟩);rintro n t ⟨a,l,x,E⟩;refine wpAny_passesOwn p (aI (y pins t a l _ x (e n a l E)) λb z j=>?_);obtain⟨m,o,i⟩:=j
 cases b with
 | true=>
   obtain⟨N,G,i⟩:=i;refine wpAny_passesOwn p (aI (hb pins z a m _ o i) λf F g=>?_)
   cases f with
   | next=>
     obtain⟨k,u,w,C⟩:=g;grind
   | cont=>
     obtain⟨k,u,w,C⟩:=g;grind
   | brk=>exact g
   | ret v=>exact g
 | false=>
   exact wpAny_execs_nil ⟨a,m,o,i⟩
end
structure It where
 go:Nat->Hp->Prop
 yld:Nat->Hp->V->Hp->Prop
 stop:Nat->Hp->Prop
def ck(X:Cx)(pins:AC)(H:Hp)(b:Addr):Prop:=
 H b=none/\b≠X.env.locals/\b∉X.fs/\(b∈X.ex\/X.s₀.heap.objs.size<=b)/\(∀x c,X.env.cells.lookup x=some c->c≠b)/\∀p∈X.pn++pins,p.1≠b
theorem Inv.fpOk{σ:St}{b:Addr}(I:Inv X pins σ H s)(hb:(~~~s)<=b)(a:H' b=none):ck X pins H' b:=by
 refine⟨a,Nat.ne_of_gt (Qi I.lt hb),I.nofs hb,.inr (Qg I.sz hb),λx c e z=>?_,λp d z=>?_⟩
 .obtain⟨v,q⟩:=I.cell x c e
  exact absurd (Qi q.lt (by grind)) (Nat.lt_irrefl _)
 .exact absurd (Qi (ql (I.pin p d).1) (by grind)) (Nat.lt_irrefl _)
structure dt(P:P7)(w:World)(K:W7)(tg:Expr)(J:It)(fp:List Addr)(it:Addr)(tn:Nat->Heap->Prop):Prop where
 mem:it∈fp
 obj:∀i h,tn i h->∀b∈fp,∃o,h.get? b=some o/\∀v,o.data≠.cell v
 keep:∀i h h',tn i h->(∀b∈fp,∀o,h.get? b=some o->h'.get? b=some o)->tn i h'
 item:∀(X:Cx),X.prog=P->X.w=w->X.K=K->X.calm=true->∀(i:Nat) (pins:AC) (s:Shared) (σ:St) (H:Hp) (E:AB),Inv X pins σ H s->(∀b∈fp,ck X pins H b)->tn i s.heap->J.go i H->
  wpAny (mZ P w) X.A (pyNext (.ref it)) (λr s1=>∃u,r=some u/\
   wpAny (mZ P w) X.A (letOwnedTupleGo tg (.ref it) u) (λ_ s2=>∃x H',Inv X pins σ H' s2/\RelV x u/\J.yld i H x H'/\tn (i+1) s2.heap/\∀b∈fp,H' b=none) E s1) E s
 done:∀(X:Cx),X.prog=P->X.w=w->X.K=K->X.calm=true->∀(i:Nat) (pins:AC) (s:Shared) (σ:St) (H:Hp) (E:AB),Inv X pins σ H s->(∀b∈fp,ck X pins H b)->tn i s.heap->J.stop i H->
  wpAny (mZ P w) X.A (pyNext (.ref it)) (λr s1=>r=none/\Inv X pins σ H s1) E s
 self:∀(A:Around) (i:Nat) (s:Shared) (Q:AB) (E:AB),tn i s.heap->Q (.ref it) s->wpAny (mZ P w) A (pyIter (.ref it)) Q E s
abbrev TI:=St->Hp->(It->Hp->Prop)->Prop
def FF(X:Cx)(pins:AC)(σ:St)(g:Expr)(R:It->Hp->Prop)(a:Value)(e:Shared):Prop:=
 ∃(f:Addr) (d:List Addr) (c:Nat->Heap->Prop) (J:It) (H':Hp),a=.ref f/\Inv X pins σ H' e/\dt X.prog X.w X.K g J d f c/\c 0 e.heap/\(∀b∈d,ck X pins H' b)/\R J H'
def PI(X:Cx)(d a:Expr)(b:TI):Prop:=
 ∀(pins:AC) (s:Shared) (σ:St) (H:Hp) (R:It->Hp->Prop),Inv X pins σ H s->b σ H R->
  wpAny (mZ X.prog X.w) X.A (eval a X.env) (λv c=>wpAny (mZ X.prog X.w) X.A (pyIter v) (FF X pins σ d R) X.xe c) X.xe s
theorem oI(f:s.heap.get? c=some o)(b:o.cls=.type n)(e:o.data=.fields vs)(g:["enumerate","zip","dict_itemiterator","dict_reverseitemiterator","odict_iterator","itertools.zip_longest","itertools.pairwise"].contains n=false)(a:Q () s):wpAny M A (letOwnedTupleGo d (.ref c) u) Q E s:=by
 cases d<;>first
  | exact wc a
  | (cases u<;>first
   | exact wc a
   | (refine wa (wpAny_load f ?_)
      rw[b,e];show wpAny M A (if (["enumerate","zip","dict_itemiterator","dict_reverseitemiterator","odict_iterator","itertools.zip_longest","itertools.pairwise"].contains n&&vs[0]?==some (rawInt _))=true then _ else _) Q E s;rw[if_neg (by grind)]
      exact wc a))
def FG(K:W7)(a:Addr):It:=
 ⟨λi H=>∃xs x,SqL K H a xs/\xs[i]?=some x,λi H x H'=>H'=H/\∀xs,SqL K H a xs->xs[i]?=some x,λi H=>∃xs,SqL K H a xs/\xs.length<=i⟩
def FH(K:W7)(a:Addr):It:=
 ⟨λi H=>∃xs x,SqT K H a xs/\xs[i]?=some x,λi H x H'=>H'=H/\∀xs,SqT K H a xs->xs[i]?=some x,λi H=>∃xs,SqT K H a xs/\xs.length<=i⟩
def jk(lo:Int)(n:Nat):It:=⟨λi _=>i<n,λi H x H'=>H'=H/\x=.int (lo+i),λi _=>n<=i⟩
theorem Lp{K:W7}(a f:Addr):dt P w K S (FG K a) [f] f (λi h=>h.IsListIter f a i) where
 mem:=by simp
 obj:=λi h st b hb=>by
  obtain⟨o,e,c,d⟩:=st;grind
 keep:=λi h h' st k=>st.at λo e=>k f (by simp) o e
 item:=by
  intro X r n C F i pins s σ H E I l st t;subst r n C;obtain⟨xs,x,j,z⟩:=t;obtain⟨its,A,p,J⟩:=I.list j;obtain⟨u,R,G⟩:=A.get z;obtain⟨q,y,N,v,B,D⟩:=l f (by simp);refine wpAny_pyNext_list_item st p.isList (x:=u) (by grind) λh' g M=>?_;obtain⟨o,e,c,d⟩:=id g;exact⟨u,rfl,oI  e c d (by decide) ⟨x,H,(I.turned (t':=s.toks) (λb o hb e=>(M.2 b hb).trans e) q y v B D),G,⟨rfl,λys L=>by rw[I.list_inj L j];exact z⟩,g,λb hb=>(l b hb).1⟩⟩
 done:=by
  intro X r n C F i pins s σ H E I l st t;subst r n C;obtain⟨xs,j,z⟩:=t;obtain⟨its,A,p,J⟩:=I.list j;obtain⟨q,y,N,v,B,D⟩:=l f (by simp);have Q:=A.length
  exact wpAny_pyNext_list_end (I.ok.hd F) st p.isList (by simp;lia) λh' O=>⟨rfl,I.turned  (λb o hb e=>O b o hb e) q y v B D⟩
 self:=λ_ _ _ _ _ st h=>wpAny_pyIter_listiter st h
theorem Lq{K:W7}(a f:Addr):dt P w K S (FH K a) [f] f (λi h=>h.IsTupleIter f a i) where
 mem:=by simp
 obj:=λi h st b hb=>by
  obtain⟨o,e,c,d⟩:=st;grind
 keep:=λi h h' st k=>st.at λo e=>k f (by simp) o e
 item:=by
  intro X r n C F i pins s σ H E I l st t;subst r n C;obtain⟨xs,x,j,z⟩:=t;obtain⟨its,A,p,J⟩:=I.tuple j;obtain⟨u,R,G⟩:=A.get z;obtain⟨q,y,N,v,B,D⟩:=l f (by simp);refine wpAny_pyNext_tuple_item st ( p) (x:=u) (by grind) λh' g M=>?_;obtain⟨o,e,c,d⟩:=id g;exact⟨u,rfl,oI  e c d (by decide) ⟨x,H,(I.turned (t':=s.toks) (λb o hb e=>(M.2 b hb).trans e) q y v B D),G,⟨rfl,λys L=>by rw[I.tuple_inj L j];exact z⟩,g,λb hb=>(l b hb).1⟩⟩
 done:=by
  intro X r n C F i pins s σ H E I l st t;subst r n C;obtain⟨xs,j,z⟩:=t;obtain⟨its,A,p,J⟩:=I.tuple j;obtain⟨q,y,N,v,B,D⟩:=l f (by simp);have Q:=A.length
  exact wpAny_pyNext_tuple_end (I.ok.hd F) st ( p) (by simp;lia) λh' O=>⟨rfl,I.turned  (λb o hb e=>O b o hb e) q y v B D⟩
 self:=λ_ _ _ _ _ st h=>wpAny_pyIter_tupleiter st h
theorem Lr{K:W7}(a:Addr)(lo:Int)(n:Nat):dt P w K F (jk lo n) [a] a (λi h=>IsRangeIter h a (lo+(i:Nat)*1) ((n:Int)-(i:Nat)) 1) where
 mem:=by simp
 obj:=λi h st b hb=>by
  grind
 keep:=λi h h' st k=>k a (by simp) _ st
 item:=by
  intro X y u x m i pins s σ H E I d st f;subst y u x;obtain⟨l,r,C,g,p,j⟩:=d a (by simp);refine(Walks.range (prog:=X.prog) (w:=X.w) (I.ok.hd m) a lo 1 n).item i s _ _ f st λv h' tk A c z=>?_;obtain⟨t,rfl⟩:=A;have D:Inv X pins σ H { s with heap:=h',toks:=tk }:=I.turned (λb o hb e=>z b o (by grind) e) l r g p j;refine⟨_,rfl,oI   c rfl rfl (by decide) ⟨.int (lo+i),H,D,⟨t,?_⟩,⟨rfl,rfl⟩,c,λb hb=>(d b hb).1⟩⟩;grind
 done:=by
  intro X y u x m i pins s σ H E I d st f;obtain⟨l,r,C,g,p,j⟩:=d a (by simp)
  exact wpAny_pyNext_range_end (I.ok.hd m) st (by have:n<=i:=f;lia) λh' B=>⟨rfl,I.turned  (λb o hb e=>B b o hb e) l r g p j⟩
 self:=λ_ _ _ _ _ st h=>wpAny_pyIter_rangeiter st h
section
variable {X:Cx}{tg:Expr}
theorem FI{σ:St}{lo a:Int}(I:Inv X pins σ H s)(d:-(2^62)<=lo)(g:lo<2^62)(f:-(2^62)<=a)(h:a<2^62)(q:R (jk lo (a-lo).toNat) H):wpAny (mZ X.prog X.w) X.A (pyIter (.ref (~~~s))) (FF X pins σ tg R) E { s with heap:=s.heap.push { cls:=.type "range",data:=.fields #[.int lo t,.int a u,.int 1 v] },toks:=tk }:=by
 refine wpAny_pyIter_range (IsRange.new ..) (small_one d g f h) ?_;have c:Inv X pins σ H { s with heap:=s.heap.push { cls:=.type "range",data:=.fields #[.int lo t,.int a u,.int 1 v] },toks:=tk }:=I.kept λb o e=>qe _ e
 refine⟨(s.heap.push { cls:=.type "range",data:=.fields #[.int lo t,.int a u,.int 1 v] }).objs.size,[(s.heap.push { cls:=.type "range",data:=.fields #[.int lo t,.int a u,.int 1 v] }).objs.size],_,_,H,rfl,
  c.kept  λb o e=>qe _ e,Lr _ lo (a-lo).toNat,?_,λb hb=>?_,q⟩
 .have e1:lo+((0:Nat))*1=lo:=by simp
  have e2:(((a-lo).toNat))-((0:Nat))=Builtin.Range.rangeSize lo a 1:=by rw[rangeSize_one];split<;>lia
  rw[e1,e2];exact qp _ rfl
 .have e:b=(s.heap.push { cls:=.type "range",data:=.fields #[.int lo t,.int a u,.int 1 v] }).objs.size:=by grind
  subst e;exact c.fpOk (qv _) (c.hok.fresh (qv _))
def uT(a:TA):TI:=λσ H R=>a σ H λvs b=>∃j:Int,vs=[.int j]/\-(2^62)<=j/\j<2^62/\R (jk 0 j.toNat) b
def uU(a:TA):TI:=λσ H R=>a σ H λvs b=>∃i j:Int,vs=[.int i,.int j]/\(-(2^62)<=i/\i<2^62/\-(2^62)<=j/\j<2^62)/\R (jk i (j-i).toNat) b
theorem Ls(k:Gl X "range")(g:X.mg "range"=none)(m:PA X [a] u)(hs:starEach [a] X.env=[(false,eval a X.env)]:=by rfl):PI X tg (.Call (.Name "range" p) [a] [] c) (uT u):=by
 intro pins s σ H R I h;refine Call_ (gX I k g boot_range (PyProof.Rows.callWith_type1 (aI (m c pins s σ H _ I h) λus v f=>?_) hs rfl));obtain⟨vs,w,l,o,d⟩:=f;obtain⟨j,e,d,n,q⟩:=d;subst e
 cases o with
 | cons r i=>
   cases i;obtain⟨t,rfl⟩:=r;exact call_range_1 (FI l (by lia) (by lia) d n (by simpa using q))
theorem Lu{p c:Pos}(o:Gl X "range")(l:X.mg "range"=none)(w:PA X [a,b] m)(hs:starEach [a,b] X.env=[(false,eval a X.env),(false,eval b X.env)]:=by rfl)(f:starEach [b] X.env=[(false,eval b X.env)]:=by rfl):
 PI X tg (.Call (.Name "range" p) [a,b] [] c) (uU m):=by
 intro pins s σ H R I h;refine Call_ (gX I o l boot_range (PyProof.Rows.callWith_type1 (aI (w c pins s σ H _ I h) λus B ⟨vs,A,u,n,k⟩=>?_) (by rw[hs,f]) (by rw[f];rfl)));obtain⟨i,j,e,⟨k,x,y,v⟩,q⟩:=k;subst e
 cases n with
 | cons r g=>
   cases g with
   | cons z g=>
     cases g;obtain⟨t,rfl⟩:=r;obtain⟨t',rfl⟩:=z;exact call_range_2 (FI u k x y v q)
def uV(f:TI)(g:TG)(e:TS):TS:=λD σ H=>f σ H λJ c=>∃W:Nat->Nat->St->Hp->Prop,(∃m,W 0 m σ c)/\∀i m σ H,W i m σ H->
 (J.stop i H/\D.nx σ H)\/(J.go i H/\∃N:St->Hp->Prop,(∀σ' H',N σ' H'->∃b,b<m/\W (i+1) b σ' H')/\∀x H',J.yld i H x H'->g x σ H' λa d=>e { D with nx:=N,ct:=N,bk:=D.nx } a d)
def kf(a:List Addr)(h:Heap):AC:=a.filterMap λb=>(h.get? b).map λo=>(b,o)
def oJ(hb:b∈a)(e:h.get? b=some o):(b,o)∈kf a h:=List.mem_filterMap.mpr ⟨b,hb,by rw[e];rfl⟩
theorem Lv(a:p∈kf c h):p.1∈c/\h.get? p.1=some p.2:=by
 obtain⟨b,hb,e⟩:=List.mem_filterMap.mp a
 cases q:h.get? b with
 | none=>grind
 | some o=>
   grind
theorem Inv.pinned{σ:St}(I:Inv X pins σ H s)(c:∀b∈a,ck X pins H b)(i:∀b∈a,∃o,s.heap.get? b=some o/\∀v,o.data≠.cell v):Inv X (pins++kf a s.heap) σ H s:=
 I.pins_of λp d=>(qw d).elim (λz=>I.pin p (Qr _ z)) λz=>by
  obtain⟨hb,e⟩:=Lv z;obtain⟨f,g,h,_⟩:=c p.1 hb;grind
def Inv.unpinned{σ:St}(I:Inv X (pins++pl) σ H s):Inv X pins σ H s:=I.pins_of λp a=>I.pin p (Qr _ (List.mem_append_left _ a))
theorem kg(E:PassesOwn (mZ X.prog X.w) X.A X.env X.xe)(Y:X.calm=true)(hi:PI X tg q wi)(hg:PG X tg g)(hb:PSs X B tb)(hs:∀x,foldedSetIterable q X.env x=pure x:=by intro _;rfl):PS X (.For tg q B [] pos) (uV wi g tb):=by
 intro pins s σ H D I h;refine wpAny_For (aI (hi pins s σ H _ I h) λv s1 h1=>aI h1 λitv s2 h2=>?_) hs;obtain⟨it,A,Z,J,H2,e,I2,T,P,S,W,⟨m0,w0⟩,C⟩:=h2;subst e
 have k:∀{H':Hp},(∀b∈A,H' b=none)->∀b∈A,ck X pins H' b:=λhn b hb=>⟨hn b hb,(S b hb).2⟩
 refine codeAny_forLoop_any (λn s'=>∃i σ' H',Inv X pins σ' H' s'/\Z i s'.heap/\(∀b∈A,H' b=none)/\W i n σ' H') ?_ m0 ⟨0,σ,H2,I2,P,λb hb=>(S b hb).1,w0⟩;rintro n s3 ⟨i,l,G,V,F,z,w3⟩;rcases C i n l G w3 with⟨y,qn⟩|⟨go,N,hN,step⟩
 .refine wpAny_passesOwn E (aI (T.done X rfl rfl rfl Y i pins s3 l G X.xe V (k z) F y) λr s4 c=>?_)
  obtain⟨M,I4⟩:=c;subst M;exact wpAny_execs_nil ⟨l,G,I4,qn⟩
 .refine wpAny_passesOwn E (aI (T.item X rfl rfl rfl Y i pins s3 l G X.xe V (k z) F go) λr s4 c=>?_)
  obtain⟨u,M,h4⟩:=c;subst M;refine wpAny_passesOwn E (aI h4 λ_ R c=>?_);obtain⟨x,U,I5,r5,y5,w,K⟩:=c;refine wpAny_passesOwn E (aI (hg _ R l U x u _ (I5.pinned (k K) (T.obj _ _ w)) r5 (step x U y5)) λ_ s6 c=>?_);obtain⟨O,H6,I6,q6⟩:=c;refine wpAny_passesOwn E (aI (hb _ s6 O H6 _ I6 q6) λf L t=>?_)
  have again:∀{a:St}{j:Hp},Inv X (pins++kf A R.heap) a j L->N a j->∃m,m<n/\∃i σ' H',Inv X pins σ' H' L/\Z i L.heap/\(∀b∈A,H' b=none)/\W i m σ' H':=λ{a j} p Q=>by
   obtain⟨m',hm,w7⟩:=hN a j Q;refine⟨m',hm,i+1,a,j,p.unpinned,T.keep _ _ _ w λb hb o e=>(p.pin (b,o) (Qr _ (Qr _ (oJ hb e)))).1,λb hb=>?_,w7⟩;obtain⟨o,e,d⟩:=T.obj _ _ w b hb;exact(p.pin (b,o) (Qr _ (Qr _ (oJ hb e)))).2.1
  cases f with
  | next=>obtain⟨a,j,p,Q⟩:=t;grind
  | cont=>obtain⟨a,j,p,Q⟩:=t;grind
  | brk=>obtain⟨a,j,p,t⟩:=t;exact⟨a,j,p.unpinned,t⟩
  | ret v=>obtain⟨x7,a,j,p,r7,t⟩:=t;exact⟨x7,a,j,p.unpinned,r7,t⟩
end
abbrev R2:=V->V->Hp->VK->Prop
def bU(X:Cx)(f:Value->Value->Sem Value)(r:R2):Prop:=
 ∀(pins:AC) (s:Shared) (σ:St) (H:Hp) (x y:V) (v u:Value) (Q:VK),Inv X pins σ H s->RelV x v->RelV y u->r x y H Q->
  wpAny (mZ X.prog X.w) X.A (f v u) (EP X pins σ Q) X.xe s
def uW(X:Cx)(f:Value->Sem Value)(r:V->Hp->VK->Prop):Prop:=
 ∀(pins:AC) (s:Shared) (σ:St) (H:Hp) (x:V) (v:Value) (Q:VK),Inv X pins σ H s->RelV x v->r x H Q->
  wpAny (mZ X.prog X.w) X.A (f v) (EP X pins σ Q) X.xe s
def c6(X:Cx)(f:Value)(r:AN->Hp->VK->Prop):Prop:=
 ∀(pins:AC) (s:Shared) (σ:St) (H:Hp) (xs:AN) (us:AD) (Q:VK),Inv X pins σ H s->Vals xs us->r xs H Q->
  wpAny (mZ X.prog X.w) X.A (call f us) (EP X pins σ Q) X.xe s
def uX(X:Cx)(r:V->Hp->(Bool->Hp->Prop)->Prop):Prop:=
 ∀(pins:AC) (s:Shared) (σ:St) (H:Hp) (x:V) (v:Value) (Q:Bool->Hp->Prop),Inv X pins σ H s->RelV x v->r x H Q->
  wpAny (mZ X.prog X.w) X.A (truthy v) (TP X pins σ Q) X.xe s
def gZ(r:R2)(d a:TE):TE:=λσ H Q=>d σ H λx b=>a σ b λy c=>r x y c Q
def Lx(r:V->Hp->VK->Prop)(a:TE):TE:=λσ H Q=>a σ H λx b=>r x b Q
def rI(C:Int->Int->Prop)(g:Int->Int->V):R2:=λx y H Q=>∃i j,x=.int i/\y=.int j/\C i j/\Q (g i j) H
def e_(g:Int->Int->V):R2:=λx y H Q=>∃i j,x=.int i/\y=.int j/\Q (g i j) H
def rU(g:Int->V):V->Hp->VK->Prop:=λx H Q=>∃i,x=.int i/\Q (g i) H
section
variable {X:Cx}{a b c:Expr}{ta tb tc:TE}{pos:Pos}
theorem g6(m:PE X a ta)(hb:PE X b tb){σ:St}{R:V->V->Hp->Prop}(I:Inv X pins σ H s)(h:ta σ H λx j=>tb σ j λy e=>R x y e){f:Value->Value->Sem Value}(w:∀v u k x y e,Inv X pins σ e k->RelV x v->RelV y u->R x y e->wpAny (mZ X.prog X.w) X.A (f v u) Q X.xe k):
 wpAny (mZ X.prog X.w) X.A (eval a X.env) (λv i=>wpAny (mZ X.prog X.w) X.A (eval b X.env) (λu g=>wpAny (mZ X.prog X.w) X.A (f v u) Q X.xe g) X.xe i) X.xe s:=by
 refine aI (m pins s σ H _ I h) λv l d=>?_;obtain⟨x,j,n,q,o⟩:=d;refine aI (hb pins l σ j _ n o) λu k d=>?_;obtain⟨y,e,p,t,r⟩:=d;grind
def g7(j:bU X (binaryOp op) r)(d:PE X a ta)(hb:PE X b tb):PE X (.BinOp a op b pos) (gZ r ta tb):=by
 intro pins s σ H Q I h;exact wpAny_BinOp (g6 d hb I h λv u g x y f i e k q=>j pins g σ f x y v u Q i e k q)
def uY(k:uW X (unaryOp op) r)(l:PE X a ta):PE X (.UnaryOp op a pos) (Lx r ta):=by
 intro pins s σ H Q I h;refine UnaryOp_ (aI (l pins s σ H _ I h) λv g d=>?_);obtain⟨x,j,f,e,i⟩:=d;exact k pins g σ j x v Q f e i
def oK{g:Int->Int->Int}(rule:∀(i j:Int) (t u:Tok) (s:Shared) (Q:AB) (E:AB),C i j->Q (.int (g i j) s.toks) { s with toks:=s.toks+1 }->wpAny (mZ X.prog X.w) X.A (f (.int i t) (.int j u)) Q E s):
 bU X f (rI C λi j=>.int (g i j)):=by
 intro pins s σ H x y v u Q I e d h;obtain⟨i,j,rfl,rfl,k,q⟩:=h;obtain⟨t,rfl⟩:=e;obtain⟨t',rfl⟩:=d;exact rule i j t t' s _ _ k ⟨.int (g i j),H,I.tok _,⟨_,rfl⟩,q⟩
def g8{g:Int->Int->Int}(rule:∀(i j:Int) (t u:Tok) (s:Shared) (Q:AB) (E:AB),Q (.int (g i j) s.toks) { s with toks:=s.toks+1 }->wpAny (mZ X.prog X.w) X.A (f (.int i t) (.int j u)) Q E s):
 bU X f (e_ λi j=>.int (g i j)):=by
 intro pins s σ H x y v u Q I e d h;obtain⟨i,j,rfl,rfl,q⟩:=h;obtain⟨t,rfl⟩:=e;obtain⟨t',rfl⟩:=d;exact rule i j t t' s _ _ ⟨.int (g i j),H,I.tok _,⟨_,rfl⟩,q⟩
def g9{g:Int->Int->Bool}(rule:∀(i j:Int) (t u:Tok) (s:Shared) (Q:AB) (E:AB),Q (.bool (g i j)) s->wpAny (mZ X.prog X.w) X.A (f (.int i t) (.int j u)) Q E s):
 bU X f (e_ λi j=>.bl (g i j)):=by
 intro pins s σ H x y v u Q I e d h;obtain⟨i,j,rfl,rfl,q⟩:=h;obtain⟨t,rfl⟩:=e;obtain⟨t',rfl⟩:=d;exact rule i j t t' s _ _ ⟨.bl (g i j),H,I,rfl,q⟩
def uZ(i j:Int):Prop:=0<j/\j<1073741824
def u4(i j:Int):Prop:=0<=j/\j<=1000000/\i.natAbs<2^64
def CMul(i j:Int):Prop:=(-(2^64)<i/\i<2^64)\/(-(2^64)<j/\j<2^64)
def CMul.ok(h:CMul i j):IntMulOk i j:=by
 rcases h with⟨d,e⟩|⟨d,e⟩
 .exact .of_left (intBits_le_64 d e)
 .exact .of_right (intBits_le_64 d e)
def u5:bU X (binaryOp .Add) (e_ λi j=>.int (i+j)):=g8 λ_ _ _ _ _ _ _ q=>add_int q
def u6:bU X (binaryOp .Sub) (e_ λi j=>.int (i-j)):=g8 λ_ _ _ _ _ _ _ q=>sub_int q
def u7:bU X (binaryOp .Mult) (rI CMul λi j=>.int (i*j)):=oK λ_ _ _ _ _ _ _ d q=>mul_int q d.ok
theorem u9:bU X (binaryOp .FloorDiv) (rI uZ λi j=>.int (i/j)):=oK λi j _ _ _ _ _ e q=>by
 have g:=e.1;have f:=e.2;exact floordiv_int (by lia) (by grind) (.inl (PyProof.noPylong_small (by lia)))
theorem u_:bU X (binaryOp .Mod) (rI (λ_ j=>0<j) λi j=>.int (i%j)):=oK λi j _ _ _ _ _ d q=>mod_int' (by lia) (by grind)
def va:bU X (binaryOp .Pow) (rI u4 λi j=>.int (i^j.toNat)):=oK λ_ _ _ _ _ _ _ d q=>pow_int_small d.1 d.2.1 d.2.2 q
def op_xor:bU X (binaryOp .BitXor) (e_ λi j=>.int (Builtin.bitXor i j)):=g8 λ_ _ _ _ _ _ _ q=>xor_int q
def Ly{g:Int->Int}(rule:∀(i:Int) (t:Tok) (s:Shared) (Q:AB) (E:AB),Q (.int (g i) s.toks) { s with toks:=s.toks+1 }->wpAny (mZ X.prog X.w) X.A (f (.int i t)) Q E s):
 uW X f (rU λi=>.int (g i)):=by
 intro pins s σ H x v Q I d h;obtain⟨i,rfl,q⟩:=h;obtain⟨t,rfl⟩:=d;exact rule i t s _ _ ⟨.int (g i),H,I.tok _,⟨_,rfl⟩,q⟩
def vb:uW X (unaryOp .USub) (rU λi=>.int (-i)):=Ly λ_ _ _ _ _ q=>neg_int q
end
def scal:V->V->Bool
 | .non,.non=>true|.non,.int _=>true|.int _,.non=>true|.non,.bl _=>true|.bl _,.non=>true|.non,.str _=>true|.str _,.non=>true
 | .int _,.int _=>true|.bl _,.bl _=>true|.str _,.str _=>true|.byt _,.byt _=>true
 | .int _,.str _=>true|.str _,.int _=>true|.bl _,.str _=>true|.str _,.bl _=>true
 | _,_=>false
section
variable {X:Cx}{a b c:Expr}{ta tb tc:TE}{pos:Pos}
def kh{σ:St}(I:Inv X pins σ H s)(q:Q (.bl k) H)(e:k=d):EP X pins σ Q (.bool d) s:=by
 subst e;exact⟨.bl k,H,I,rfl,q⟩
def ki:bU X (compareOp .Lt) (e_ λi j=>.bl (decide (i<j))):=g9 λ_ _ _ _ _ _ _ q=>lt_int q
def vc:bU X (compareOp .Gt) (e_ λi j=>.bl (decide (j<i))):=g9 λ_ _ _ _ _ _ _ q=>gt_int q
def vd:bU X (compareOp .GtE) (e_ λi j=>.bl (decide (j<=i))):=g9 λ_ _ _ _ _ _ _ q=>ge_int q
def kj:bU X (compareOp .Is) (λx y H Q=>y=.non/\Q (.bl (decide (x=.non))) H):=by
 intro pins s σ H x y v u Q I e d h;obtain⟨rfl,q⟩:=h;cases d;refine is_none_gen (kh I q ?_)
 cases x<;>first
  | (rfl)
  | (obtain⟨t,rfl⟩:=e;rfl)
def FJ:bU X (compareOp .IsNot) (λx y H Q=>y=.non/\Q (.bl (!decide (x=.non))) H):=by
 intro pins s σ H x y v u Q I e d h;obtain⟨rfl,q⟩:=h;cases d;refine isnot_none_gen (kh I q ?_)
 cases x<;>first
  | (rfl)
  | (obtain⟨t,rfl⟩:=e;rfl)
theorem d5(b:Expr)(h:op≠.In:=by decide)(e:op≠.NotIn:=by decide):behindInMarks op b=false:=by
 cases b with
 | Set d k p=>
   show((k==0)&&((op==CmpOp.In)||(op==CmpOp.NotIn))&&_)=false;grind
 | _=>rfl
def FK(k:bU X (compareOp op) r)(d:PE X a ta)(hb:PE X b tb)(j:behindInMarks op b=false):PE X (.Compare a [op] [b] pos) (gZ r ta tb):=by
 intro pins s σ H Q I h;exact wpAny_Compare1 (g6 d hb I h λv u g x y f i e l q=>k pins g σ f x y v u Q i e l q) j
def kl(t:TE):TT:=λσ H Q=>t σ H λx H'=>∃k,x=.bl k/\Q k H'
def ve(E:bU X (compareOp op) r)(p:PE X a ta)(hb:PE X b tb)(f:behindInMarks op b=false):PT X (.Compare a [op] [b] pos) (kl (gZ r ta tb)):=by
 intro pins s σ H Q I h;refine wpAny_isTrue_Compare1 (aI (p pins s σ H _ I h) λv C d=>?_) f;obtain⟨x,g,w,o,i⟩:=d;refine aI (hb pins C σ g _ w i) λu D d=>?_;obtain⟨y,t,n,m,B⟩:=d;refine aI (E pins D σ t x y v u _ n o m B) λc F d=>?_;obtain⟨z,j,q,A,k,e,l⟩:=d;subst e;cases A;exact wpAny_truthy_bool ⟨j,q,l⟩
def g_(K:W7)(x:V)(H:Hp)(k:Bool):Prop:=
 match x with
 | .non=>k=false
 | .bl b=>k=b
 | .int i=>k=(i != 0)
 | .str y=>y.length<=sizeLine/\k=((y.length:Int)!=0)
 | .byt y=>y.size<=sizeLine/\k=((y.size:Int)!=0)
 | .ref p=>(∃xs,SqL K H p xs/\k=!xs.isEmpty)\/(∃xs,SqT K H p xs/\k=!xs.isEmpty)\/∃d,H p=some (.dK d)/\k=!d.isEmpty
 | _=>False
def Lz{vs:List (κ×Value)}(r:KV d vs):(!vs.isEmpty)=!d.isEmpty:=by
 cases r<;>rfl
def FL(r:Vals xs its):(!its.toArray.isEmpty)=!xs.isEmpty:=by
 cases r<;>simp
def km:(sizeLine:Nat)<2^63:=by decide
theorem vf:uX X (λx H Q=>∃k,g_ X.K x H k/\Q k H):=by
 intro pins s σ H x v Q I j h;obtain⟨k,e,q⟩:=h;have z:=km;have hs:sizeLine=16777216:=jf
 cases x with
 | non=>
   cases j;have d:k=false:=e;subst d;exact truthy_none ⟨H,I,q⟩
 | bl b=>
   cases j;have d:k=b:=e;subst d;exact wpAny_truthy_bool ⟨H,I,q⟩
 | int i=>
   obtain⟨t,rfl⟩:=j;have d:k=(i != 0):=e;subst d;exact PySem.P.truthy_int ⟨H,I,q⟩
 | str y=>
   obtain⟨t,rfl⟩:=j;obtain⟨w,d⟩:y.length<=sizeLine/\k=((y.length:Int)!=0):=e;subst d;exact PySem.P.truthy_str (by lia) ⟨H,I.tok _,q⟩
 | byt y=>
   obtain⟨t,rfl⟩:=j;obtain⟨w,d⟩:y.size<=sizeLine/\k=((y.size:Int)!=0):=e;subst d;exact W.truthy_bytes (by lia) ⟨H,I.tok _,q⟩
 | ref p=>
   cases j;have d:=e;rcases d with⟨xs,l,d⟩|⟨xs,l,d⟩|⟨n,l,d⟩
   .subst d
    obtain⟨its,r,pl,o⟩:=I.list l;have g:=r.length;exact wpAny_truthy_list pl.isList (by grind) ⟨H,I.tok _,by rw[FL r];exact q⟩
   .subst d
    obtain⟨its,r,pl,o⟩:=I.tuple l;have g:=r.length;exact truthy_tuple pl (by grind) ⟨H,I.tok _,by rw[FL r];exact q⟩
   .subst d
    obtain⟨o,u,vs,r,m⟩:=I.hok p _ l;have g:n.length=vs.length:=Paired.length r;exact wpAny_truthy_dict u m (by lia) ⟨H,I.tok _,by rw[Lz r];exact q⟩
 | _=>exact(show False from e).elim
def LA(n:PE X a ta)(l:∀d,isTrue a X.env d=(do let v <-d;standAt a.pos;holding [v] (truthy v))):
 PT X a (λσ H Q=>ta σ H λx H'=>∃k,g_ X.K x H' k/\Q k H'):=by
 intro pins s σ H Q I h;refine isTrue_plain (aI (n pins s σ H _ I h) λv i e=>?_) (l _);obtain⟨x,m,g,f,j⟩:=e;exact vf pins i σ m x v Q g f j
theorem dM(r:Vals [x] us):∃u,us=[u]/\RelV x u:=by
 cases r with
 | cons e d=>cases d;grind
theorem oN(r:Vals [x,y] us):∃u d,us=[u,d]/\RelV x u/\RelV y d:=by
 cases r with
 | cons h f=>
   cases f with
   | cons g e=>cases e;grind
def LB:c6 X (.type "int") (λxs H Q=>(∃i,xs=[.int i]/\Q (.int i) H)\/∃k,xs=[.bl k]/\Q (.int (if k then 1 else 0)) H):=by
 intro pins s σ H xs us Q I r h;rcases h with⟨i,rfl,q⟩|⟨k,rfl,q⟩
 .obtain⟨u,rfl,t,rfl⟩:=dM r
  exact call_int_int ⟨.int i,H,I,⟨_,rfl⟩,q⟩
 .obtain⟨u,rfl,d⟩:=dM r
  cases d;exact call_int_bool ⟨.int (if k then 1 else 0),H,I.tok _,⟨_,rfl⟩,q⟩
end
structure ObjM(h:Heap)(x dx C:Addr)(mA:AE):Prop where
 obj:h.get? x=some (W.instObj C dx)
 ns:h.Ns1 dx mA
 ne:dx≠x
theorem LC{h:Heap}(n:h.Ns1 m l):∃d,h.get? m=some d/\∀name,W.lookIn name d=some (l name):=by
 obtain⟨o,j,q,f,i,g,_,p⟩:=n;refine⟨o,f,λname=>?_⟩;have e:=p name;unfold nsFind findBy at e;unfold W.lookIn;rw[i];dsimp only
 split
 .grind
 .have a:j.toList.any (·.refKey)=false:=by
   rw[List.any_eq_false];intro y k;obtain⟨z,t,c⟩:=g y (Array.mem_toList_iff.mp k);simp[DictEntry.refKey,c]
  grind
def ObjM.look(I:ObjM h x d C e):∃b,W.InstAt h x (W.instObj C d) C (some b)/\∀name,W.lookIn name b=some (e name):=
 let ⟨b,c,f⟩:=LC I.ns
 ⟨b,⟨I.obj,rfl,rfl,c⟩,f⟩
section
variable {prog:P7}{w:World}{A:Around}{E:AB}{s:Shared}{K:W7}{x dx C f:Addr}{mA:AE}{name:Str}{v:Value}
theorem vg{a:Bool}{Q:AB}(X:K.In s.heap)(I:ObjM s.heap x dx C mA)(d:W.plainGet K C name=true)(e:W.hasDictIn K C=true)(i:W.findIn K (.ref C) name=some none)(c:mA name=some v)(b:W.handedIn v=true)(h:Q v { s with toks:=s.toks+1 }):
 wpAny (mZ prog w) A (getAttr (.ref x) name a) Q E s:=by
 obtain⟨j,J,g⟩:=I.look;exact W.get_value X J (W.plainGet_of d).1 (W.findObj_own e i rfl (by rw[g,c])) b h
theorem LD{pl:Sem Bool}{Q:Value×AD->Shared->Prop}(X:K.In s.heap)(I:ObjM s.heap x dx C mA)(a:W.plainGet K C name=true)(d:W.findIn K (.ref C) name=some (some (.ref f)))(g:W.isFn K (.ref f)=true)(b:mA name=none)(h:Q (.ref f,[.ref x]) s):
 wpAny (mZ prog w) A (getMethod (.ref x) name pl) Q E s:=by
 obtain⟨c,J,e⟩:=I.look;exact W.method_fn X J (W.plainGet_of a).1 (W.plainGet_of a).2 d (beq_iff_eq.mp g) (by show(W.lookIn name c).map (·.isSome)=some false;rw[e,b];rfl) h
theorem vh{ns:AK}{Q:Unit->Shared->Prop}(X:K.In s.heap)(I:ObjM s.heap x dx C mA)(hs:W.findIn K (.ref C) "__setattr__"=some (some (.builtin "object.__setattr__")))(q:W.plainOver K C=true)(j:W.takerIn K C name=some none)(m:W.hasDictIn K C=true)(p:PySem.Within mA ns)(o:ns.length<=sizeLine)(h:∀h',ObjM h' x dx C (λy=>if y=name then some v else mA y)->Heap.SameBut dx s.heap h'->Q () { s with heap:=h',toks:=s.toks+2 }):
 wpAny (mZ prog w) A (setAttr (.ref x) name v) Q E s:=by
 obtain⟨u,J,t⟩:=I.look;refine W.set_plain X J hs (W.osa_open   X J q j λb=>?_);obtain⟨r,k,i⟩:=W.any_some m;refine wa (wc (wa (wa (wpAny_loadPart I.obj (wa (W.Looks.here  (W.looks_clsIn X k) ?_))))));rw[i];refine wc  (wa (wc (wa (wpAny_nsSet1  I.ns λh' c a=>?_))));obtain⟨z,l,n,d,e,g⟩:=c.count (PySem.Within.cons name v p);exact wa (wpAny_lookBehind d (by rw[e];exact pastItsLine_dict (Qg g (by rw[qt];lia))) (wc (h _ ⟨(a.2 _ (Ne.symm I.ne)).trans I.obj,c,I.ne⟩ a)))
def LF{R:Result->Shared->Prop}{vs:AD}{b:List (Str×Value)}(X:K.In s.heap)(d:W.makesIn K C=true)(c:W.findIn K (.ref C) "__init__"=some (some (.ref f)))(e:W.typeIn K (.ref f)=some (.type "function"))(h:codeAny (mZ prog w) (A.under (.builtin "type.__call__" ⟨.ref C::vs,b⟩)) (.call (.ref f) ⟨.ref (~~~s+1)::vs,b⟩) (W.InitBack (~~~s+1) R)
  { s with heap:=(s.heap.push W.emptyDict).push (W.instObj C (~~~s)) }):
 codeAny (mZ prog w) A (.call (.ref C) ⟨vs,b⟩) R s:=W.make_core (W.makes_of X d) (W.looks_findIn X c) (λa=>W.bind_fn X a e) (.inl rfl) h
end
def bq(f:Str)(v:V):List (Str×V)->List (Str×V)
 | []=>[(f,v)]
 | (g,x)::r=>if g=f then (g,v)::r else (g,x)::bq f v r
theorem FM(f g:Str)(v:V):∀b:List (Str×V),(bq f v b).lookup g=if g=f then some v else b.lookup g
 | []=>by
   show List.lookup g [(f,v)]=_;by_cases h:g=f
   .have hb:=beq_iff_eq.mpr h
    simp  [List.lookup,hb,if_pos h]
   .have hb:=beq_eq_false_iff_ne.mpr h
    simp  [List.lookup,hb,if_neg h]
 | (k,x)::r=>by
   rw[show bq f v ((k,x)::r)=(if k=f then (k,v)::r else (k,x)::bq f v r) from rfl];by_cases a:k=f
   .rw[if_pos a]
    by_cases h:g=k
    .have hb:=beq_iff_eq.mpr h
     simp  [List.lookup,hb,if_pos (h.trans a)]
    .have hb:=beq_eq_false_iff_ne.mpr h
     simp  [List.lookup,hb,if_neg (λe:g=f=>h (e.trans a.symm))]
   .rw[if_neg a]
    by_cases h:g=k
    .have hb:=beq_iff_eq.mpr h
     simp  [List.lookup,hb,if_neg (λe=>a (h.symm.trans e))]
    .have hb:=beq_eq_false_iff_ne.mpr h
     simp  [List.lookup,hb];exact(FM f g v r)
theorem vi(f:Str)(v:V):∀a:List (Str×V),f∈(bq f v a).map (·.1)/\∀g,g∈a.map (·.1)->g∈(bq f v a).map (·.1)
 | []=>⟨by simp[bq],λg h=>by simp at h⟩
 | (k,x)::r=>by
   obtain⟨d,c⟩:=vi f v r;rw[show bq f v ((k,x)::r)=(if k=f then (k,v)::r else (k,x)::bq f v r) from rfl];by_cases b:k=f
   .subst b
    exact⟨by simp,λg h=>by simpa using h⟩
   .rw[if_neg b]
    refine⟨?_,λg h=>?_⟩
    .exact qg _ d
    .rcases qu h with e|e
     .exact List.mem_cons.mpr (.inl e)
     .exact qg _ (c g e)
theorem FN(f:Str)(v:V):∀b:List (Str×V),(bq f v b).length<=b.length+1
 | []=>by simp[bq]
 | (k,x)::r=>by
   have c:=FN f v r;rw[show bq f v ((k,x)::r)=(if k=f then (k,v)::r else (k,x)::bq f v r) from rfl];by_cases a:k=f
   .rw[if_pos a,qt,qt];lia
   .rw[if_neg a,qt,qt];lia
def RelO.some_of(r:RelO (some v) o):∃u,o=some u/\RelV v u:=by
 cases o with
 | none=>exact( r).elim
 | some u=>exact⟨u,rfl,r⟩
def RelO.none_of{o:Option Value}(r:RelO none o):o=none:=by
 cases o with
 | none=>rfl
 | some u=>exact( r).elim
def LG{v:V}{u:Value}(r:RelV v u):W.handedIn u=true:=by
 cases v with
 | non=>cases ( r);rfl
 | bl b=>cases ( r);rfl
 | int i=>obtain⟨t,e⟩:=( r);cases e;rfl
 | str x=>obtain⟨t,e⟩:=( r);cases e;rfl
 | byt b=>obtain⟨t,e⟩:=( r);cases e;rfl
 | flt b=>obtain⟨t,e⟩:=( r);cases e;rfl
 | ref a=>cases ( r);rfl
 | ty n=>cases ( r);rfl
section
variable {P:P7}{w:World}{H H':Hp}{h h':Heap}{a C dx:Addr}{fs fs':List (Str×V)}
def oO(g:HOk P w H h)(e:H a=some (.ins C dx fs)):∃b,ObjM h a dx C b/\(∀f,RelO (fs.lookup f) (b f))/\PySem.Within b (fs.map (·.1))/\fs.length<=1000/\H dx=some (.own a):=by
 obtain⟨d,z,i,j,b,n,r,q⟩:=( g a _ e)
 exact⟨b,⟨j,n,i⟩,r,q,z,d⟩
end
structure Cls(K:W7)(C:Addr):Prop where
 pg:W.plainGet K C Str.empty=true
 hd:W.hasDictIn K C=true
 po:W.plainOver K C=true
 sa:W.findIn K (.ref C) "__setattr__"=some (some (.builtin "object.__setattr__"))
def Cls.get{K:W7}(c:Cls K C)(f:Str):W.plainGet K C f=true:=c.pg
def NoAttr(K:W7)(C:Addr)(f:Str):Prop:=W.findIn K (.ref C) f=some none
def NoAttr.taker{K:W7}{C:Addr}{f:Str}(n:NoAttr K C f):W.takerIn K C f=some none:=by
 unfold W.takerIn;rw[ n];rfl
structure Wz(K:W7)(C:Addr)(f:Str)(v:V)(u:Value):Prop where
 at_:W.findIn K (.ref C) f=some (some u)
 rel:RelV v u
 get:W.specialIn K u "__get__"=some none
 cp:W.copiedNames.contains f=false
structure c9(K:W7)(C:Addr)(m:Str)(f:Addr):Prop where
 at_:W.findIn K (.ref C) m=some (some (.ref f))
 fn:W.isFn K (.ref f)=true
 kp:W.keepIn K (.ref f)=true
section
variable {X:Cx}{pins:AC}{σ:St}{H:Hp}{s:Shared}{a C dx:Addr}{fs:List (Str×V)}{f:Str}{v:V}{A:Around}{E:AB}
theorem FO{b:Bool}{Q:AB}(I:Inv X pins σ H s)(e:H a=some (.ins C dx fs))(c:Cls X.K C)(n:NoAttr X.K C f)(l:fs.lookup f=some v)(h:∀u s',Inv X pins σ H s'->RelV v u->Q u s'):wpAny (mZ X.prog X.w) A (getAttr (.ref a) f b) Q E s:=by
 obtain⟨i,O,r,_,_,_⟩:=oO I.hok e;obtain⟨u,g,d⟩:=RelO.some_of   (by rw[<-l];exact r f);exact vg I.kIn O (c.get f) c.hd n g (LG d) (h u _ (I.tok _) d)
theorem FP{m:Str}{g:Addr}{pl:Sem Bool}{Q:Value×AD->Shared->Prop}(I:Inv X pins σ H s)(e:H a=some (.ins C dx fs))(c:Cls X.K C)(k:c9 X.K C m g)(l:fs.lookup m=none)(h:Q (.ref g,[.ref a]) s):wpAny (mZ X.prog X.w) A (getMethod (.ref a) m pl) Q E s:=by
 obtain⟨b,O,r,_,_,_⟩:=oO I.hok e;exact LD I.kIn O (c.get m) k.at_ k.fn (RelO.none_of (by rw[<-l];exact r m)) h
theorem FQ{y:V}{u:Value}{Q:Unit->Shared->Prop}(I:Inv X pins σ H s)(e:H a=some (.ins C dx fs))(c:Cls X.K C)(n:NoAttr X.K C f)(x:fs.length<1000)(p:RelV y u)(h:∀s',Inv X pins σ (upd H a (.ins C dx (bq f y fs))) s'->Q () s'):wpAny (mZ X.prog X.w) A (setAttr (.ref a) f u) Q E s:=by
 obtain⟨m,O,r,j,_,i⟩:=oO I.hok e
 have t:(fs.map (·.1)).length<=sizeLine:=by rw[qf,jf];lia
 refine vh I.kIn O c.sa c.po n.taker c.hd j t λh' d k=>h _ (I.write   (by rw[e];exact True.intro) (.inr i) (λb q hb z=>(k.2 b hb).trans z) (let ⟨o,_,_,l,_⟩:=d.ns;⟨o,l⟩) (⟨by rw[Yi O.ne];exact i,?_,O.ne,d.obj,_,d.ns,λg=>?_,λg w=>?_⟩))
 .have:=FN f y fs;lia
 .rw[FM]
  by_cases q:g=f
  .rw[if_pos q,if_pos q];exact p
  .rw[if_neg q,if_neg q];exact r g
 .by_cases q:g=f
  .rw[q];exact(vi f y fs).1
  .refine(vi f y fs).2 g (j g λz=>w ?_)
   show(if g=f then some u else m g)=none;rw[if_neg q];exact z
theorem Inv.made(I:Inv X pins σ H s):Inv X pins σ (upd (upd H (~~~s) (.own (~~~s+1))) (~~~s+1) (.ins C (~~~s) []))
 { s with heap:=(s.heap.push W.emptyDict).push (W.instObj C (~~~s)) }:=by
 have e1:(s.heap.push W.emptyDict).get? (~~~s)=some W.emptyDict:=qp s.heap rfl
 have e2:=by
  have:=qp (s.heap.push W.emptyDict) (o:=W.instObj C (~~~s)) rfl
  rwa [wv]at this
 refine(I.laid  (o:=.own (~~~s+1))  (t':=s.toks) (λb u q=>qe _ q) (qv _) ⟨_,e1⟩).laid    (λb u q=>qe _ q) (Nat.le_of_eq (wv _ _)) ?_;have d:(~~~s)≠(~~~s)+1:=qm (Qa _);refine⟨by rw[Yi d,Yk],Qh _,d,e2,λ_=>none,(Heap.Ns1.of_empty (⟨W.emptyDict,#[],_,e1,rfl,(λe h=>absurd h (by simp)),λ_=>rfl⟩)).at λo q=>qe _ q,λ_=>True.intro,λy g=>absurd rfl g⟩
def vj{prog:P7}{w:World}{env:Env}{e:Expr}{f:Str}{c:Pos}{s:Shared}{Q:AB}(hb:attributeBase e f env (eval e env)=eval e env)(h:wpAny (mZ prog w) A (eval e env) (λo b=>wpAny (mZ prog w) A (getAttr o f true) Q E b) E s):wpAny (mZ prog w) A (eval (.Attribute e f c) env) Q E s:=
 Attribute_any_ h (by rw[arm_eval_Attribute,hb])
end
def vk(K:W7)(g:TE)(f:Str):TE:=λσ H Q=>g σ H λx d=>∃a C e c v,x=.ref a/\d a=some (.ins C e c)/\Cls K C/\NoAttr K C f/\c.lookup f=some v/\Q v d
def vm(K:W7)(g i:TE)(f:Str):TS:=λD σ H=>i σ H λy h=>g σ h λx d=>∃a C e c,x=.ref a/\d a=some (.ins C e c)/\Cls K C/\NoAttr K C f/\c.length<1000/\
 D.nx σ (upd d a (.ins C e (bq f y c)))
def ko(X:Cx)(op:Operator)(a:V->V->Hp->VK->Prop):Prop:=
 ∀(pins:AC) (s:Shared) (σ:St) (H:Hp) (x y:V) (u v:Value) (Q:VK),Inv X pins σ H s->RelV x u->RelV y v->a x y H Q->wpAny (mZ X.prog X.w) X.A (inplaceOp op u v) (EP X pins σ Q) X.xe s
def vn(K:W7)(j m:TE)(i:V->V->Hp->VK->Prop)(f:Str):TS:=λD σ H=>j σ H λx e=>∃a C l g v,x=.ref a/\e a=some (.ins C l g)/\Cls K C/\NoAttr K C f/\g.lookup f=some v/\
 m σ e λy k=>i v y k λz h=>∃c b,h a=some (.ins C c b)/\b.length<1000/\D.nx σ (upd h a (.ins C c (bq f z b)))
section
variable {X:Cx}{o e value:Expr}{f:Str}{pos pos' tpos:Pos}{ta tv:TE}{pins:AC}{σ:St}{H:Hp}{s:Shared}{A:Around}{E Q:AB}{c:Value}{b:Bool}
def vo(g:PE X e ta)(hb:attributeBase e f X.env (eval e X.env)=eval e X.env):PE X (.Attribute e f pos) (vk X.K ta f):=by
 intro pins s σ H Q I h;refine vj hb (aI (g pins s σ H _ I h) λu y d=>?_);obtain⟨x,k,t,r,a,C,w,z,v,m,j,c,n,l,q⟩:=d;subst m;obtain rfl:=r
 exact FO t j c n l λB D p i=>⟨v,k,p,i,q⟩
def kq(k:PE X o ta)(t:PE X value tv)(hs:swapsWith value (some (.Attribute o f pos')) pos.line X.env=pure false):PS X (.Assign [.Attribute o f pos'] value pos) (vm X.K ta tv f):=by
 intro pins s σ H D I h;refine plainObj_wpAny_Assign_Attribute (aI (t pins s σ H _ I h) λu B d=>?_) hs;obtain⟨y,i,v,g,q⟩:=d;refine aI (k pins B σ i _ v q) λL K d=>?_;obtain⟨x,G,p,j,a,C,M,F,m,r,c,n,l,z⟩:=d;subst m;obtain rfl:=j
 exact FQ p r c n l g λJ w=>⟨σ,_,w,z⟩
def LH{op:Operator}{j:V->V->Hp->VK->Prop}(N:PE X o ta)(F:PE X value tv)(i:ko X op j):PS X (.AugAssign (.Attribute o f tpos) op value pos) (vn X.K ta tv j f):=by
 intro pins s σ H D I h;refine wpAny_AugAssign_AttributeAny (aI (N pins s σ H _ I h) λov s1 d=>?_);obtain⟨x,m,J,W,a,C,dx,fs,v,L,w,c,n,l,q⟩:=d;subst L;obtain rfl:=W;refine FO J w c n l λu O t P=>aI (F pins O σ m _ t q) λK Y d=>?_;obtain⟨y,U,G,k,S⟩:=d;refine aI (i pins Y σ U v y u K _ G P k S) λw4 s4 d=>?_;obtain⟨z,H3,r,Z,R,M,g,p,B⟩:=d
 exact FQ r g c n p Z λs5 T=>⟨σ,_,T,B⟩
def vp:V->V->Hp->VK->Prop:=λx y H Q=>∃i j,x=.int i/\y=.int j/\Q (.int (i+j)) H
def vq:ko X .Add vp:=by
 rintro pins s σ H x y u v Q I g d ⟨i,j,rfl,rfl,q⟩
 obtain⟨t,rfl⟩:=( g)
 obtain⟨t',rfl⟩:=( d)
 exact PyProof.Rows.iadd_int ⟨.int (i+j),H,I.tok _,⟨_,rfl⟩,q⟩
inductive cm (K:W7) (H:Hp):V->Value->Prop where
 | non:cm K H .non (.type "NoneType")
 | bl (x:Bool):cm K H (.bl x) (.type "bool")
 | int (i:Int):cm K H (.int i) (.type "int")
 | str (x:Str):cm K H (.str x) (.type "str")
 | flt (x:UInt64):cm K H (.flt x) (.type "float")
 | lst {a:Addr}{xs:AN} (e:H a=some (.lst xs)):cm K H (.ref a) (.type "list")
 | frz {a:Addr}{o:Obj}{xs:AN} (e:H a=some (.frz o (.lst xs))):cm K H (.ref a) (.type "list")
 | tup {a:Addr}{xs:AN} (e:H a=some (.tup xs)):cm K H (.ref a) (.type "tuple")
 | dK {a:Addr}{kvs:List (bD×V)} (e:H a=some (.dK kvs)):cm K H (.ref a) (.type "dict")
 | dT {a:Addr}{kvs:List (List bD×V)} (e:H a=some (.dT kvs)):cm K H (.ref a) (.type "dict")
 | ins {a C dx:Addr}{fs:List (Str×V)} (e:H a=some (.ins C dx fs)) (cl:Cls K C) (ha:W.findIn K (.ref C) "__class__"=some (some (.builtin "object.__class__")))
  (hn:W.specialIn K (.builtin "object.__class__") "__get__"=some (some (.builtin "getset_descriptor.__get__"))) (htk:W.takesIn K (.builtin "object.__class__")=some true)
  (hm:W.mroIn K C (.type "object")=some true):cm K H (.ref a) (.ref C)
def LI(I:Inv X pins σ H s)(j:RelV x u)(F:cm X.K H x t)(e:W.kitOne X.K t c=some b)(h:∀tk,Q (.bool b) { s with toks:=tk }):
 wpAny (mZ X.prog X.w) A (call (.builtin "isinstance") [u,c]) Q E s:=by
 cases F with
 | non=>cases ( j);exact W.kia_one W.kitx_none I.kIn True.intro e (λz=>nomatch z) h
 | bl y=>cases ( j);exact W.kia_one W.kitx_bool I.kIn True.intro e (λz=>nomatch z) h
 | int i=>obtain⟨t,q⟩:=( j);cases q;exact W.kia_one W.kitx_int I.kIn True.intro e (λz=>nomatch z) h
 | str y=>obtain⟨t,q⟩:=( j);cases q;exact W.kia_one W.kitx_str I.kIn True.intro e (λz=>nomatch z) h
 | flt y=>obtain⟨t,q⟩:=( j);cases q;exact W.kia_one W.kitx_float I.kIn True.intro e (λz=>nomatch z) h
 | @lst a xs g=>
   cases (show u=Value.ref a from j)
   obtain⟨_,_,n,_,k⟩:=( I.hok a _ g)
   exact W.kia_one W.kitx_list I.kIn ⟨_,k,rfl⟩ e (λz=>nomatch z) h
 | @frz a P xs g=>
   cases ( j)
   obtain⟨_,_,_,n,_,k⟩:=( I.hok a _ g)
   exact W.kia_one W.kitx_list I.kIn ⟨_,k,rfl⟩ e (λz=>nomatch z) h
 | @tup a xs g=>
   cases (show u=Value.ref a from j)
   obtain⟨_,_,_,p⟩:=( I.hok a _ g)
   obtain⟨o,k,l,_⟩:=p;exact W.kia_one W.kitx_tuple I.kIn ⟨o,k,l⟩ e (λz=>nomatch z) h
 | @dK a r g=>
   cases (show u=Value.ref a from j)
   obtain⟨_,_,vs,_,p⟩:=( I.hok a _ g)
   obtain⟨o,G,B,k,l,_⟩:=p;exact W.kia_one W.kitx_dict I.kIn ⟨o,k,l.1⟩ e (λz=>nomatch z) h
 | @dT a r g=>
   cases (show u=Value.ref a from j)
   obtain⟨_,_,xs,_,o,G,B,k,l,_⟩:=( I.hok a _ g)
   exact W.kia_one W.kitx_dict I.kIn ⟨o,k,l.1⟩ e (λz=>nomatch z) h
 | @ins a C L N g v D K m w=>
   cases ( j);obtain⟨R,O,_⟩:=oO I.hok g;obtain⟨M,J,_⟩:=O.look;exact W.kia_one (W.kitx_own (v.get _) v.hd D K m w) I.kIn J e (λz=>nomatch z) h
end
structure Room(k:Nat)(A:Around):Prop where
 hd:A.handled=none
 dp:A.depth+3*k+5<recursionLimit
 un:A.units+16*k+200<cLine
theorem Room.mono(r:Room k A)(h:j<=k):Room j A:=⟨r.hd,by have:=r.dp;lia,by have:=r.un;lia⟩
theorem Room.deeper(r:Room (k+1) A)(env:Env):Room k (A.deeper env):=
 ⟨r.hd,by have:=r.dp;show A.depth+1+3*k+5<_;lia,by have:=r.un;show A.units+3+16*k+200<_;lia⟩
def LJ{A:Around}{C:Addr}{us:AD}{a:List (Str×Value)}:(A.under (.builtin "type.__call__" ⟨.ref C::us,a⟩)).depth=A.depth+1:=by
 first|rfl|simp[guardIds]
def LK{A:Around}{C:Addr}{us:AD}{a:List (Str×Value)}:(A.under (.builtin "type.__call__" ⟨.ref C::us,a⟩)).units=A.units+1:=by
 first|rfl|simp[Code.frames]
theorem Room.make{k:Nat}{A:Around}(r:Room (k+1) A)(C:Addr)(us:AD)(a:List (Str×Value)):Room k (A.under (.builtin "type.__call__" ⟨.ref C::us,a⟩)):=
 ⟨r.hd,by have:=r.dp;rw[LJ];lia,by have:=r.un;rw[LK];lia⟩
theorem Room.depth(r:Room k A):A.depth<recursionLimit:=by have:=r.dp;lia
theorem Room.units(r:Room k A):A.units+64<cLine:=by have:=r.un;lia
def kr:TA:=λ_ H Q=>Q [] H
def vr(a:TE)(d:TA):TA:=λσ H Q=>a σ H λx b=>d σ b λxs c=>Q (x::xs) c
section
variable {X:Cx}{e:Expr}{es:AL}{te:TE}{t:TA}{pos:Pos}
def eI:PA X [] kr:=λ_ _ _ _ H Q I h=>Calls.spliced_nil ⟨[],H,I,.nil,h⟩
theorem eJ(k:PE X e te)(d:PA X es t)(hs:starEach (e::es) X.env=(false,eval e X.env)::starEach es X.env:=by rfl):PA X (e::es) (vr te t):=by
 intro pos pins s σ H Q I h;rw[hs];show wpAny _ _ (spliced ((false,eval e X.env)::backTo pos (starEach es X.env))) _ _ s;refine Calls.spliced_cons (aI (k pins s σ H _ I h) λu c a=>?_);obtain⟨x,o,m,j,f⟩:=a;refine aI (d pos pins c σ o _ m f) λus p a=>?_;obtain⟨xs,l,i,g,n⟩:=a;exact⟨x::xs,l,i,.cons j g,n⟩
def vt(t:TA):TE:=λσ H Q=>t σ H λxs a=>xs.length<=sizeLine/\∀p,a p=none->Q (.ref p) (upd a p (.tup xs))
def vv(t:TA):TE:=λσ H Q=>t σ H λxs a=>xs.length<=sizeLine/\∀p,a p=none->Q (.ref p) (upd a p (.lst xs))
theorem vw{d}(h:PA X es t):PE X (.Tuple es d pos) (vt t):=by
 intro pins s σ H Q I g;exact wpAny_Tuple_spliced (aI (h pos pins s σ H _ I g) λus c ⟨xs,f,a,r,z,q⟩=>⟨by rw[<-r.length];exact z,(⟨.ref c.heap.objs.size,upd f c.heap.objs.size (.tup xs),a.laid  (λb u e=>qe _ e) (qv _) (⟨z,us,r,⟨_,qp _ rfl,rfl,_,rfl⟩⟩),rfl,q _ (a.hok.fresh (qv _))⟩)⟩)
theorem ku(h:PA X es t):PE X (.List es pos) (vv t):=by
 intro pins s σ H Q I d;exact wpAny_List_spliced (aI (h pos pins s σ H _ I d) λus a ⟨xs,f,c,r,z,q⟩=>⟨by rw[<-r.length];exact z,(⟨.ref a.heap.objs.size,upd f a.heap.objs.size (.lst xs),c.laid  (λb u e=>qe _ e) (qv _) (⟨z,us,0,r,qp _ rfl⟩),rfl,q _ (c.hok.fresh (qv _))⟩)⟩)
end
abbrev Sp:=AN->Hp->VK->XK->Prop
abbrev fI:=List Env->Hp->Shared->XK->AB
structure Env0(P:P7)(w:World)(K:W7)(mg:AE)(base:Heap)(A:Around)(outer:List Env)(s:Shared)(H:Hp):Prop where
 frames:A.frames=some outer
 mod:Mod K mg base
 bs:∀b o,base.get? b=some o->s.heap.get? b=some o/\H b=none
 bsz:base.objs.size<= ~~~s
 funs:s.heap.FunFrames base outer
 frf:∀b∈ey outer,H b=none
 hok:HOk P w H s.heap
 bare:AllBare s.gens
def CE(a:List Env)(P:P7)(w:World)(H:Hp)(s:Shared)(Q:VK)(u:Value)(s':Shared):Prop:=
 ∃v H',s'.os=s.os/\AllBare s'.gens/\Un (ey a) [] H H' s.heap s'.heap/\HOk P w H' s'.heap/\RelV v u/\Q v H'
def CR(CX:fI)(a:List Env)(P:P7)(w:World)(H:Hp)(s:Shared)(Q:VK)(E:XK)(r:Result)(s':Shared):Prop:=
 match r with
 | .ok (.ret u)=>CE a P w H s Q u s'
 | .ok _=>False
 | .error e=>CX a H s E e s'
structure FnOk(P:P7)(w:World)(K:W7)(mg:AE)(base:Heap)(CX:fI)(k:Nat)(f:Addr)(fd:FuncData)(ps:AK)(sp:Sp):Prop where
 len:∀vs H Q E,sp vs H Q E->vs.length=ps.length
 run:∀(A:Around) (outer:List Env) (s:Shared) (H:Hp) (args:Args) (us:AD) (vs:AN) (Q:VK) (E:XK),Room k A->Env0 P w K mg base A outer s H->BindsTo s fd args (ps.zip us)->Vals vs us->sp vs H Q E->
  codeAny (mZ P w) A (.call (.ref f) args) (CR CX outer P w H s Q E) s
def FnOk.mono{P:P7}{w:World}{K:W7}{g:AE}{a:Heap}{CX:fI}{j k:Nat}{f:Addr}{e:FuncData}{ps:AK}{sp:Sp}(F:FnOk P w K g a CX j f e ps sp)(h:j<=k):
 FnOk P w K g a CX k f e ps sp:=⟨F.len,λA b s H c us vs Q E i=>F.run A b s H c us vs Q E (i.mono h)⟩
def Env0.make{P:P7}{w:World}{K:W7}{d:AE}{b:Heap}{A:Around}{a:List Env}{s:Shared}{H:Hp}(e:Env0 P w K d b A a s H)(C:Addr)(us:AD)(f:List (Str×Value)):
 Env0 P w K d b (A.under (.builtin "type.__call__" ⟨.ref C::us,f⟩)) a s H:=⟨by first|exact e.frames|(simpa [pushEnvs]using e.frames),e.mod,e.bs,e.bsz,e.funs,e.frf,e.hok,e.bare⟩
section
variable {X:Cx}{pins:AC}{σ:St}{H:Hp}{s s':Shared}
def Inv.env0(I:Inv X pins σ H s):Env0 X.prog X.w X.K X.mg X.base X.A X.stack s H:=
 ⟨I.ok.frames,I.ok.mod,I.bs,Qg I.ok.bsz I.sz,I.stack,I.stkFree,I.hok,I.bare⟩
theorem Inv.after(I:Inv X pins σ H s)(h:CE X.stack X.prog X.w H s Q u s'):EP X pins σ Q u s':=by
 obtain⟨v,H',os,a,e,c,r,q⟩:=h;obtain⟨i,g,d,t,f⟩:=s';obtain rfl:=os;exact⟨v,H',I.call      e c a (λb z=>absurd z (by simp)),r,q⟩
end
def kx(sp:Sp)(dvs:AN)(E:XK)(t:TA):TE:=λσ H Q=>t σ H λvs a=>sp (vs++dvs) a Q E
def vx(C:Addr)(m:Str)(sp:Sp)(dvs:AN)(E:XK)(d:TE)(t:TA):TE:=λσ H Q=>d σ H λx c=>∃a e b,x=.ref a/\c a=some (.ins C e b)/\b.lookup m=none/\
 t σ c λvs f=>sp (x::(vs++dvs)) f Q E
def vy(C:Addr)(sp:Sp)(dvs:AN)(E:XK)(t:TA):TE:=λσ H Q=>t σ H λvs b=>∀x a,b x=none->b a=none->a≠x->
 sp (.ref x::(vs++dvs)) (upd (upd b a (.own x)) x (.ins C a [])) (λv c=>v=.non/\Q (.ref x) c) E
def Binds(K:W7)(b:FuncData)(ps:AK)(ds:AD):Prop:=
 ∀(s:Shared) (us:AD),K.In s.heap->(us++ds).length=ps.length->BindsTo s b ⟨us,[]⟩ (ps.zip (us++ds))
def Binds.all{K:W7}(h:∀us:AD,us.length=ps.length->bindArgs c ⟨us,[]⟩=pure (ps.zip us)):Binds K c ps []:=λs us _ b=>by
 rw[w5]at b ⊢;exact .of_eq (h us b)
def jl(CX:fI)(X:Cx)(E:XK):Prop:=∀(pins:AC) (σ:St) (H:Hp) (s:Shared) (e:Value) (s':Shared),Inv X pins σ H s->CX X.stack H s E e s'->X.xe e s'
section
variable {X:Cx}{CX:fI}{k:Nat}{f C:Addr}{fd:FuncData}{ps:AK}{sp:Sp}{dvs:AN}{ds:AD}{E:XK}{x m:Str}{p pos apos:Pos}{e o:Expr}{es:AL}{ta:TE}{t:TA}
theorem oP{σ:St}(F:FnOk X.prog X.w X.K X.mg X.base CX k f fd ps sp)(d:Room k X.A)(hb:Binds X.K fd ps ds)(c:Vals dvs ds)(g:jl CX X E)(I:Inv X pins σ H s)(r:Vals vs us)(h:sp (vs++dvs) H Q E):wpAny (mZ X.prog X.w) X.A (call (.ref f) us) (EP X pins σ Q) X.xe s:=by
 have b:=r.append c
 have i:(us++ds).length=ps.length:=by rw[<-b.length];exact F.len _ _ _ _ h
 refine wpAny_call (codeAny_mono (F.run X.A X.stack s H ⟨us,[]⟩ (us++ds) (vs++dvs) Q E d I.env0 (hb s us I.kIn i) b h) λr s' a=>?_)
 cases r with
 | error e=>exact g pins σ H s e s' I a
 | ok fl=>
   cases fl with
   | ret u=>exact I.after a
   | next=>exact False.elim a
   | brk=>exact False.elim a
   | cont=>exact False.elim a
theorem vz(F:FnOk X.prog X.w X.K X.mg X.base CX k f fd ps sp)(y:Room k X.A)(l:Gl X x)(w:X.mg x=some (.ref f))(v:W.keepIn X.K (.ref f)=true)(hb:Binds X.K fd ps ds)(n:Vals dvs ds)(i:jl CX X E)(u:PA X (e::es) t)(b:b9 x:=by decide)(j:starEach (e::es) X.env=(false,eval e X.env)::starEach es X.env:=by rfl)(c:(backTo pos (starEach es X.env)).any (·.1)=false:=by rfl):
 PE X (.Call (.Name x p) (e::es) [] pos) (kx sp dvs E t):=by
 intro pins s σ H Q I h;refine wpAny_Call_Name_kw (oG I l w (W.callWith_K  I.ok.mod.kin v (aI (u pos pins s σ H _ I h) λus A d=>?_) j c) b);obtain⟨vs,z,g,r,q⟩:=d;exact⟨g.kIn,(oP F y hb n i g r q)⟩
theorem FR{pl:Sem Bool}(w:PE X o ta)(c:Cls X.K C)(i:c9 X.K C m f)(F:FnOk X.prog X.w X.K X.mg X.base CX k f fd ps sp)(A:Room k X.A)(hb:Binds X.K fd ps ds)(y:Vals dvs ds)(n:jl CX X E)(B:eval (.Call (.Attribute o m apos) [] [] pos) X.env=(do
  let j <-eval o X.env
  standAt apos.atName
  let (f,first) <-holding [j] (getMethod j m pl)
  callWith pos f first (backTo pos (starEach [] X.env)) (backToKw pos (keywordEach [] X.env))):=by rfl):
 PE X (.Call (.Attribute o m apos) [] [] pos) (vx C m sp dvs E ta kr):=by
 intro pins s σ H Q I h;refine W.methodCall_KW  (aI (w pins s σ H _ I h) λu J g=>?_) B;obtain⟨x,G,d,v,a,K,D,r,z,l,q⟩:=g;subst r;obtain rfl:=v;exact FP d z c i l (W.callWith_K0  d.kIn i.kp (oP  (vs:=[.ref a]) F A hb y n d (.cons rfl .nil) q))
structure Mk(K:W7)(C f:Addr):Prop where
 makes:W.makesIn K C=true
 init:W.findIn K (.ref C) "__init__"=some (some (.ref f))
 fn:W.isFn K (.ref f)=true
 kp:W.keepIn K (.ref C)=true
theorem LL{pins:AC}{σ:St}{H:Hp}{s:Shared}{Q:VK}{us:AD}{vs:AN}(M:Mk X.K C f)(F:FnOk X.prog X.w X.K X.mg X.base CX k f fd ps sp)(n:Room (k+1) X.A)(hb:Binds X.K fd ps ds)(q:Vals dvs ds)(l:jl CX X E)(I:Inv X pins σ H s)(r:Vals vs us)(h:∀x b,H x=none->H b=none->b≠x->sp (.ref x::(vs++dvs)) (upd (upd H b (.own x)) x (.ins C b [])) (λv y=>v=.non/\Q (.ref x) y) E):
 wpAny (mZ X.prog X.w) X.A (call (.ref C) us) (EP X pins σ Q) X.xe s:=by
 have g:=h (~~~s+1) (~~~s) (I.hok.fresh (Nat.le_succ _)) (I.hok.fresh (qv _)) (qm (Qa _));have c:=Inv.made (C:=C) I;have d:Vals (V.ref (~~~s+1)::(vs++dvs)) (Value.ref (~~~s+1)::(us++ds)):=.cons rfl (r.append q)
 have z:=by
  have e:=d.length;rw[F.len _ _ _ _ g]at e;exact e.symm
 refine wpAny_call (LF  I.kIn M.makes M.init (beq_iff_eq.mp M.fn) (codeAny_mono (F.run _ X.stack _ _ ⟨Value.ref (~~~s+1)::us,[]⟩ (Value.ref (~~~s+1)::(us++ds)) _ _ E (n.make C us [])
  (c.env0.make C us []) (hb _ (Value.ref (~~~s+1)::us) c.kIn z) d g) λr s' a=>?_))
 cases r with
 | error e=>exact l pins σ _ _ e s' c a
 | ok fl=>
   cases fl with
   | ret u=>
     obtain⟨v,H',w,j,ev,i⟩:=c.after a;subst ev;exact⟨j,⟨V.ref (~~~s+1),H',w,rfl,i⟩⟩
   | next=>exact False.elim a
   | brk=>exact False.elim a
   | cont=>exact False.elim a
theorem vA(M:Mk X.K C f)(F:FnOk X.prog X.w X.K X.mg X.base CX k f fd ps sp)(u:Room (k+1) X.A)(l:Gl X x)(w:X.mg x=some (.ref C))(hb:Binds X.K fd ps ds)(n:Vals dvs ds)(i:jl CX X E)(v:PA X (e::es) t)(b:b9 x:=by decide)(j:starEach (e::es) X.env=(false,eval e X.env)::starEach es X.env:=by rfl)(c:(backTo pos (starEach es X.env)).any (·.1)=false:=by rfl):
 PE X (.Call (.Name x p) (e::es) [] pos) (vy C sp dvs E t):=by
 intro pins s σ H Q I h;refine wpAny_Call_Name_kw (oG I l w (W.callWith_K  I.ok.mod.kin M.kp (aI (v pos pins s σ H _ I h) λus z d=>?_) j c) b);obtain⟨vs,y,g,r,q⟩:=d;exact⟨g.kIn,(LL M F u hb n i g r q)⟩
end
section
variable {X:Cx}{CX:fI}{k:Nat}{f C:Addr}{fd:FuncData}{ps ks:AK}{sp:Sp}{E:XK}{x m:Str}{p pos apos kpos:Pos}{e o:Expr}{es:AL}{kws:List Keyword}{te ta:TE}{t tk:TA}{nm:Option Str}
structure vB(K:W7)(fd:FuncData)(ps ks:AK)(g:AD->AD->AD)(gV:AN->AN->AN):Prop where
 to:∀(s:Shared) (us ws:AD),K.In s.heap->(g us ws).length=ps.length->BindsTo s fd ⟨us,ks.zip ws⟩ (ps.zip (g us ws))
 rel:∀{vs:AN}{us:AD}{zs:AN}{ws:AD},Vals vs us->Vals zs ws->Vals (gV vs zs) (g us ws)
variable {g:AD->AD->AD}{gV:AN->AN->AN}
end
structure aD(N P:AK)(sc:Scope):Prop where
 kind:sc.kind=.function
 co:sc.isCoroutine=false
 gen:sc.isGenerator=false
 nd:N.Nodup
 pre:N.take P.length=P
 par:∀x∈P,sc.names.lookup x=some .local\/sc.names.lookup x=some .cell
 nofree:∀y∈sc.names,y.2≠.free
theorem FS{kindOf:Str->Option NameKind}:∀{a:List (Str×Value)}{m:AE},(∀v,(x,v)∉a)->bindL kindOf a m x=m x
 | [],_,_=>rfl
 | (n,v)::r,m,h=>by
   unfold bindL;rw[FS λw b=>h w (qg _ b)]
   split
   .grind
   .rfl
theorem FT{kindOf:Str->Option NameKind}:∀{a:List (Str×Value)}{m:AE},(∀v,(x,v)∉a)->bindC kindOf a m x=m x
 | [],_,_=>rfl
 | (n,v)::r,m,h=>by
   unfold bindC;rw[FT λw b=>h w (qg _ b)]
   split
   .rfl
   grind
theorem FU{kindOf:Str->Option NameKind}:∀{P:AK}{vs:AD}{i:Nat}{m:AE},P.Nodup->P[i]?=some x->vs[i]?=some v->kindOf x=some .local->
 bindL kindOf (P.zip vs) m x=some v
 | [],_,_,_,_,h,_,_=>by simp at h
 | _::_,[],_,_,_,_,h,_=>by simp at h
 | p::P,w::vs,0,m,b,a,c,d=>by
   simp at a c;subst a;subst c;show bindL kindOf ((p,w)::P.zip vs) m p=_;unfold bindL;rw[FS λv e=>(List.nodup_cons.mp b).1 (List.of_mem_zip e).1,if_pos d];simp
 | p::P,w::vs,i+1,m,b,a,c,d=>by
   unfold bindL;exact FU (i:=i) (List.nodup_cons.mp b).2 (by grind) (by grind) d
theorem FV{kindOf:Str->Option NameKind}:∀{P:AK}{vs:AD}{i:Nat}{m:AE},P.Nodup->P[i]?=some x->vs[i]?=some v->kindOf x≠some .local->
 bindC kindOf (P.zip vs) m x=some v
 | [],_,_,_,_,h,_,_=>by simp at h
 | _::_,[],_,_,_,_,h,_=>by simp at h
 | p::P,w::vs,0,m,b,a,c,d=>by
   simp at a c;subst a;subst c;show bindC kindOf ((p,w)::P.zip vs) m p=_;unfold bindC;rw[FT λv e=>(List.nodup_cons.mp b).1 (List.of_mem_zip e).1,if_neg d];simp
 | p::P,w::vs,i+1,m,b,a,c,d=>by
   unfold bindC;exact FV (i:=i) (List.nodup_cons.mp b).2 (by grind) (by grind) d
def start(N:AK)(vs:AN):St:=vs.map some++List.replicate (N.length-vs.length) none
def bV(CX:fI)(P:P7)(w:World)(K:W7)(mg:AE)(base:Heap)(N:AK)(b:Str)(a:Scope)(f:Addr)(d:Value)(A:Around)(outer:List Env)(s:Shared)(H:Hp)(E:XK):Cx where
 prog:=P
 w:=w
 K:=K
 mg:=mg
 base:=base
 A:=A.deeper (envOfC b a (~~~s) f d)
 N:=N
 s₀:=s
 H₀:=H
 env:=envOfC b a (~~~s) f d
 outer:=outer
 stack:=envOfC b a (~~~s) f d::outer
 ex:=[]
 calm:=true
 fn:=λ_=>true
 pn:=[]
 xe:=λe s'=>wpAny (mZ P w) (A.deeper (envOfC b a (~~~s) f d)) (leaving (envOfC b a (~~~s) f d) e) (λ_ c=>CX outer H s E e c) (λh c=>CX outer H s E h c) s'
def FW{b:Scope}(h:b.names.lookup x=some .cell):∃c,(cellsFrom n b.names []).lookup x=some c:=by
 exact Option.isSome_iff_exists.mp (PySem.W.cellsFrom_some b.names n [] (.inl h))
theorem LM{K:W7}(S:aD N ps a)(M:A.handled=none)(l:Env0 P w K J m A j s H)(V:vs.length=ps.length)(r:Vals vs us)(x:InCallC s (~~~s) (bindL (envOfC g a (~~~s) f F).kindOf (ps.zip us) λ_=>none) (cellsFrom (~~~s+1) a.names []) (bindC (envOfC g a (~~~s) f F).kindOf (ps.zip us) λ_=>none) R):
 Inv (bV CX P w K J m N g a f F A j s H E) [] (start N vs) H R:=by
 have O:ps.length<=N.length:=by have:=congrArg List.length S.pre;grind
 obtain⟨C,tk,rfl,G⟩:=x.done;have n:∀b,b∉(bV CX P w K J m N g a f F A j s H E).ex:=λb z=>absurd (show b∈([]) from z) (by simp)
 refine⟨⟨l.mod,S.kind,rfl,rfl,qv _,λy z c C D=>?_,λy o=>?_,λy c _ h=>?_,λ_=>M,Around.frames_deeper l.frames,.inr ⟨rfl,rfl⟩,λb z=>absurd z (n b),l.bs,l.bsz,λb _ _=>n b,λb z=>absurd z (n b),l.funs,l.frf⟩,
  rfl,l.bare,Un.kept G,⟨_,x.toInCall.ns,λi y v C D T=>?_⟩,λy c h=>⟨_,x.cell y c h⟩,l.hok.fresh (qv _),λy c h=>?_,λp t=>absurd (show p∈([]) from t) (by simp),l.hok.kept G,?_⟩
 .exact name_of_addr x.apart (PySem.mem_of_lookup C) (PySem.mem_of_lookup D)
 .rcases o with o|o
  .exact FW o
  .exact absurd rfl (S.nofree _ (PySem.mem_of_lookup o))
 .exact Nat.le_of_lt (x.above y c (PySem.mem_of_lookup h))
 .have U:i<vs.length:=by
   unfold start at D;grind
  have Q:vs[i]?=some v:=by
   unfold start at D;grind
  obtain⟨u,I,L⟩:=r.get Q
  have t:ps[i]?=some y:=by
   rw[<-S.pre,List.getElem?_take_of_lt (by lia)];exact C
  have B:ps.Nodup:=by rw[<-S.pre];exact S.nd.sublist (List.take_sublist _ _)
  refine⟨u,L,?_⟩;rcases S.par y (List.mem_of_getElem? t)with k|k
  .exact .inl ⟨k,FU B t I k⟩
  .obtain⟨c,e⟩:=FW  k
   refine .inr ⟨.inl k,c,e,?_⟩;have q:=x.cell y c e;rw[FV B t I (by show a.names.lookup y≠_;grind)]at q;exact q
 .exact l.hok.fresh (Nat.le_of_lt (x.above y c (PySem.mem_of_lookup h)))
 .unfold start
  show _=N.length;grind
theorem ky{K:W7}{T kV y R h I Y:Value}(X:K.lookup f=some ⟨Y,od,.func (W.fnOf name g i j c T kV y R Z h I),osl⟩)(G:W.codeIn K h g=true)(S:aD N ps c)(B:∀vs H Q E,sp vs H Q E->vs.length=ps.length)(m:∀(A:Around) (a:List Env) (s:Shared) (H:Hp) (vs:AN) (Q:VK) (E:XK),Room k (A.deeper (envOfC g c (~~~s) f h))->sp vs H Q E->
   ∃t,PSs (bV CX P w K L l N g c f h A a s H E) j t/\t { nx:=λ_ H'=>Q .non H',rt:=Q } (start N vs) H):
  FnOk P w K L l CX (k+1) f (W.fnOf name g i j c T kV y R Z h I) ps sp:=by
  refine⟨B,λA a s H M us vs Q E D C hb r z=>?_⟩;have O:=C.mod.kin.keeps λb o e=>(C.bs b o e).1
  refine codeAny_call_function D.depth (O _ _ X) rfl S.co S.gen rfl (W.codeRec_of O G) (hb _ _ _ _ (wpAny_newFunctionEnv_cells S.kind (λ⟨n,v⟩ U=>by
   rcases S.par n (List.of_mem_zip U).1 with q|q
   .exact .inl q
   .exact .inr ⟨q,PySem.W.cellsFrom_some _ _ _ (.inl q)⟩) λenv d s1 x=>?_))
  subst d;refine⟨(C.mod.nolimit.keeps λb o e=>(C.bs b o e).1).keeps x.toInCall.keep,codeAny_func ?_⟩;obtain⟨t,ht,hq⟩:=m A a s H vs Q E (D.deeper _) z;refine wy (ht [] s1 (start N vs) H _ (LM S D.hd C (B _ _ _ _ z) r x) hq) (λfl s' hs=>?_) λe s' hs=>hs
  have p:∀{σ':St}{H':Hp}{v:V}{u:Value},Inv (bV CX P w K L l N g c f h A a s H E) [] σ' H' s'->RelV v u->Q v H'->CE a P w H s Q u s':=
   λ{σ' H' v u} J F q=>⟨v,H',J.os,J.bare,J.base,J.hok,F,q⟩
  cases fl with
  | ret u=>
    obtain⟨v,σ',H',J,F,q⟩:=hs;exact p J F q
  | next=>
    obtain⟨σ',H',J,q⟩:=hs;exact p (v:=V.non)  J rfl q
  | brk=>
    obtain⟨_,_,_,q⟩:=hs;grind
  | cont=>
    obtain⟨_,_,_,q⟩:=hs;grind
section
variable {X:Cx}{x:Str}{p pos:Pos}{e:Expr}{es:AL}{t:TA}{id T:String}{r:AN->Hp->VK->Prop}
def oQ(r:AN->Hp->VK->Prop)(t:TA):TE:=λσ H Q=>t σ H λvs a=>r vs a Q
theorem jm(i:c6 X (.builtin id) r)(j:Gl X x)(v:X.mg x=none)(m:bootBuiltins x=some (.builtin id))(n:PA X (e::es) t)(l:x≠"__name__":=by decide)(b:b9 x:=by decide)(g:starEach (e::es) X.env=(false,eval e X.env)::starEach es X.env:=by rfl)(d:(backTo pos (starEach es X.env)).any (·.1)=false:=by rfl):PE X (.Call (.Name x p) (e::es) [] pos) (oQ r t):=by
 intro pins s σ H Q I h;refine wpAny_Call_Name_kw (gX I j v m (PyProof.Rows.callWith_builtin1 (aI (n pos pins s σ H _ I h) λus k c=>?_) g d) l b);obtain⟨vs,f,q,o,u⟩:=c;exact i pins k σ f vs us Q q o u
theorem hy(i:c6 X (.type T) r)(j:Gl X x)(v:X.mg x=none)(m:bootBuiltins x=some (.type T))(n:PA X (e::es) t)(l:x≠"__name__":=by decide)(b:b9 x:=by decide)(g:starEach (e::es) X.env=(false,eval e X.env)::starEach es X.env:=by rfl)(d:(backTo pos (starEach es X.env)).any (·.1)=false:=by rfl):PE X (.Call (.Name x p) (e::es) [] pos) (oQ r t):=by
 intro pins s σ H Q I h;refine wpAny_Call_Name_kw (gX I j v m (PyProof.Rows.callWith_type1 (aI (n pos pins s σ H _ I h) λus k c=>?_) g d) l b);obtain⟨vs,f,q,o,u⟩:=c;exact i pins k σ f vs us Q q o u
end
section
variable {κ:Type} [DecidableEq κ]
def cn(a:List (κ×V))(k:κ):Option V:=(a.find? λb=>decide (b.1=k)).map (·.2)
def du(a:List (κ×V))(k:κ)(v:V):List (κ×V):=
 if (a.any λb=>decide (b.1=k))=true then a.map (λb=>if b.1=k then (b.1,v)else b)else a++[(k,v)]
def vC{k:κ}(e:p.1=k):cn (p::r) k=some p.2:=by simp[cn,e]
def vD{k:κ}(e:¬p.1=k):cn (p::r) k=cn r k:=by simp[cn,e]
theorem LN(a:List (κ×V))(k:κ)(v:V):(du a k v).length<=a.length+1:=by
 unfold du;grind
def RelO.isSome_eq(r:RelO o u):o.isSome=u.isSome:=by
 cases o with
 | none=>cases u with
   | none=>rfl
   | some _=>exact( r).elim
 | some _=>cases u with
   | none=>exact( r).elim
   | some _=>rfl
def RelO.getD(r:RelO o u)(a:RelV d d'):RelV (o.getD d) (u.getD d'):=by
 cases o with
 | none=>cases u with
   | none=>exact a
   | some _=>exact( r).elim
 | some _=>cases u with
   | none=>exact( r).elim
   | some _=>exact r
theorem KV.val(r:KV a vs)(k:κ):RelO (cn a k) (valueAt vs k):=by
 induction r with
 | nil=>exact True.intro
 | @cons p q ps c h t i=>
   obtain⟨f,g⟩:=h;by_cases e:p.1=k
   .have d:=f.symm.trans e
    have b:valueAt (q::c) k=some q.2:=by simp[valueAt,d]
    rw[vC e,b];exact g
   .have d:¬q.1=k:=λz=>e (f.trans z)
    have b:valueAt (q::c) k=valueAt c k:=by simp[valueAt,d]
    rw[vD e,b];exact i
theorem KV.any(r:KV b vs)(k:κ):(b.any λa=>decide (a.1=k))=vs.any λa=>decide (a.1=k):=by
 induction r with
 | nil=>rfl
 | cons h t c=>grind
theorem KV.repl(r:KV b vs)(k:κ)(d:RelV y u):
 KV (b.map λa=>if a.1=k then (a.1,y)else a) (vs.map λa=>if a.1=k then (a.1,u)else a):=by
 induction r with
 | nil=>exact .nil
 | @cons p q ps e h t c=>
   refine .cons ?_ c;grind
def KV.put(r:KV a vs)(k:κ)(b:RelV y u):KV (du a k y) (stored vs k u):=by
 unfold du stored;rw[r.any k];by_cases e:(vs.any λc=>decide (c.1=k))=true
 .rw[if_pos e,if_pos e];exact r.repl k b
 .rw[if_neg e,if_neg e];exact Paired.snoc r ⟨rfl,b⟩
end
def kz(r:RelV (kV k) u):(y6 P w).is k u=true:=by
 cases k with
 | inl i=>obtain⟨t,e⟩:=( r);subst e;exact Li P w i t
 | inr x=>obtain⟨t,e⟩:=( r);subst e;exact Lj P w x t
theorem FX:∀{ks:List bD}{us:AD},Vals (ks.map kV) us->ItemsAre (y6 P w) ks us
 | [],_,r=>by cases r;exact .nil
 | k::ks,_,r=>by
   cases r with
   | cons h t=>exact .cons (kz h) (FX t)
abbrev KT(H:Hp):List (List bD×V)->List (List bD×Addr×Value)->Prop:=Paired λp q=>p.1=q.1/\H q.2.1=some (.tup (p.1.map kV))/\RelV p.2 q.2.2
theorem KT.val(r:KT H a xs)(k:List bD):RelO (cn a k) ((atKey xs k).map (·.2)):=by
 induction r with
 | nil=>exact True.intro
 | @cons p q ps c h t i=>
   obtain⟨f,_,g⟩:=h;by_cases e:p.1=k
   .have d:=f.symm.trans e
    have b:atKey (q::c) k=some q.2:=by simp[atKey,d]
    rw[vC e,b];exact g
   .have d:¬q.1=k:=λz=>e (f.trans z)
    have b:atKey (q::c) k=atKey c k:=by simp[atKey,d]
    rw[vD e,b];exact i
section
variable {P:P7}{w:World}{H:Hp}{h:Heap}{a:Addr}
def kA(b:HOk P w H h)(e:Rd H a u):ObjOk P w H h a u:=e.ok b
def jn(c:HOk P w H h)(e:Rd H a (.dK b)):b.length<=sizeLine/\(a==sysModules)=false/\∃vs,KV b vs/\h.DictOf (y6 P w) a vs:=
 kA c e
def vE(c:HOk P w H h)(e:H a=some (.dK b)):b.length<=sizeLine/\(a==sysModules)=false/\∃vs,KV b vs/\h.DictOf (y6 P w) a vs:=jn c (.inl e)
theorem oR(f:HOk P w H h)(e:H a=some (.tup (ks.map kV))):(tupleKind (y6 P w)).is h ks a:=by
 obtain⟨_,its,r,o,b,d,n,c⟩:=( f a _ e)
 exact⟨o,its.toArray,n,b,d,c,by simpa using FX r⟩
theorem kB(d:HOk P w H h)(e:Rd H a (.dT b)):b.length<=sizeLine/\(a==sysModules)=false/\
 ∃xs,KT H b xs/\h.DictOfH (tupleKind (y6 P w)) a xs:=by
 obtain⟨z,y,xs,r,o,s,i,k,n,u,j,f⟩:=( kA d e)
 refine⟨z,y,xs,r,o,s,i,k,n,u,j,λx c=>?_,f⟩
 have g:∀{l:List (List bD×V)}{m:List (List bD×Addr×Value)},KT H l m->∀x∈m,(tupleKind (y6 P w)).is h x.1 x.2.1:=by
  intro l m q
  induction q with
  | nil=>grind
  | @cons p q ps B A t v=>
    intro x c;rcases qu c with e|c
    .exact oR d (by grind)
    grind
 grind
end
def DGet(H:Hp)(a:Addr)(y:V)(r:Option V):Prop:=
 (∃c k,Rd H a (.dK c)/\y=kV k/\r=cn c k)\/∃c k b,Rd H a (.dT c)/\y=.ref b/\H b=some (.tup (k.map kV))/\r=cn c k
def DGet.k{k:bD}(e:H a=some (.dK b)):DGet H a (kV k) (cn b k):=.inl ⟨b,k,.inl e,rfl,rfl⟩
section
variable {X:Cx}{pins:AC}{σ:St}{H:Hp}{s:Shared}{a:Addr}{y v:V}{u r:Value}{o:Option V}{A:Around}{E:AB}
theorem Inv.big(I:Inv X pins σ H s):sysModules< ~~~s:=by
 exact Nat.lt_trans (by decide) ((I.mod.glob.keeps I.bk).lt)
theorem LO(w:A.units+1<cLine)(I:Inv X pins σ H s)(g:DGet H a y (some v))(t:RelV y u)(h:∀f s',Inv X pins σ H s'->RelV v f->Q f s'):
 wpAny (mZ X.prog X.w) A (getItem (.ref a) u) Q E s:=by
 rcases g with⟨n,k,e,j,l⟩|⟨n,k,b,e,j,C,l⟩
 .subst j
  obtain⟨z,x,vs,d,i⟩:=jn I.hok e;obtain⟨f,m,c⟩:=RelO.some_of   (by rw[l];exact d.val k);exact wpAny_getItem_of (kz t) i.mapOf m (h f _ (I.tok _) c)
 .subst j
  cases ( t);obtain⟨z,x,xs,d,i⟩:=kB I.hok e;obtain⟨f,m,c⟩:=RelO.some_of   (by rw[l];exact d.val k);obtain⟨p,B,q⟩:=qc m;refine wpAny_getItem_heap (tupleKind_room_in1 w) (oR I.hok C) i B ?_;rw[q];exact h f _ (I.tok _) c
def vF(n:A.units+1<cLine)(I:Inv X pins σ H s)(g:DGet H a y o)(m:RelV y u)(h:∀s',Inv X pins σ H s'->Q (.bool (!o.isSome)) s'):
 wpAny (mZ X.prog X.w) A (compareOp .NotIn u (.ref a)) Q E s:=by
 rcases g with⟨d,k,e,j,l⟩|⟨d,k,b,e,j,p,l⟩
 .subst j
  obtain⟨z,i,vs,c,f⟩:=jn I.hok e;refine wpAny_notIn_of (kz m) i f.mapOf ?_;rw[<-(c.val k).isSome_eq,<-l];exact h _ (I.tok _)
 .subst j
  cases ( m);obtain⟨z,i,xs,c,f⟩:=kB I.hok e;refine wpAny_notIn_heap (tupleKind_room_in1 n) (oR I.hok p) i f ?_;have q:=(c.val k).isSome_eq;rw[Option.isSome_map]at q;rw[<-q,<-l];exact h _ (I.tok _)
def vG(z:b.length<=sizeLine)(d:(a==sysModules)=false)(c:KV b vs)(e:h'.DictOf (y6 P w) a vs):
 ObjOk P w H' h' a (.dK b):=⟨z,d,vs,c,e⟩
end
def kC(i:Expr):Prop:=∀a b,subscripted i false a b=operate [a,b] (getItem a b)
theorem vH{T id:String}(m:typeLookup (.type T) "__getitem__"=pure (some (.builtin id)))(hs:kC a)(h:wpAny (mZ prog w) A (eval c env) (λo e=>wpAny (mZ prog w) A (eval a env) (λi b=>b.TypeIs o T/\wpAny (mZ prog w) A (getItem o i) Q E b) E e) E s):
 wpAny (mZ prog w) A (eval (.Subscript c a l) env) Q E s:=by
 refine Subscript_ (wy h (λo e k=>wy k (λi b d=>?_) λ_ _ x=>x) λ_ _ x=>x);obtain⟨n,d⟩:=d;refine wa (wa (wpAny_specialOf n m ?_))
 have g:wpAny (mZ prog w) A (subscripted a false o i) (λr f=>wpAny (mZ prog w) A (letTemporaryGo c o r>>=λ_=>pure r) Q E f) E b:=by
  rw[hs o i];exact wpAny_operating (wy d (λr f j=>wa (wpAny_letTemporaryGo (wc j))) λ_ _ x=>x)
 first
  | exact wc (wa g)
  | exact wa (wc (wa g))
  | exact wa g
def LP{σ:St}(I:Inv X pins σ H s)(g:DGet H a y o):s.TypeIs (.ref a) "dict":=by
 rcases g with⟨c,k,e,_,_⟩|⟨c,k,b,e,_,_,_⟩
 .obtain⟨_,_,vs,_,d⟩:=jn I.hok e
  exact d.typeIs
 .obtain⟨_,_,xs,_,d⟩:=kB I.hok e
  exact d.typeIs
def kE:List (TE×TE)->St->Hp->(List (V×V)->Hp->Prop)->Prop
 | [],_,H,Q=>Q [] H
 | (tk,a)::r,σ,H,Q=>tk σ H λx c=>a σ c λy b=>kE r σ b λps d=>Q ((x,y)::ps) d
abbrev VV:List (V×V)->List (Value×Value)->Prop:=Paired λp q=>RelV p.1 q.1/\RelV p.2 q.2
def LQ(X:Cx)(c:Pos)(b:List (Option Expr))(a:AL)(d:List (TE×TE)):Prop:=
 ∀(pins:AC) (s:Shared) (σ:St) (H:Hp) (Q:List (V×V)->Hp->Prop),Inv X pins σ H s->kE d σ H Q->
  wpAny (mZ X.prog X.w) X.A (evalPairs (pairTrees b a X.env c)) (λvs s'=>∃ps H',Inv X pins σ H' s'/\VV ps vs/\Q ps H') X.xe s
structure M1(X:Cx)(o:Expr)(m:Str)(apos:Pos)(e:Expr)(cpos:Pos):Prop where
 base:attributeBase o m X.env (eval o X.env)=eval o X.env
 few:((backTo cpos (starEach [e] X.env)).all (λx=>!x.1)&&(backToKw cpos (keywordEach [] X.env)).all (λx=>x.1.isSome)
  &&decide (([e]:AL).length+([]:List Keyword).length+(if ([]:List Keyword).isEmpty then 0 else 1)<30))=true
 line:(apos.endLine==cpos.line)=true
 trees:backTo cpos (starEach [e] X.env)=[(false,eval e X.env)]
structure M2(X:Cx)(o:Expr)(m:Str)(apos:Pos)(e f:Expr)(cpos:Pos):Prop where
 base:attributeBase o m X.env (eval o X.env)=eval o X.env
 few:((backTo cpos (starEach [e,f] X.env)).all (λx=>!x.1)&&(backToKw cpos (keywordEach [] X.env)).all (λx=>x.1.isSome)
  &&decide (([e,f]:AL).length+([]:List Keyword).length+(if ([]:List Keyword).isEmpty then 0 else 1)<30))=true
 line:(apos.endLine==cpos.line)=true
 trees:backTo cpos (starEach [e,f] X.env)=[(false,eval e X.env),(false,eval f X.env)]
def FY(H:Hp)(a:Addr):Prop:=(∃b,Rd H a (.dK b))\/∃b,Rd H a (.dT b)
def vI{σ:St}(I:Inv X pins σ H s)(d:FY H a):
 s.TypeIs (.ref a) "dict"/\(∀b,Value.ref a=.ref b->∃c,s.heap.get? b=some c/\c.dict=none)/\(a==sysModules)=false:=by
 rcases d with⟨i,e⟩|⟨i,e⟩
 .obtain⟨_,g,vs,_,f⟩:=jn I.hok e
  refine⟨f.typeIs,λb q=>?_,g⟩;cases q;obtain⟨c,_,_,h,j,_⟩:=f;exact⟨c,h,j.2.1⟩
 .obtain⟨_,g,xs,_,f⟩:=kB I.hok e
  refine⟨f.typeIs,λb q=>?_,g⟩;cases q;obtain⟨c,_,_,h,j,_⟩:=f;exact⟨c,h,j.2.1⟩
section
variable {X:Cx}{pins:AC}{σ:St}{H:Hp}{s:Shared}{a:Addr}{y d:V}{u r:Value}{o:Option V}{A:Around}{E:AB}
def vJ(w:A.units+1<cLine)(I:Inv X pins σ H s)(g:DGet H a y o)(q:RelV y u)(p:RelV d r)(h:∀t s',Inv X pins σ H s'->RelV (o.getD d) t->Q t s'):
 wpAny (mZ X.prog X.w) A (call (.builtin "dict.get") [.ref a,u,r]) Q E s:=by
 rcases g with⟨n,k,e,m,l⟩|⟨n,k,b,e,m,v,l⟩
 .subst m
  obtain⟨z,j,vs,f,i⟩:=jn I.hok e;refine call_meetsIn PySem.F.slot_dict_get i.typeIs PySem.F.entry_dict_get (PySem.F.args_dict_get_3 _ _ _) (meets_dict_get_default (y6 X.prog X.w) a (kz q) j r) ⟨_,i.mapOf,h _ _ (I.tok _) ?_⟩;rw[l];exact(f.val k).getD p
 .subst m
  cases ( q);obtain⟨z,j,xs,f,i⟩:=kB I.hok e;refine call_meetsIn PySem.F.slot_dict_get i.typeIs PySem.F.entry_dict_get (PySem.F.args_dict_get_3 _ _ _) (meetsH_dict_get_default (tupleKind (y6 X.prog X.w)) a b j r) ⟨tupleKind_room_in1 w,k,xs,oR I.hok v,i,h _ _ (I.tok _) ?_⟩;rw[l];exact(f.val k).getD p
end
def vK(f e d:TE):TE:=λσ H Q=>f σ H λx c=>∃a,x=.ref a/\FY c a/\e σ c λy g=>d σ g λz b=>∃o,DGet b a y o/\Q (o.getD z) b
section
variable {X:Cx}{o e f:Expr}{apos cpos:Pos}{td ty tx:TE}
def LR(w:X.A.units+1<cLine)(A:PE X o td)(r:PE X e ty)(G:PE X f tx)(m:M2 X o "get" apos e f cpos):PE X (.Call (.Attribute o "get" apos) [e,f] [] cpos) (vK td ty tx):=by
 intro pins s σ H Q I h;refine wpAny_Call_method m.base m.few m.line PySem.F.plainAttrs_dict PySem.F.slot_dict_get PySem.F.type_dict_get (aI (A pins s σ H _ I h) λu v c=>?_);obtain⟨x,B,k,L,a,q,d,C⟩:=c;subst q;obtain rfl:=L;obtain⟨K,D,_⟩:=vI k d;refine⟨K,D,?_⟩;rw[m.trees];refine Calls.callWith_builtin rfl (Calls.evalArgs_plain (Calls.spliced_cons (aI (r pins v σ B _ k C) λP t c=>?_)));obtain⟨y,J,n,l,N⟩:=c;refine Calls.spliced_cons (aI (G pins t σ J _ n N) λV S c=>?_);obtain⟨z,E,p,O,U,g,F⟩:=c;exact Calls.spliced_nil (vJ w p g l O λR T M j=>⟨_,E,M,j,F⟩)
end
end L2
namespace HT
open PySem PyProof.Rows
section
variable {prog:P7}{w:World}{A:Around}{E:AB}{s:Shared}
def sIx(n d:Nat):Option Int->Nat
 | none=>d
 | some v=>if v<0 then (v+n).toNat else min v.toNat n
def sIx_none(n d:Nat):sIx n d none=d:=rfl
theorem sIx_nat(n d k:Nat):sIx n d (some (k:Int))=min k n:=by
 show(if k<0 then (k+(n:Int)).toNat else min (k:Int).toNat n)=min k n;grind
end
end HT
namespace L2
open PySem PySem.Spec PyProof.Rows
abbrev TO:=St->Hp->(Option Int->Hp->Prop)->Prop
def PO(X:Cx)(e:Option Expr)(t:TO):Prop:=
 ∀(pins:AC) (s:Shared) (σ:St) (H:Hp) (Q:Option Int->Hp->Prop),Inv X pins σ H s->t σ H Q->
  wpAny (mZ X.prog X.w) X.A (evalPart e X.env) (λu s'=>∃o H',Inv X pins σ H' s'/\IsPart u o/\Q o H') X.xe s
def FZ:TO:=λ_ H Q=>Q none H
def kF(t:TE):TO:=λσ H Q=>t σ H λx a=>∃i,x=.int i/\Q (some i) a
theorem oS:∀{us:AD},Vals (ns.map V.int) us->IntsAre us ns:=by
 induction ns with
 | nil=>intro us r;cases r;exact .nil
 | cons n ns b=>
   intro us r
   cases r with
   | cons a c=>
     obtain⟨t,e⟩:=a;subst e;exact .cons n t (b c)
section
variable {X:Cx}{e:Expr}{te:TE}{lo hi:Option Expr}{tl th:TO}{pos p2:Pos}
def vL:PO X none FZ:=by
 intro pins s σ H Q I h;exact wc ⟨none,H,I,.none,h⟩
def vM(h:PE X e te):PO X (some e) (kF te):=by
 intro pins s σ H Q I f;refine aI (h pins s σ H _ I f) λu j a=>?_;obtain⟨x,g,c,b,d⟩:=a;obtain⟨i,rfl,q⟩:=d;obtain⟨t,rfl⟩:=b;exact⟨some i,g,c,.int i t,q⟩
def F0(X:Cx)(r:V->Option Int->Option Int->Hp->VK->Prop):Prop:=
 ∀(pins:AC) (s:Shared) (σ:St) (H:Hp) (x:V) (v b a:Value) (lo hi:Option Int) (c:Addr) (Q:VK),Inv X pins σ H s->RelV x v->s.heap.IsSliceOf c b a .none->IsPart b lo->IsPart a hi->r x lo hi H Q->
  ∃T id,typeLookup (.type T) "__getitem__"=pure (some (.builtin id))/\s.TypeIs v T/\wpAny (mZ X.prog X.w) X.A (getItem v (.ref c)) (EP X pins σ Q) X.xe s
def LS(r:V->Option Int->Option Int->Hp->VK->Prop)(te:TE)(tl th:TO):TE:=λσ H Q=>te σ H λx c=>tl σ c λl b=>th σ b λu a=>r x l u a Q
theorem LU(hr:F0 X r)(he:PE X e te)(hl:PO X lo tl)(hu:PO X hi th):PE X (.Subscript e (.Slice lo hi none p2) pos) (LS r te tl th):=by
 intro pins s σ H Q I h;refine Subscript_ (aI (he pins s σ H _ I h) λv s1 hx_=>?_);obtain⟨x,H1,I1,r1,q1⟩:=hx_;refine wpAny_Slice (aI (hl pins s1 σ H1 _ I1 q1) λvl s2 hx_=>?_);obtain⟨l,H2,I2,pl,q2⟩:=hx_;refine aI (hu pins s2 σ H2 _ I2 q2) λvu s3 hx_=>?_;obtain⟨u,H3,I3,pu,q3⟩:=hx_;rw[evalPart_none];refine wc ?_;have I4:Inv X pins σ H3 { s3 with heap:=s3.heap.push { cls:=.type "slice",data:=.fields #[vl,vu,.none] } }:=I3.kept (t':=s3.toks) λb ob q=>qe _ q;obtain⟨T,id,hT,ht,hg⟩:=hr pins { s3 with heap:=s3.heap.push { cls:=.type "slice",data:=.fields #[vl,vu,.none] } } σ H3 x v vl vu l u s3.heap.objs.size Q I4 r1 (Heap.IsSliceOf.new ..) pl pu q3;show wpAny (mZ X.prog X.w) X.A (subscriptTail e (.Slice lo hi none p2) v (.ref s3.heap.objs.size)) (EP X pins σ Q) X.xe { s3 with heap:=s3.heap.push { cls:=.type "slice",data:=.fields #[vl,vu,.none] } };exact tail_any (ops:=[.ref s3.heap.objs.size,v]) ht hT hg (by with_unfolding_all rfl)
def eK(xs:AN)(lo hi:Option Int):AN:=(xs.drop (HT.sIx xs.length 0 lo)).take (HT.sIx xs.length xs.length hi-HT.sIx xs.length 0 lo)
theorem LV(xs:AN)(lo hi:Option Int):(eK xs lo hi).length<=xs.length:=by
 unfold eK;grind
end
def hB(n:Nat)(i:Int):AM:=if 0<=i then (if i<n then some i.toNat else none)else if -n<=i then some (i+n).toNat else none
def bf{a:Type}(xs:List a)(i:Int):Option a:=(hB xs.length i).bind λj=>xs[j]?
theorem vN(h:hB n i=some j):seqIndex? i n=some j/\j<n/\-(n:Int)<=i/\i<n:=by
 unfold hB at h;by_cases h0:0<=i
 .rw[if_pos h0]at h
  by_cases a:i<n
  .rw[if_pos a]at h
   have e:=wz h;exact⟨by rw[seqIndex_of h0 a,e],by lia,by lia,a⟩
  grind
 .rw[if_neg h0]at h
  by_cases a:-n<=i
  .rw[if_pos a]at h
   have e:=wz h;exact⟨by rw[seqIndex_neg (by lia) a,e],by lia,a,by lia⟩
  grind
theorem vO(h:bf xs i=some v):∃j,seqIndex? i xs.length=some j/\xs[j]?=some v/\j<xs.length/\-(xs.length:Int)<=i/\i<xs.length:=by
 unfold bf at h
 cases e:hB xs.length i with
 | none=>grind
 | some j=>
   obtain⟨a,d,c,b⟩:=vN e;grind
theorem oT{j:Nat}(h:xs[j]?=some v):bf xs (j:Int)=some v:=by
 have e:hB xs.length j=some j:=by
  unfold hB;grind
 unfold bf;grind
def oU(b:Expr):Prop:=∀o i,subscripted b false o i=operate [o,i] (getItem o i)
def IxR(X:Cx)(r:R2):Prop:=
 ∀(b a:Expr) (pins:AC) (s:Shared) (σ:St) (H:Hp) (x y:V) (v u:Value) (Q:VK),Inv X pins σ H s->RelV x v->RelV y u->r x y H Q->
  subscripted a false v u=operate [v,u] (getItem v u)->wpAny (mZ X.prog X.w) X.A (subscriptTail b a v u) (EP X pins σ Q) X.xe s
def F1(X:Cx)(id:String)(r:V->AN->Hp->VK->Prop):Prop:=
 ∀(pins:AC) (s:Shared) (σ:St) (H:Hp) (x:V) (xs:AN) (v:Value) (us:AD) (Q:VK),Inv X pins σ H s->RelV x v->Vals xs us->r x xs H Q->
  wpAny (mZ X.prog X.w) X.A (call (.builtin id) (v::us)) (EP X pins σ Q) X.xe s
section
variable {X:Cx}{a b:Expr}{ta tb:TE}{pos:Pos}
def IxR.or(h:IxR X r)(h':IxR X g):IxR X (λx y H Q=>r x y H Q\/g x y H Q):=by
 intro c d pins s σ H x y v u Q I f e q hs;rcases q with q|q
 .exact h c d pins s σ H x y v u Q I f e q hs
 .exact h' c d pins s σ H x y v u Q I f e q hs
def vP(f:IxR X r)(c:PE X a ta)(hb:PE X b tb)(hs:oU b):PE X (.Subscript a b pos) (gZ r ta tb):=by
 intro pins s σ H Q I h;exact Subscript_ (g6 c hb I h λv u g x y e i d j q=>f a b pins g σ e x y v u Q i d j q (hs _ _))
def kG(K:W7):R2:=λx y H Q=>∃p xs i v,x=.ref p/\y=.int i/\SqL K H p xs/\bf xs i=some v/\Q v H
def kH(K:W7):R2:=λx y H Q=>∃p xs i v,x=.ref p/\y=.int i/\SqT K H p xs/\bf xs i=some v/\Q v H
def kI:R2:=λx y H Q=>∃z i c,x=.str z/\y=.int i/\z.length<=sizeLine/\bf z.cps.toList i=some c/\Q (.str ⟨#[c]⟩) H
theorem ix_list:IxR X (kG X.K):=by
 intro e f pins s σ H x y v u Q I B k h hs;obtain⟨p,xs,i,z,rfl,rfl,l,m,q⟩:=h;cases B;obtain⟨t,rfl⟩:=k;obtain⟨its,r,pl,J⟩:=I.list l;obtain⟨j,g,n,E,o,C⟩:=vO m;obtain⟨w,F,d⟩:=r.get n;have G:=r.length;have D:=km
 have c:EP X pins σ Q w s:=⟨z,H,I,d,q⟩
 by_cases h0:0<=i
 .have A:i.toNat=j:=by
   rw[seqIndex_of h0 C]at g;grind
  exact item_listR pl.isList h0 (by lia) (by grind) c hs
 .have A:(i+its.toArray.size).toNat=j:=by
   rw[seqIndex_neg (by lia) o]at g;grind
  exact subscriptTail_builtinR  pl.isList.typeIs slot_list_getitem.lookup
   (wpAny_getItem_list_neg  pl.isList (by lia) (by grind) (by lia) (by grind) ⟨rfl,c⟩) hs
theorem ix_tup:IxR X (kH X.K):=by
 intro d c pins s σ H x y v u Q I k f h hs;obtain⟨p,xs,i,z,rfl,rfl,l,g,q⟩:=h;cases k;obtain⟨t,rfl⟩:=f;obtain⟨its,r,pl,C⟩:=I.tuple l;obtain⟨j,D,m,n,B,F⟩:=vO g;obtain⟨w,A,e⟩:=r.get m;have E:=r.length;have o:=km
 exact subscriptTail_builtinR  pl.typeIs slot_tuple_getitem.lookup
  (getItem_tuple (j:=j)  pl (by lia) (by lia) (by grind) (by grind) ⟨rfl,(⟨z,H,I,e,q⟩)⟩) hs
theorem vQ:IxR X kI:=by
 intro e d pins s σ H x y v u Q I g f h hs;obtain⟨z,i,c,rfl,rfl,n,k,q⟩:=h;obtain⟨t,rfl⟩:=g;obtain⟨t',rfl⟩:=f;obtain⟨j,r,p,l,o,A⟩:=vO k
 have w:z.cps.toList.length=z.length:=by simp[Str.length]
 have m:=km
 exact tail_any (typeIs_str s z t) slot_str_getitem.lookup (getItem_str  (by
  grind) (by grind) ⟨.str ⟨#[c]⟩,H,I.tok _,⟨_,rfl⟩,q⟩) hs
def F2(K:W7):R2:=λx y H Q=>kG K x y H Q\/kH K x y H Q\/kI x y H Q
def vR:IxR X (F2 X.K):=ix_list.or (ix_tup.or vQ)
theorem LW(lo d:Option Int)(n:Nat):(sliceBounds lo d none n).1=((HT.sIx n 0 lo:Nat):Int)/\(sliceBounds lo d none n).2.1=((HT.sIx n n d:Nat):Int)/\(sliceBounds lo d none n).2.2=1:=by
 refine⟨?_,?_,rfl⟩
 .cases lo with
  | none=>simp[sliceBounds,HT.sIx]
  | some i=>
    simp only[sliceBounds,HT.sIx];grind
 .cases d with
  | none=>simp[sliceBounds,HT.sIx]
  | some i=>
    simp only[sliceBounds,HT.sIx];grind
def LX(its:AD)(lo c:Option Int):slicePick its.toArray lo c none=((its.drop (HT.sIx its.length 0 lo)).take (HT.sIx its.length its.length c-HT.sIx its.length 0 lo)).toArray:=by
 obtain⟨f,g,e⟩:=LW lo c its.toArray.size;unfold slicePick;rw[f,g,e];simp only[sliceRange_one,pick_run]<;>rfl
def vS(K:W7):V->Option Int->Option Int->Hp->VK->Prop:=λx lo d H Q=>∃a xs,x=.ref a/\SqL K H a xs/\∀p,H p=none->Q (.ref p) (upd H p (.lst (eK xs lo d)))
theorem vT:F0 X (vS X.K):=by
 intro pins s σ H x v n o lo e m Q I i hs pl g h;obtain⟨a,xs,rfl,j,q⟩:=h;cases i;obtain⟨its,r,d,k⟩:=I.list j;have c:=r.length;refine⟨"list",_,slot_list_getitem.lookup,d.isList.typeIs,(wpAny_getItem_list_slice d.isList hs pl g .none (by simp) ?_ (by grind))⟩;rw[LX,<-c];refine⟨.ref (~~~s),_,I.laid   (λb l q=>qe _ q) (qv _) ?_,rfl,q _ (I.hok.fresh (qv _))⟩;exact⟨Qg (LV xs lo e) k,_,0,(r.drop (HT.sIx xs.length 0 lo)).take (HT.sIx xs.length xs.length e-HT.sIx xs.length 0 lo),qp _ rfl⟩
theorem LY:c6 X (.builtin "len") (λxs H Q=>∃p ys,xs=[.ref p]/\(SqL X.K H p ys\/SqT X.K H p ys)/\Q (.int ys.length) H):=by
 intro pins s σ H xs us Q I r h;obtain⟨p,ys,rfl,c,q⟩:=h;obtain⟨u,rfl,g⟩:=dM r;cases g;have j:=km;rcases c with c|c
 .obtain⟨its,e,pl,i⟩:=I.list c
  have d:=e.length;exact Calls.call_len_list pl.isList (by grind) ⟨.int ys.length,H,I.tok _,⟨s.toks+1,by grind⟩,q⟩
 .obtain⟨its,e,pl,i⟩:=I.tuple c
  have d:=e.length;exact len_tuple pl (by grind) ⟨.int ys.length,H,I.tok _,⟨s.toks+1,by grind⟩,q⟩
theorem LZ:c6 X (.type "list") (λxs H Q=>∃p ys,xs=[.ref p]/\(SqL X.K H p ys\/SqT X.K H p ys)/\∀l,H l=none->Q (.ref l) (upd H l (.lst ys))):=by
 intro pins s σ H xs us Q I r h;obtain⟨p,ys,rfl,f,q⟩:=h;obtain⟨u,rfl,x⟩:=dM r;cases x
 have j:∀(its:AD),Vals ys its->ys.length<=sizeLine->∀(h':Heap) (d:Nat),(∀b w,s.heap.get? b=some w->h'.get? b=some w)->
  h'.get? (~~~s)=some { cls:=.type "list",dict:=none,data:=.seq its.toArray d,slots:=#[] }->EP X pins σ Q (.ref (~~~s)) { s with heap:=h' }:=λits c g h' d i e=>
  ⟨.ref (~~~s),_,I.laid  i (qv _) (show ObjOk X.prog X.w _ h' _ (.lst ys) from⟨g,its,d,c,e⟩),rfl,q _ (I.hok.fresh (qv _))⟩
 rcases f with f|f
 .obtain⟨its,c,pl,g⟩:=I.list f
  have k:=c.length;obtain⟨o,m,v,n,t⟩:=pl.isList;exact call_list_seq p (.inl rfl) m v t (λh' d i e=>j its c g h' d i e) (by grind)
 .obtain⟨its,c,pl,g⟩:=I.tuple f
  have k:=c.length;obtain⟨o,m,v,n,t⟩:=pl;exact call_list_seq p (.inr rfl) m v t (λh' d i e=>j its c g h' d i e) (by grind)
theorem L0:c6 X (.type "tuple") (λxs H Q=>∃p ys,xs=[.ref p]/\((SqL X.K H p ys/\∀l,H l=none->Q (.ref l) (upd H l (.tup ys)))\/(SqT X.K H p ys/\Q (.ref p) H))):=by
 intro pins s σ H xs us Q I r h;obtain⟨p,ys,rfl,h⟩:=h;obtain⟨u,rfl,j⟩:=dM r;cases j;rcases h with⟨c,q⟩|⟨c,q⟩
 .obtain⟨its,d,pl,f⟩:=I.list c
  have g:=d.length;refine call_tuple_list pl.isList (λh' k=>?_) (by grind);have i:=I.kept (t':=s.toks) k;exact⟨.ref h'.objs.size,_,(i.laid (t':=s.toks) (λb o e=>qe _ e) (qv _) (show ObjOk X.prog X.w _ _ _ (.tup ys) from⟨f,its,d,IsTup.new _ _⟩)),rfl,q _ (i.hok.fresh (qv _))⟩
 .obtain⟨its,d,pl,f⟩:=I.tuple c
  exact call_tuple_same pl ⟨.ref p,H,I,rfl,q⟩
def vU(K:W7)(T:String)(x:V)(H:Hp):Prop:=match x with
 | .str _=>T="str"
 | .int _=>T="int"
 | .ref p=>(T="list"/\∃xs,SqL K H p xs)\/(T="tuple"/\∃o,K.lookup p=some o/\o.cls=.type "tuple"/\o.dict=none)\/
  (T="dict"/\((∃c,H p=some (.dK c))\/∃c,H p=some (.dT c)))\/(T="set"/\∃S n,H p=some (.set S n))
 | _=>False
theorem kJ{σ:St}(I:Inv X pins σ H s)(r:RelV x v)(g:vU X.K T x H):
 s.TypeIs v T/\∀a,v=.ref a->∃k,s.heap.get? a=some k/\k.dict=none:=by
 cases x with
 | str z=>
   obtain⟨t,rfl⟩:=r;cases ( g);exact⟨typeIs_str s z t,λ_ e=>nomatch e⟩
 | int i=>
   obtain⟨t,rfl⟩:=r;cases ( g);exact⟨typeIs_int s i t,λ_ e=>nomatch e⟩
 | ref p=>
   cases r;rcases g with⟨rfl,xs,l⟩|⟨rfl,o,d,m,j⟩|⟨rfl,d⟩|⟨rfl,S,n,d⟩
   .obtain⟨its,_,pl,_⟩:=I.list l
    refine⟨pl.isList.typeIs,λa e=>?_⟩;obtain⟨o,n,e,c,j,_⟩:=pl;grind
   .refine⟨⟨o,I.kIn p o d,m⟩,λa e=>?_⟩
    cases e;exact⟨o,I.kIn _ o d,j⟩
   .have z:∃o,s.heap.get? p=some o/\o.ExactDict:=by
     rcases d with⟨h,d⟩|⟨h,d⟩
     .obtain⟨_,_,_,_,o,_,_,e,f,_⟩:=I.hok p _ d
      grind
     .obtain⟨_,_,_,_,o,_,_,e,f,_⟩:=I.hok p _ d
      grind
    obtain⟨o,e,f⟩:=z;refine⟨⟨o,e,f.1⟩,λa e2=>?_⟩;cases e2;exact⟨o,e,f.2.1⟩
   .obtain⟨o,_,_,_,e,f,_⟩:=I.hok p _ d
    refine⟨⟨o,e,f.1⟩,λa e2=>?_⟩;cases e2;exact⟨o,e,f.2.1⟩
 | _=>exact False.elim g
def vV(K:W7)(T:String)(r:V->AN->Hp->VK->Prop)(e:TE):TE:=λσ H Q=>e σ H λx d=>vU K T x d/\r x [] d Q
def L1(K:W7)(T:String)(r:V->AN->Hp->VK->Prop)(e:TE)(t:TA):TE:=λσ H Q=>e σ H λx d=>vU K T x d/\t σ d λxs f=>r x xs f Q
variable {o e:Expr}{es:AL}{to:TE}{t:TA}{name:Str}{apos cpos:Pos}{T id:String}{r:V->AN->Hp->VK->Prop}
theorem vW(w:PlainAttrs T)(f:Slot T name id)(j:typeOf (.builtin id)=pure (.type "method_descriptor"))(B:F1 X id r)(A:PE X o to)(c:attributeBase o name X.env (eval o X.env)=eval o X.env:=by rfl)(d:(apos.endLine==cpos.line)=true:=by rfl):PE X (.Call (.Attribute o name apos) [] [] cpos) (vV X.K T r to):=by
 intro pins s σ H Q I h;refine wpAny_Call_method0_late c d (aI (A pins s σ H _ I h) λv p k=>?_);obtain⟨x,u,l,m,y,n⟩:=k;obtain⟨q,z⟩:=kJ l m y;exact⟨T,id,w,f,j,q,z,Calls.callWith_builtin rfl (PySem.evalArgs_none (B pins p σ u x [] v [] Q l m .nil n))⟩
theorem hE(u:PlainAttrs T)(i:Slot T name id)(l:typeOf (.builtin id)=pure (.type "method_descriptor"))(w:F1 X id r)(A:PE X o to)(F:PA X (e::es) t)(d:attributeBase o name X.env (eval o X.env)=eval o X.env:=by rfl)(j:((backTo cpos (starEach (e::es) X.env)).all (λx=>!x.1)&&(backToKw cpos (keywordEach [] X.env)).all (λx=>x.1.isSome)
  &&decide ((e::es).length+([]:List Keyword).length+(if ([]:List Keyword).isEmpty then 0 else 1)<30))=true:=by rfl)(c:(apos.endLine==cpos.line)=true:=by rfl)(hs:starEach (e::es) X.env=(false,eval e X.env)::starEach es X.env:=by rfl)(k:(backTo cpos (starEach es X.env)).any (·.1)=false:=by rfl):
 PE X (.Call (.Attribute o name apos) (e::es) [] cpos) (L1 X.K T r to t):=by
 intro pins s σ H Q I h;refine wpAny_Call_method_late d j c rfl (aI (A pins s σ H _ I h) λv E g=>?_);obtain⟨x,C,n,m,p,D⟩:=g;obtain⟨q,J⟩:=kJ n m p;refine⟨T,id,u,i,l,q,J,?_⟩;have hA:=F cpos pins E σ C _ n D;rw[hs]at hA ⊢;refine Calls.callWith_builtin (by grind) (Calls.evalArgs_plain (aI hA λus y g=>?_));obtain⟨vs,G,B,z,K⟩:=g;exact w pins y σ G x vs v us Q B m z K
end
def vX(X:Cx)(id:String)(r:V->AN->Hp->VK->Prop):Prop:=
 ∀(pins:AC) (s:Shared) (σ:St) (H:Hp) (x:V) (xs:AN) (v:Value) (us:AD) (Q:VK),Inv X pins σ H s->RelV x v->Vals xs us->r x xs H Q->
  wpAny (mZ X.prog X.w) X.A (call (.builtin id) (v::us)) (EP X pins σ Q) X.xe s
theorem Vals.one:∀{x:V}{us:AD},Vals [x] us->∃u,us=[u]/\RelV x u
 :=by
  intro x us h
  cases h with
  | cons r t=>
    cases t;grind
theorem Vals.zero:∀{us:AD},Vals [] us->us=[]
 | _,.nil=>rfl
theorem Vals.dropLast{xs:AN}{us:AD}(h:Vals xs us):Vals xs.dropLast us.dropLast:=by
 induction h with
 | nil=>exact .nil
 | cons r t a=>
   cases t with
   | nil=>exact .nil
   | cons q t'=>exact .cons r a
theorem L3{c:Type}(l:List c):l.eraseIdx (l.length-1)=l.dropLast:=by
 induction l with
 | nil=>rfl
 | cons a r d=>
   cases r with
   | nil=>rfl
   | cons b r=>
     have e:(a::b::r).length-1=((b::r).length-1)+1:=by
      have g:(a::b::r).length=r.length+2:=rfl;have f:(b::r).length=r.length+1:=rfl;lia
     rw[e,List.eraseIdx_cons_succ,d]
     all_goals rfl
section
variable {X:Cx}{pins:AC}{σ:St}{H:Hp}{s:Shared}{l b:Addr}{xs ys zs:AN}
theorem Inv.lset{its its':AD}(I:Inv X pins σ H s)(i:H l=some (.lst xs))(e:s.heap.get? l=some { cls:=.type "list",data:=.seq its.toArray n })(g:f its.toArray=its'.toArray)(c:Vals ys its')(d:ys.length<=sizeLine):
 Inv X pins σ (upd H l (.lst ys)) { s with heap:=s.heap.update l (Obj.mapSeq f),toks:=t' }:=by
 have q:=PySem.IsL.update e f;rw[g]at q;exact I.write   (by rw[i];exact trivial) (.inl rfl) (λj u hb h=>(Heap.get?_update_other s.heap (Obj.mapSeq f) (Ne.symm hb)).trans h) ⟨_,q⟩ (⟨d,its',_,c,q⟩)
def Inv.lnew(I:Inv X pins σ H s)(a:Vals ys its)(c:ys.length<=sizeLine):
 Inv X pins σ (upd H (~~~s) (.lst ys)) { s with heap:=s.heap.push { cls:=.type "list",data:=.seq its.toArray },toks:=t' }:=
 I.laid (λ_ _ q=>qe _ q) (qv _) ⟨c,its,0,a,qp _ rfl⟩
def Inv.fresh(I:Inv X pins σ H s):H (~~~s)=none:=I.hok.fresh (qv _)
def Inv.lstM(I:Inv X pins σ H s)(a:H l=some (.lst xs)):xs.length<=sizeLine/\∃(its:AD) (n:Nat),Vals xs its/\xs.length=its.length/\s.heap.get? l=some { cls:=.type "list",data:=.seq its.toArray n }:=by
 obtain⟨z,its,n,r,e⟩:=I.hok l _ a;exact⟨z,its,n,r,r.length,e⟩
theorem L4(h:n<=sizeLine):Builtin.List.listTooLong n=false:=by
 unfold Builtin.List.listTooLong;grind
def vY:V->AN->Hp->VK->Prop:=λx vs H Q=>∃l xs y,x=.ref l/\vs=[y]/\H l=some (.lst xs)/\xs.length<sizeLine/\Q .non (upd H l (.lst (xs++[y])))
theorem vZ:vX X "list.append" vY:=by
 intro pins s σ H x vs v us Q I g f h;obtain⟨l,xs,y,rfl,rfl,c,i,q⟩:=h;cases g;obtain⟨u,rfl,d⟩:=f.one;obtain⟨z,its,n,r,j,e⟩:=I.lstM c;refine call_meets F.slot_list_append ⟨_,e,rfl⟩ F.entry_list_append (F.args_list_append_2 _ _) (PySem.list_append l its.toArray n u (by grind)) ⟨e,(⟨.non,_,I.lset  c e (by simp) (r.append (.cons d .nil)) ?_,rfl,q⟩)⟩;grind
def v3:V->AN->Hp->VK->Prop:=λx vs H Q=>∃l xs y,x=.ref l/\vs=[]/\H l=some (.lst xs)/\xs[xs.length-1]?=some y/\Q y (upd H l (.lst xs.dropLast))
theorem v5:vX X "list.pop" v3:=by
 intro pins s σ H x vs v us Q I k m h;obtain⟨l,xs,y,rfl,rfl,f,o,q⟩:=h;cases k;have c:=m.zero;subst c;obtain⟨z,its,n,r,g,e⟩:=I.lstM f;obtain⟨u,i,j⟩:=r.get o
 have d:=by
  show its.toArray[its.length-1]?=some u;rw[<-Array.getElem?_toList,<-g];exact i
 refine call_meets F.slot_list_pop ⟨_,e,rfl⟩ F.entry_list_pop (F.args_list_pop_1 _) (MeetsSeq.list_pop_last l its.toArray n u d (by rw[qk];lia)) ⟨e,(⟨y,_,I.lset  f e ?_ r.dropLast ?_,j,q⟩)⟩
 .rw[qk,List.eraseIdxIfInBounds_toArray,L3]
 .rw[List.length_dropLast]
  lia
end
end L2
namespace Att
open PySem PySem.W PySem.Calls PyProof.Rows
theorem L5:∀(ns:AG) (vs:AD),WellAll P h vs (ns.map WData.int)->IntsAre vs ns:=by
 intro ns
 induction ns with
 | nil=>
   intro vs w;cases w;exact .nil
 | cons n ns c=>
   intro vs w
   cases w with
   | cons a b=>
     cases a;exact .cons _ _ (c _ b)
theorem L6{l:OpenLaw}(t:l.most=some n)(b:l.row.toRowW.claim.pre args=true)(g:WellAll P h e args):
 ∃a vs ns,e=[Value.ref a]/\args=[WData.list (ns.map WData.int)]/\h.get? a=some { cls:=.type "list",data:=.seq vs.toArray }/\IntsAre vs ns/\ns.length<=n:=by
 have s:l.pre.holds [] { args:=args }=true:=(pre_splitW b).2;obtain⟨d,r,rfl,p,o⟩:=hasAllW_cons ((pre_splitW b).1);obtain rfl:=hasAllW_nil o;obtain⟨xs,rfl,m⟩:=hasW_list p;obtain⟨ns,rfl⟩:=items_int m
 have f:ns.length<=n:=by
  have i:(WTm.not (.lt (.lit (.int n)) (.len (.arg 0)))).holds [] { args:=[.list (ns.map .int)] }=true:=by
   have i:=(holds_andW s).1;grind
  have u:=condW_of i (w_not (w_lt w_lit (w_len_list (w_arg rfl))));grind
 cases g with
 | cons q k=>
   cases k
   cases q with
   | list j c=>exact⟨_,_,ns,rfl,rfl,j,L5 ns _ c,f⟩
def L7(l:OpenLaw)(a:List WData):l.row.toRowW.claim.post a (.bool true) a=true:=
 postW_of
  (by first|rfl|decide|simp[WShape.arms])
  ( w_eq_bool (w_res rfl) w_lit) rfl
def attach_call{l:OpenLaw}(M:l.most=some n)(v:d.params.defaults=[])(call:∀(w:World) (c b:Shared) (p mb:AE) (h:Addr) (o:Obj) (y m e:Value) (a:Addr) (vs:AD) (ns:AG),
  Ground q loose [] XP w c p mb b.heap->YP w b.heap->
  b.heap.get? h=some o->o.data=.func (docDef d.name d.params d.body d.scope y m e)->b.heap.CodeRec m d.name->p d.name=some (.ref h)->
  b.heap.get? a=some { cls:=.type "list",data:=.seq vs.toArray }->IntsAre vs ns->ns.length<=n->b.gens=#[]->
  codeAny (mZ l.prog w) callerA (.call (.ref h) ⟨[.ref a],[]⟩) (λr s'=>r=.ok (.ret (.bool true))/\OldK b.heap s'.heap/\s'.os=b.os/\AllBare s'.gens) b):
 WalkO q loose XP YP l.row.toRowW d [] (λf vs=>PySem.call f vs):=by
 intro w c b p mb G Y h o y m e R Q E N u B t L C A P k z F s J;obtain rfl:=Dflts.none B v;obtain rfl:=Dflts.noKw B;obtain⟨a,vs,ns,rfl,rfl,j,g,i⟩:=L6 M k s;refine enter_call (codeAny_mono (call w c b p mb h o y m e a vs ns G Y E (fd_plain N) u t j g i L) λr s' K=>?_);obtain⟨rfl,H,I,D⟩:=K;exact⟨.inl ⟨.bool true,.bool true,[],rfl,λ_=>rfl,.bool true,L7 l _,λ_=>⟨List.Pairwise.nil,λ_ O=>(nomatch O)⟩⟩,H,I,D⟩
end Att
namespace L2
open PySem PySem.Spec PyProof.Rows
theorem oV:∀{vs:AD}{ns:AG},IntsAre vs ns->Vals (ns.map V.int) vs
 | _,_,.nil=>.nil
 | _,_,.cons n t h=>.cons ⟨t,rfl⟩ (oV h)
def hJ(H:Hp):Prop:=∀b,H b=none\/∃o xs,H b=some (.frz o (.lst xs))
theorem L8{K:W7}(T:K.In c.heap)(t:c.heap.Ns mainGlobals G)(hb:c.heap.Ns builtinsNs mb)(O:∀x:Str,x≠"__name__"->mb x=bootBuiltins x)(p:c.heap.NoLimit)(hg:c.gens=#[])(M:c.heap.get? a=some { cls:=.type "list",data:=.seq vs.toArray })(ua:IntsAre vs ns)(hl:ns.length<=sizeLine)(hr:Room k callerA)(F:∀g:Heap,K.In g->g.Ns mainGlobals G->FnOk P w K G g CX k U fd [x] sp)(l:∀(s:Shared) (u:Value),BindsTo s fd ⟨[u],[]⟩ [(x,u)])(I:∀H:Hp,hJ H->SqL K H a (ns.map V.int)->sp [.ref a] H (λv _=>v=.bl true) λ_ _ _=>False)(L:∀H e s',CX [] H c (λ_ _ _=>False) e s'->False):
 codeAny (mZ P w) callerA (.call (.ref U) ⟨[.ref a],[]⟩) (λr s'=>r=.ok (.ret (.bool true))/\OldK c.heap s'.heap/\s'.os=c.os/\AllBare s'.gens) c:=by
 have rv:=oV ua;have R:=ua.length
 have j:∀H,hJ H->SqL K H a (ns.map V.int)->HOk P w H c.heap->(∀b,H b≠none->b=a)->(H a≠none->K.lookup a=none)->
  codeAny (mZ P w) callerA (.call (.ref U) ⟨[.ref a],[]⟩) (λr s'=>r=.ok (.ret (.bool true))/\OldK c.heap s'.heap/\s'.os=c.os/\AllBare s'.gens) c:=by
  intro H S Y C hA hK;have f:∀{b:Addr}{o:Obj},c.heap.get? b=some o->H b=none->(dq c.heap H).get? b=some o:=λe n=>Ll e n
  have N:∀{b:Addr}{o:Obj}{E:Array DictEntry}{D:Nat},c.heap.get? b=some o->o.data=.dict E D->H b=none:=λ{b o E D} e d=>by
   grind
  have i:∀{b:Addr}{m:AE},c.heap.Ns b m->(dq c.heap H).Ns b m:=λ{b m} ⟨o,E,D,e,d,r⟩=>⟨o,E,D,f e (N e d),d,r⟩
  have B:=λb o e=>f (T b o e) (by
   grind)
  have hM:Mod K G (dq c.heap H):=⟨B,i t,⟨mb,i hb,O⟩,let ⟨mc,h1,h2⟩:=p;⟨mc,i h1,h2⟩⟩
  have Z:Env0 P w K G (dq c.heap H) callerA [] c H:=⟨rfl,hM,λb o e=>tJ e,Nat.le_of_eq (Lk _ _),trivial,λb hb=>absurd (show b∈([]) from hb) (by simp),C,.of_eq hg⟩
  refine codeAny_mono ((F _ B (i t)).run callerA [] c H ⟨[.ref a],[]⟩ [.ref a] [.ref a] _ _ hr Z (l c (.ref a)) (.cons rfl .nil) (I H S Y)) λr s' h=>?_
  cases r with
  | error e=>exact(L H e s' h).elim
  | ok fl=>
    cases fl with
    | next=>exact False.elim h
    | brk=>exact False.elim h
    | cont=>exact False.elim h
    | ret u=>
      obtain⟨v,H',os,A,Q,y,r',q⟩:=h;have q':=q;subst q';obtain rfl:=r';refine⟨rfl,OldK.of_keep λb o e=>?_,os,A⟩
      cases q:H b with
      | none=>exact Q.keep b o e q (by intro z;exact absurd (show b∈([]) from z) (by simp)) (by simp)
      | some u=>
        rcases S b with z|⟨ob,xs,z⟩
        .grind
        .have z2:=Q.frzs b ob _ z
         obtain⟨e1,_⟩:=C b _ z;obtain⟨e2,_⟩:=y b _ z2;grind
 cases J:K.lookup a with
 | some o=>
   have e:=T a o J;rw[M]at e;cases e;refine j (λ_=>none) (λ_=>.inl rfl) (.inr ⟨_,vs.toArray,_,J,rfl,rfl,rfl,by grind,by grind⟩) (λb u z=>by grind) (λb z=>absurd rfl z) λz=>absurd rfl z
 | none=>
   refine j (λb=>if b=a then some (.frz { cls:=.type "list",data:=.seq vs.toArray } (.lst (ns.map V.int)))else none) (λb=>?_) (.inl (.inr ⟨{ cls:=.type "list",data:=.seq vs.toArray },if_pos rfl⟩)) (λb u z=>?_) (λb z=>?_) λ_=>J
   .grind
   .by_cases hb:b=a
    .have z':=(if_pos hb).symm.trans z
     cases z';subst hb;exact⟨M,by grind,vs,_,rv,M⟩
    grind
   grind
def walk_of{l:W.OpenLaw}{K:Params->W7}{CX:World->fI}{sp:World->Sp}(S:l.most=some n)(A:n<=sizeLine)(t:d.params.defaults=[])(P:Room k callerA)(O:∀(w:World) (h:Heap),YP w h->(K w.params).In h)(F:∀(w:World) (j:AE) (r:Addr) (h:Heap),(K w.params).In h->h.Ns mainGlobals j->j d.name=some (.ref r)->
  ∃z:FuncData,(∀(s:Shared) (u:Value),BindsTo s z ⟨[u],[]⟩ [(x,u)])/\
   ∀c:Heap,(K w.params).In c->c.Ns mainGlobals j->FnOk l.prog w (K w.params) j c (CX w) k r z [x] (sp w))(C:∀(w:World) (H:Hp) (a:Addr) (ns:AG),ns.length<=n->hJ H->SqL (K w.params) H a (ns.map V.int)->sp w [.ref a] H (λv _=>v=.bl true) λ_ _ _=>False)(B:∀(w:World) (H:Hp) (s:Shared) (e:Value) (s':Shared),CX w [] H s (λ_ _ _=>False) e s'->False):
 W.WalkO q loose XP YP l.row.toRowW d [] (λf vs=>PySem.call f vs):=by
 refine Att.attach_call S t λw D m j mb r o U T J a vs ns G Y X L R y p i g I=>?_;have E:=O w _ Y;obtain⟨z,hb,M⟩:=F w j r _ E G.T.g y;exact L8 E G.T.g G.T.b G.T.builtins G.T.nolimit I p i (Qg g A) P M hb (λH Q N=>C w H a ns g Q N) λH e s'=>B w H m e s'
def inClass(s:Stmt)(j:Nat):Stmt:=match s with
 | .ClassDef _ _ _ a _ _ _ _ _ _ _=>a.getD j (.Pass ⟨0,0,0,0⟩)
 | _=>.Pass ⟨0,0,0,0⟩
def aDa(s:Stmt):Arguments:=match s with
 | .FunctionDef _ a _ _ _ _ _ _ _ _=>a
 | _=>{ posonlyargs:=[],args:=[],vararg:=none,kwonlyargs:=[],kw_defaults:=[],kwarg:=none,defaults:=[] }
def aCa(s:Stmt):List Stmt:=match s with
 | .FunctionDef _ _ b _ _ _ _ _ _ _=>b
 | _=>[]
def aAa(s:Stmt):Scope:=match s with
 | .FunctionDef _ _ _ _ _ _ a _ _ _=>a
 | _=>{ kind:=.function,names:=[],isGenerator:=false,isCoroutine:=false }
abbrev bW:fI:=λ_ _ _ _ _ _=>False
abbrev E0:XK:=λ_ _ _=>False
def gn:jl bW X E0:=λ_ _ _ _ _ _ _ h=>h.elim
structure Fun(K:W7)(x qual:Str)(st:Stmt)(f:Addr)(fd:FuncData):Prop where
 ex:∃(oc:Value) (od:Option Addr) (kV doc pm:Value) (an:Option Addr) (cdv ct:Value) (osl:Array (Option Value)),
  fd=W.fnOf x qual (aDa st) (aCa st) (aAa st) .none kV doc pm an cdv ct/\K.lookup f=some ⟨oc,od,.func fd,osl⟩/\W.codeIn K cdv qual=true
 kp:W.keepIn K (.ref f)=true
section
variable {P:P7}{w:World}{K:W7}{mg:AE}{base:Heap}
def Fun.ok{st:Stmt}(F:Fun K x c st f n)(S:aD N ps (aAa st))(g:∀vs H Q E,sp vs H Q E->vs.length=ps.length)(d:∀(b:Value) (A:Around) (a:List Env) (s:Shared) (H:Hp) (vs:AN) (Q:VK) (E:XK),Room k (A.deeper (envOfC c (aAa st) (~~~s) f b))->sp vs H Q E->
  ∃t,PSs (bV bW P w K mg base N c (aAa st) f b A a s H E).nox (aCa st) t/\t { nx:=λ_ H'=>Q .non H',rt:=Q } (start N vs) H):FnOk P w K mg base bW (k+1) f n ps sp:=by
 obtain⟨p,u,kV,j,v,r,b,y,m,rfl,l,i⟩:=F.ex;refine ky l i S g λA a s H vs Q E o e=>?_;obtain⟨t,h,q⟩:=d b A a s H vs Q E o e;exact⟨t,h.nox,q⟩
def Fun.binds{st:Stmt}(F:Fun K x c st f i)(h:∀(kV a e:Value) (g:Option Addr) (b d:Value) (us:AD),us.length=ps.length->bindArgs (W.fnOf x c (aDa st) (aCa st) (aAa st) .none kV a e g b d) ⟨us,[]⟩=pure (ps.zip us)):Binds K i ps []:=by
 obtain⟨n,m,kV,a,e,g,b,d,k,rfl,l,j⟩:=F.ex;exact .all (h kV a e g b d)
def kK{st:Stmt}{kV d h b g:Value}(l:K.lookup f=some ⟨j,m,.func (W.fnOf x a (aDa st) (aCa st) (aAa st) .none kV d h i b g),e⟩)(c:W.codeIn K b a=true)(k:W.keepIn K (.ref f)=true):Fun K x a st f (W.fnOf x a (aDa st) (aCa st) (aAa st) .none kV d h i b g):=⟨⟨j,m,kV,d,h,i,b,g,e,rfl,l,c⟩,k⟩
end
def hO{A B:Prop}(h:B):if false=true then A else B:=h
def hP{A B:Prop}(h:A):if true=true then A else B:=h
def Same(H H':Hp):Prop:=∀b o,H b=some o->H' b=some o
def Same.refl(H:Hp):Same H H:=λ_ _ h=>h
def Same.trans(a:Same H e)(b:Same e d):Same H d:=λc o h=>b c o (a c o h)
def Same.free(e:Same H H')(h:H' l=Option.none):H l=Option.none:=by
 cases q:H l with
 | none=>rfl
 | some o=>
   rw[e l o q]at h;cases h
def Same.seq{K:W7}(e:Same H H')(h:SqL K H a xs):SqL K H' a xs:=by
 rcases h with(h|⟨o,h⟩)|h
 .exact .inl (.inl (e _ _ h))
 .exact .inl (.inr ⟨o,e _ _ h⟩)
 .exact .inr h
def aR(env:Env):List (Str×NameKind)->List (Str×Addr)->List (Str×Addr)
 | [],cs=>cs
 | (n,k)::r,cs=>if (k==NameKind.free)=true then (match env.cells.lookup n with|some c=>aR env r ((n,c)::cs)|none=>aR env r cs)else aR env r cs
theorem F3(h:∀x∈a.names,x.2=NameKind.free->∃c,env.cells.lookup x.1=some c):closureFor a env=pure (aR env a.names []):=by
 have key:∀(l:List (Str×NameKind)) (cs:List (Str×Addr)),(∀x∈l,x.2=NameKind.free->∃c,env.cells.lookup x.1=some c)->
  (forIn l cs fun(x:Str×NameKind) r=>if (x.2==NameKind.free)=true then (do let c <-cellOf env x.1;pure (ForInStep.yield ((x.1,c)::r)))else pure (ForInStep.yield r))=(pure (aR env l cs)):=by
  intro l
  induction l with
  | nil=>intro cs _;rfl
  | cons x l g=>
    intro cs d;obtain⟨n,k⟩:=x;rw[List.forIn_cons];by_cases f:k=NameKind.free
    .subst f
     obtain⟨c,e⟩:=d (n,NameKind.free) qh rfl
     have e1:cellOf env n=pure c:=by unfold cellOf;rw[e]
     have b:(NameKind.free==NameKind.free)=true:=rfl;rw[if_pos b,e1,pure_bind];show _=pure (if (NameKind.free==NameKind.free)=true then (match env.cells.lookup n with|some c=>aR env l ((n,c)::cs)|none=>aR env l cs)else aR env l cs);grind
    .rw[if_neg (by grind)]
     show _=pure (if (k==NameKind.free)=true then (match env.cells.lookup n with|some c=>aR env l ((n,c)::cs)|none=>aR env l cs)else aR env l cs);grind
 unfold closureFor;grind
theorem oW:∀(l:List (Str×NameKind)) (cs:List (Str×Addr)),(∀x c,(x,c)∈cs->env.cells.lookup x=some c)->∀x c,(x,c)∈aR env l cs->env.cells.lookup x=some c
 | [],cs,h,x,c,e=>h x c e
 | (n,k)::r,cs,h,x,c,e=>by
   unfold aR at e
   split at e
   .split at e
    .refine oW r _ (λy b a=>?_) x c e
     grind
    .exact oW r cs h x c e
   .exact oW r cs h x c e
theorem oX:∀(l:List (Str×NameKind)) (cs:List (Str×Addr)) (p:Str×Addr),p∈cs->p∈aR env l cs
 | [],_,_,h=>h
 | (n,k)::r,cs,p,h=>by
   unfold aR
   split
   .split
    .exact oX r _ p (qg _ h)
    .exact oX r _ p h
   .exact oX r _ p h
theorem kL:∀(l:List (Str×NameKind)) (cs:List (Str×Addr)) (x:Str) (c:Addr),(x,NameKind.free)∈l->env.cells.lookup x=some c->(x,c)∈aR env l cs
 | (n,k)::r,cs,x,c,h,a=>by
   rcases qu h with q|q
   .cases q
    unfold aR;rw[a];exact oX r _ _ qh
   .unfold aR
    split
    .split
     .exact kL r _ x c q a
     .exact kL r _ x c q a
    .exact kL r _ x c q a
theorem F4{a:List (Str×Addr)}(h:(x,c)∈a):∃d,a.lookup x=some d:=by
 induction a with
 | nil=>cases h
 | cons p r f=>
   obtain⟨n,b⟩:=p;rw[List.lookup_cons]
   cases e:(x==n)with
   | true=>grind
   | false=>
     grind
structure aS(XN:AK)(xsc:Scope)(N:AK)(src:List AM)(sc:Scope):Prop where
 kind:sc.kind=.function
 xkind:xsc.kind=.function
 cellU:∀y∈sc.names,y.2=NameKind.cell->sc.names.lookup y.1=some NameKind.cell
 names:∀y∈sc.names,y.2=NameKind.local->sc.names.lookup y.1=some NameKind.local
 len:src.length=N.length
 nd:N.Nodup
 cap:∀(i j:Nat) (x:Str),N[i]?=some x->src[i]?=some (some j)->XN[j]?=some x/\sc.names.lookup x=some NameKind.free
 fr:∀y∈sc.names,y.2=NameKind.free->xsc.names.lookup y.1=some NameKind.cell\/xsc.names.lookup y.1=some NameKind.free
def dQ(b:AK)(a:Scope):AK->List AM->Bool
 | [],[]=>true
 | x::N,none::src=>dQ b a N src
 | x::N,some j::src=>decide (b[j]?=some x)&&decide (a.names.lookup x=some NameKind.free)&&dQ b a N src
 | _,_=>false
theorem v7:∀{N:AK}{src:List AM},dQ b a N src=true->src.length=N.length
 | [],[],_=>rfl
 | _::N,none::src,h=>by
   have:=v7 (N:=N)  h;simp[this]
 | _::N,some j::src,h=>by
   replace h:(decide (b[j]?=some _)&&decide (a.names.lookup _=some NameKind.free)&&dQ b a N src)=true:=h;simp  [Qe]at h;have:=v7   h.2;simp[this]
 | [],_::_,h=>Bool.noConfusion h
 | _::_,[],h=>Bool.noConfusion h
theorem v8:∀{N:AK}{src:List AM},dQ b a N src=true->∀(i j:Nat) (x:Str),N[i]?=some x->src[i]?=some (some j)->b[j]?=some x/\a.names.lookup x=some NameKind.free
 | [],[],_,i,j,x,h,_=>by simp at h
 | _::N,none::src,h,i,j,x,d,c=>by
   cases i with
   | zero=>simp at c
   | succ i=>exact v8 (N:=N)  h i j x (by grind) (by grind)
 | y::N,some k::src,h,i,j,x,d,c=>by
   replace h:(decide (b[k]?=some y)&&decide (a.names.lookup y=some NameKind.free)&&dQ b a N src)=true:=h;simp  [Qe]at h
   cases i with
   | zero=>
     grind
   | succ i=>exact v8   h.2 i j x (by grind) (by grind)
 | [],_::_,h,_,_,_,_,_=>Bool.noConfusion h
 | _::_,[],h,_,_,_,_,_=>Bool.noConfusion h
def kM(c:AK)(a:Scope)(N:AK)(src:List AM)(b:Scope):Bool:=
 decide (b.kind=.function)&&decide (a.kind=.function)&&b.names.all (λy=>decide (y.2=NameKind.cell->b.names.lookup y.1=some NameKind.cell))&&b.names.all (λy=>decide (y.2=NameKind.local->b.names.lookup y.1=some NameKind.local))&&
  decide N.Nodup&&dQ c b N src&&b.names.all (λy=>decide (y.2=NameKind.free->a.names.lookup y.1=some NameKind.cell\/a.names.lookup y.1=some NameKind.free))
def Ye(h:kM e a N src g=true):aS e a N src g:=by
 unfold kM at h;simp only[Qe,wh,List.all_eq_true]at h;obtain⟨⟨⟨⟨⟨⟨i,d⟩,k⟩,c⟩,j⟩,b⟩,f⟩:=h;exact⟨i,d,k,c,v7 b,j,v8 b,f⟩
abbrev b_(X:Cx)(a:Scope)(N:AK)(b:List (Str×Addr))(C:Addr)(c:List Addr)(s:Shared)(H:Hp):Cx where
 prog:=X.prog
 w:=X.w
 K:=X.K
 mg:=X.mg
 base:=X.base
 A:=X.A
 N:=N
 s₀:=s
 H₀:=H
 env:=compEnvC a b C X.env
 outer:=X.stack
 stack:=X.stack
 ex:=c
 fn:=λx=>a.names.lookup x==some NameKind.cell
 calm:=X.calm
 pn:=[]
 xe:=λ_ _=>False
def c_(src:List AM)(σ:St):St:=src.map λo=>o.bind λj=>(σ[j]?).join
def dv(X:Cx)(a:AL)(t:TT):Prop:=
 ∀(pins:AC) (s:Shared) (σ:St) (H:Hp) (Q:Bool->Hp->Prop),Inv X pins σ H s->t σ H Q->
  wpAny (mZ X.prog X.w) X.A (forIn a true λc r=>if r=true then do let b <-isTrue c X.env (eval c X.env);pure (ForInStep.yield b)else pure (ForInStep.yield r)) (TP X pins σ Q) X.xe s
def kN:TT:=λ_ H Q=>Q true H
def v9:dv X [] kN:=λ_ _ _ H _ I h=>wpAny_tests_nil ⟨H,I,h⟩
def v_(n:TI)(src:List AM)(g:TG)(q:TT)(l:TE):TE:=λσ H Q=>n σ H λJ f=>∀p,f p=none->
 ∃W:Nat->Nat->St->Hp->Prop,(∃m,W 0 m (c_ src σ) (upd f p (.lst [])))/\∀i m c e,W i m c e->
  (J.stop i e/\Q (.ref p) e)\/
  (J.go i e/\∀x h,J.yld i e x h->g x c h λa o=>q a o λb j=>if b=true then l a j λv k=>∃xs,k p=some (.lst xs)/\xs.length<sizeLine/\∃d,d<m/\W (i+1) d a (upd k p (.lst (xs++[v])))else ∃d,d<m/\W (i+1) d a j)
section
variable {prog:P7}{w:World}{A:Around}{R:Result->Shared->Prop}{s:Shared}{X:Cx}{elt tg iter:Expr}{ifs:AL}{scope:Scope}{pos:Pos}{wi:TI}{g:TG}{ti:TT}{te:TE}{N:AK}{src:List AM}
theorem L9(I:Nat->Shared->Prop)(u:∀n s,I n s->wpAny (mZ prog w) A (pyNext y) (λr a=>match r with
  | none=>R (.ok .next) a
  | some v=>wpAny (mZ prog w) A (letOwnedTupleGo b y v) (λ_ a=>wpAny (mZ prog w) A (assign b env v) (λ_ l=>
   wpAny (mZ prog w) A (forIn ifs true λc r=>if r=true then do let ok <-isTrue c env (eval c env);pure (ForInStep.yield ok)else pure (ForInStep.yield r)) (λok f=>
    if ok=true then wpAny (mZ prog w) A (eval elt env) (λx j=>
     wpAny (mZ prog w) A (call (.builtin "list.append") [t,x]) (λ_ k=>∃m,m<n/\I m k) (notedBy (mZ prog w) A env λe s'=>R (.error e) s') j) (notedBy (mZ prog w) A env λe s'=>R (.error e) s') f
    else ∃m,m<n/\I m f) (notedBy (mZ prog w) A env λe s'=>R (.error e) s') l) (notedBy (mZ prog w) A env λe s'=>R (.error e) s') a) (notedBy (mZ prog w) A env λe s'=>R (.error e) s') a) (notedBy (mZ prog w) A env λe s'=>R (.error e) s') s)(n:Nat)(h:I n s):
 codeAny (mZ prog w) A (.compLoop (.ListComp elt [⟨b,iter,ifs,0⟩] scope pos) 0 y t env) R s:=by
 refine codeAny_loop rfl I (λn s z=>?_) n h;show wpAny _ A ((compTurn (.ListComp elt [⟨b,iter,ifs,0⟩] scope pos) 0 y t env).onRaise (λx=>do noteFrame x env;theTreesLotGoes x)) _ _ s;refine wpAny_noted ?_;rw[compTurn_list];refine wa (wpAny_standAt (wa (wy (u n s z) (λr a d=>?_) λ_ _ h'=>h')))
 cases r with
 | none=>exact wc d
 | some v=>
   refine wa (wy d (λ_ a d=>(wa (wy d (λ_ l o=>wa (wy o (λok f i=>?_) λ_ _ h'=>h')) λ_ _ h'=>h'))) λ_ _ h'=>h')
   cases ok with
   | false=>exact wc ⟨rfl,i⟩
   | true=>
     exact wa (wa (wy i (λx j q=>wa (wy q (λ_ k p=>wc (wc ⟨rfl,p⟩)) λ_ _ h'=>h')) λ_ _ h'=>h'))
theorem L_(h:scope.names.lookup x=some NameKind.free)(a:env.kindOf x=some NameKind.cell\/env.kindOf x=some NameKind.free):
 (relabel scope env).names.lookup x=some NameKind.cell\/(relabel scope env).names.lookup x=some NameKind.free:=by
 unfold relabel;generalize scope.names=l at h
 induction l with
 | nil=>cases h
 | cons p r b=>
   grind
theorem Ma(h:(relabel scope env).names.lookup x=some NameKind.cell\/(relabel scope env).names.lookup x=some NameKind.free):
 (x,NameKind.free)∈scope.names\/(x,NameKind.cell)∈scope.names:=by
 unfold relabel at h
 revert h
 generalize scope.names=l
 induction l with
 | nil=>grind
 | cons p r a=>
   grind
theorem kO:∀(b:List (Str×NameKind)) (n:Nat) (a:List (Str×Addr)),cellsFrom n b a=cellsFrom n b []++a
 | [],_,_=>rfl
 | (x,k)::r,n,a=>by
   unfold cellsFrom
   split
   .rw[kO r (n+1) ((x,n)::a),kO r (n+1) [(x,n)],w6];rfl
   .exact kO r n a
theorem wA:∀(a:List (Str×NameKind)) (n:Nat) (x:Str) (c:Addr),(x,c)∈cellsFrom n a []->(x,NameKind.cell)∈a
 | [],_,_,_,h=>(nomatch h)
 | (y,k)::r,n,x,c,h=>by
   unfold cellsFrom at h
   split at h
   .rw[kO]at h
    rcases qw h with h|h
    .exact qg _ (wA r _ x c h)
    grind
   .exact qg _ (wA r n x c h)
theorem F5{a b:List (Str×Addr)}:(a++b).lookup x=(a.lookup x).or (b.lookup x):=by grind
theorem hU{a b:List (Str×Addr)}(h:(a++b).lookup x=some c):a.lookup x=some c\/(a.lookup x=none/\b.lookup x=some c):=by
 rw[F5]at h
 simp_all
theorem Mb(h:Q (newEnv scope (~~~s) a (cellsFrom (~~~s+1) scope.names []++i) c none .none (some b) f) { s with heap:=pushCells (s.heap.push { cls:=.type "dict",data:=.dict #[] }) scope.names }):
 wpAny M A (newFunctionEnv scope a i [] c none .none (some b) f) Q E s:=by
 refine wa (wpAny_alloc (wa (wpAny_layCells _ (λname e d=>by grind) _ _ _ _ ?_)));rw[ wv ..,kO];exact wa (wc (wc h))
theorem Mc{σ:St}(S:aS X.N X.env.scope N src scope)(I:Inv X pins σ H s)(M:∀b∈fp,ck X pins H b)(ho:∀b∈fp,∃o,s.heap.get? b=some o)(hn:n.Ns (~~~s) λ_=>none)(O:∀b o,s.heap.get? b=some o->n.get? b=some o)(t:CellsOk n (~~~s+1) f)(ow:∀x c,(x,c)∈f->(x,NameKind.cell)∈scope.names)(E:∀x,scope.names.lookup x=some NameKind.cell->∃c,f.lookup x=some c):
 Inv (b_ X scope N (f++aR X.env scope.names []) (~~~s) fp s H) [] (c_ src σ) H { s with heap:=n,toks:=tk }:=by
 have h:∀x c,(aR X.env scope.names []).lookup x=some c->X.env.cells.lookup x=some c:=λx c e=>oW scope.names [] (λ_ _ z=>nomatch z) x c (PySem.mem_of_lookup e)
 have clt:∀x c,(aR X.env scope.names []).lookup x=some c->c< ~~~s:=λx c e=>by
  obtain⟨v,q⟩:=I.cell x c (h x c e);exact q.lt
 have V:∀x c,f.lookup x=some c->(~~~s)<c:=λx c e=>(t.empty x c (PySem.mem_of_lookup e)).2
 have L:∀x,scope.names.lookup x=some NameKind.free->f.lookup x=none:=λx J=>by
  cases e:f.lookup x with
  | none=>rfl
  | some c=>
    have:=S.cellU _ (ow x c (PySem.mem_of_lookup e)) rfl;grind
 have T:∀b∈fp,b< ~~~s:=λb hb=>by
  obtain⟨o,e⟩:=ho b hb;exact ql e
 have U:∀b∈fp,b∉ey X.stack:=λb hb z=>by
  rcases qu (I.stkSub b z)with e|e
  .exact(M b hb).2.1 e
  .exact(M b hb).2.2.1 e
 refine⟨⟨I.ok.mod,S.kind,I.ok.glob,I.ok.blt,qv _,λx y c C k=>?_,λx J=>?_,λx c z e=>?_,I.ok.hd,I.ok.frames,.inl rfl,λb hb=>⟨qm (T b hb),λx c e=>?_⟩,
  I.bs,Qg I.ok.bsz I.sz,λb o e hb=>?_,U,I.stack,I.stkFree⟩,rfl,I.bare,Un.kept O,⟨_,hn,λi x v C k h3=>?_⟩,λx c e=>?_,I.fresh,λx c e=>?_,λp hp=>(nomatch hp),I.hok.kept O,?_⟩
 .rcases hU C with C|⟨_,C⟩
  .rcases hU k with k|⟨_,k⟩
   .exact name_of_addr t.apart (PySem.mem_of_lookup C) (PySem.mem_of_lookup k)
   grind
  .rcases hU k with k|⟨_,k⟩
   .grind
   .exact I.ok.inj x y c (h x c C) (h y c k)
 .show ∃c,(f++aR X.env scope.names []).lookup x=some c
  rw[F5]
  cases e:f.lookup x with
  | some c=>grind
  | none=>
    rcases Ma J with P|P
    .obtain⟨c,t⟩:=I.ok.has x (S.fr _ P rfl)
     exact F4 (kL scope.names [] x c P t)
    .obtain⟨c,t⟩:=E x (S.cellU _ P rfl)
     grind
 .have z':scope.names.lookup x=some NameKind.cell:=by simpa using z
  obtain⟨d,Y⟩:=E x z';rcases hU e with e|⟨e,_⟩
  .grind
  grind
 .rcases hU e with e|⟨_,e⟩
  .grind
  .exact(M b hb).2.2.2.2.1 x c (h x c e)
 .rcases(M b hb).2.2.2.1 with z|z
  .exact I.ok.noex b o e z
  .exact absurd (Qi (ql e) (Qg I.ok.bsz z)) (Nat.lt_irrefl _)
 .have hi:i<src.length:=by
   have:=(qo k).1;unfold c_ at this;grind
  have hs:src[i]?=some src[i]:=qr hi;unfold c_ at k;rw[Qm,hs]at k;have F:(src[i].bind λj=>(σ[j]?).join)=some v:=wz k;cases q:src[i]with
  | none=>grind
  | some j=>
    rw[q]at F hs;have W:(σ[j]?).join=some v:=F;obtain⟨J,D⟩:=S.cap i j x C hs;obtain⟨m,_,Z⟩:=I.loc;have G:X.env.kindOf x=some NameKind.cell\/X.env.kindOf x=some NameKind.free:=S.fr (x,NameKind.free) (PySem.mem_of_lookup D) rfl
    have Q:σ[j]?=some (some v):=by
     grind
    obtain⟨u,r,l⟩:=Z j x v J Q (.inr G);refine⟨u,r,.inr ⟨L_ D G,?_⟩⟩;rcases l with⟨z,_⟩|⟨_,c,t,B⟩
    .grind
    .obtain⟨d,Y⟩:=F4 (kL (env:=X.env) scope.names [] x c (PySem.mem_of_lookup D) t)
     have e2:=h x d Y;rw[t]at e2;cases e2;refine⟨c,?_,B.keeps O⟩;show(f++aR X.env scope.names []).lookup x=some c;grind
 .rcases hU e with e|⟨_,e⟩
  .exact⟨_,(t.empty x c (PySem.mem_of_lookup e)).1⟩
  .obtain⟨v,q⟩:=I.cell x c (h x c e)
   exact⟨v,q.keeps O⟩
 .rcases hU e with e|⟨_,e⟩
  .exact I.hok.fresh (Nat.le_of_lt (V x c e))
  .exact I.freeC x c (h x c e)
 .unfold c_
  rw[qf];exact S.len
def Md{σ c:St}(I:Inv X pins σ H s)(a:∀b∈d,ck X pins H b)(J:Inv (b_ X scope N f C d s H) e c H' s'):Inv X pins σ H' s':=
 I.call' J.os J.base J.hok J.bare λb hb=>⟨(a b hb).2.2.2.1,(a b hb).2.1,(a b hb).2.2.2.2.1,(a b hb).2.2.2.2.2⟩
theorem F6{σ:St}{Q:VK}{R:Value->Addr->Result->Shared->Prop}(S:aS X.N X.env.scope N src scope)(hc:X.calm=true)(hg:∀cl C k s H,PG (b_ X scope N cl C k s H) tg g)(hi:∀cl C k s H,dv (b_ X scope N cl C k s H) ifs ti)(he:∀cl C k s H,PE (b_ X scope N cl C k s H) elt te)(I:Inv X pins σ H s)(T:dt X.prog X.w X.K tg J k it tn)(st:tn 0 s.heap)(hf:∀b∈k,ck X pins H b)(h:∀p,H p=none->∃W:Nat->Nat->St->Hp->Prop,(∃m,W 0 m (c_ src σ) (upd H p (.lst [])))/\∀i m σ1 H2,W i m σ1 H2->
  (J.stop i H2/\Q (.ref p) H2)\/
  (J.go i H2/\∀x G,J.yld i H2 x G->g x σ1 G λP H4=>ti P H4 λb H5=>if b=true then te P H5 λv H6=>∃xs,H6 p=some (.lst xs)/\xs.length<sizeLine/\∃B,B<m/\W (i+1) B P (upd H6 p (.lst (xs++[v])))else ∃B,B<m/\W (i+1) B P H5))(hR:∀(D C:Addr) (s':Shared) (H':Hp) (m:AE),Inv X pins σ H' s'->s'.heap.Ns C m->H' C=none->C≠X.env.locals->X.s₀.heap.objs.size<=C->(∀x c,X.env.cells.lookup x=some c->c≠C)->(∀p∈X.pn++pins,p.1≠C)->Q (.ref D) H'->R (.ref D) C (.ok .next) s'):
 wpAny (mZ X.prog X.w) X.A (newList []) (λacc s₃=>wpAny (mZ X.prog X.w) X.A (newFunctionEnv scope X.env.globals (aR X.env scope.names []) [] X.env.qual none .none (some X.env)) (λV s₄=>
  codeAny (mZ X.prog X.w) X.A (.compStart (.ListComp elt [⟨tg,iter,ifs,0⟩] scope pos) 0 (.ref it) acc { V with scope:=relabel scope X.env }) (R acc V.locals) s₄) E s₃) E s:=by
 refine wf (Mb ?_);have hfree:H (~~~s)=none:=I.fresh;obtain⟨W,⟨m0,w0⟩,turn⟩:=h (~~~s) hfree;have I3:Inv X pins σ (upd H (~~~s) (.lst [])) { s with heap:=s.heap.push { cls:=.type "list",dict:=none,data:=.seq ([]:AD).toArray },toks:=s.toks }:=I.lnew (ys:=[]) (its:=[]) .nil (Qh _);generalize hD:(~~~s)=O at *;generalize hH3:upd H O (.lst [])=G at *;have kp0:∀b o,s.heap.get? b=some o->(s.heap.push { cls:=.type "list",dict:=none,data:=.seq ([]:AD).toArray }).get? b=some o:=λb o e=>qe _ e
 have lt0:∀b o,s.heap.get? b=some o->b≠O:=λb o e=>by rw[<-hD];exact qm (ql e)
 generalize hs3:s.heap.push { cls:=.type "list",dict:=none,data:=.seq ([]:AD).toArray }=a at *
 have f3:∀b∈k,ck X pins G b:=λb hb=>by
  obtain⟨o,e,_⟩:=T.obj _ _ st b hb;refine⟨?_,(hf b hb).2⟩;rw[<-hH3,Yi (lt0 b o e)];exact(hf b hb).1
 have ob3:∀b∈k,∃o,a.get? b=some o:=λb hb=>by
  obtain⟨o,e,_⟩:=T.obj _ _ st b hb;grind
 dsimp only;have L:(pushCells (a.push { cls:=.type "dict",data:=.dict #[] }) scope.names).Ns a.objs.size (λ_=>none):=(Heap.Ns.new a (.type "dict")).keeps (pushCells_keeps _ _);have old:∀b o,a.get? b=some o->(pushCells (a.push { cls:=.type "dict",data:=.dict #[] }) scope.names).get? b=some o:=λb o e=>pushCells_keeps _ _ b o (qe _ e);have cok:=cellsFrom_ok scope.names (a.push { cls:=.type "dict",data:=.dict #[] }) (a.objs.size+1) [] ⟨λ_ _ hm=>(nomatch hm),List.Pairwise.nil⟩ (by simp_all);rw[wv]at cok;have chas:∀x,scope.names.lookup x=some NameKind.cell->∃c,(cellsFrom (a.objs.size+1) scope.names []).lookup x=some c:=λx hx=>Option.isSome_iff_exists.mp (PySem.W.cellsFrom_some _ _ _ (.inl hx));have cmem:∀x c,(x,c)∈cellsFrom (a.objs.size+1) scope.names []->(x,NameKind.cell)∈scope.names:=λx c h=>wA _ _ x c h;generalize cellsFrom (a.objs.size+1) scope.names []=l,pushCells (a.push { cls:=.type "dict",data:=.dict #[] }) scope.names=U at *
 have I4:=
  Mc (s:={ s with heap:=a,toks:=s.toks }) (tk:=s.toks) S I3 f3 ob3 L old cok cmem chas
 have st4:tn 0 U:=T.keep _ _ _ st λb _ o e=>old b o (kp0 b o e);have hCl:a.objs.size≠X.env.locals:=Nat.ne_of_gt I3.lt
 have hCc:∀x c,X.env.cells.lookup x=some c->c≠a.objs.size:=λx c e=>by
  obtain⟨v,q⟩:=I3.cell x c e;exact qm q.lt
 have hCp:∀p∈X.pn++pins,p.1≠a.objs.size:=λp hp=>qm (ql (I3.pin p hp).1)
 have F:∀{H':Hp},(∀b∈k,H' b=none)->∀b∈k,ck (b_ X scope N (l++aR X.env scope.names []) a.objs.size k { s with heap:=a,toks:=s.toks } G) [] H' b:=λ{H'} hn b hb=>by
  obtain⟨e1,e2⟩:=I4.ok.exf b hb;exact⟨hn b hb,e1,I4.ok.exfs b hb,.inl hb,e2,λp hp=>nomatch hp⟩
 have Y:codeAny (mZ X.prog X.w) X.A (.compLoop (.ListComp elt [⟨tg,iter,ifs,0⟩] scope pos) 0 (.ref it) (.ref O) (compEnvC scope (l++aR X.env scope.names []) a.objs.size X.env)) (R (.ref O) a.objs.size) { s with heap:=U,toks:=s.toks }:=by
  refine L9 (λn s'=>∃i σ' H',Inv (b_ X scope N (l++aR X.env scope.names []) a.objs.size k { s with heap:=a,toks:=s.toks } G) [] σ' H' s'/\tn i s'.heap/\(∀b∈k,H' b=none)/\W i n σ' H') ?_ m0 ⟨0,_,G,I4,st4,λb hb=>(f3 b hb).1,w0⟩;rintro n s3 ⟨i,M,K,I3',st3,fr3,w3⟩;rcases turn i n M K w3 with⟨stop,qn⟩|⟨go,step⟩
  .refine aI (T.done (b_ X scope N (l++aR X.env scope.names []) a.objs.size k { s with heap:=a,toks:=s.toks } G) rfl rfl rfl hc i [] s3 M K _ I3' (F fr3) st3 stop) λr s4 j=>?_
   obtain⟨hr,I5⟩:=j;subst hr;obtain⟨m,hm,_⟩:=I5.loc;exact hR O a.objs.size s4 K m (Md I3 f3 I5) hm I5.free hCl (Qg I3.sz (qv _)) hCc hCp qn
  .refine aI (T.item (b_ X scope N (l++aR X.env scope.names []) a.objs.size k { s with heap:=a,toks:=s.toks } G) rfl rfl rfl hc i [] s3 M K _ I3' (F fr3) st3 go) λr s4 j=>?_
   obtain⟨u,hr,h4⟩:=j;subst hr;refine aI h4 λ_ s5 j=>?_;obtain⟨x,H5,I5,r5,y5,st5,fr5⟩:=j;have I5':=I5.pinned (F fr5) (T.obj _ _ st5);have un:∀{α:Type}{t:Sem α}{Q':α->Shared->Prop}{E':AB}{s':Shared},wpAny (mZ X.prog X.w) X.A t Q' (λ_ _=>False) s'->wpAny (mZ X.prog X.w) X.A t Q' E' s':=λh=>wy h (λ_ _ q=>q) λ_ _ f=>f.elim;refine un (aI (hg _ _ _ _ _ _ s5 M H5 x u _ I5' r5 (step x H5 y5)) λ_ s6 j=>?_);obtain⟨z,H6,I6,q6⟩:=j;refine un (aI (hi _ _ _ _ _ _ s6 z H6 _ I6 q6) λok s7 j=>?_);obtain⟨H7,I7,q7⟩:=j
   have again:∀{Z:Hp}{s8:Shared}{B:Nat},B<n->Inv (b_ X scope N (l++aR X.env scope.names []) a.objs.size k { s with heap:=a,toks:=s.toks } G) ([]++kf k s5.heap) z Z s8->W (i+1) B z Z->
    ∃m,m<n/\∃i σ' H',Inv (b_ X scope N (l++aR X.env scope.names []) a.objs.size k { s with heap:=a,toks:=s.toks } G) [] σ' H' s8/\tn i s8.heap/\(∀b∈k,H' b=none)/\W i m σ' H':=λ{Z s8 B} hm I8 w8=>by
    refine⟨B,hm,i+1,z,Z,I8.unpinned,T.keep _ _ _ st5 λb hb o e=>(I8.pin (b,o) (Qr _ (Qr _ (oJ hb e)))).1,λb hb=>?_,w8⟩;obtain⟨o,e,d⟩:=T.obj _ _ st5 b hb;exact(I8.pin (b,o) (Qr _ (Qr _ (oJ hb e)))).2.1
   cases ok with
   | false=>
     grind
   | true=>
     rw[if_pos rfl]at q7 ⊢;refine un (aI (he _ _ _ _ _ _ s7 z H7 _ I7 q7) λy s8 j=>?_);obtain⟨v,Z,I8,r8,q8⟩:=j;obtain⟨xs,e8,z8,B,hm,w8⟩:=q8;refine un (aI (vZ _ s8 z Z (.ref O) [v] (.ref O) [y] (λ_ H9=>H9=upd Z O (.lst (xs++[v]))) I8 rfl (.cons r8 .nil) ⟨O,xs,v,rfl,rfl,e8,z8,rfl⟩) λ_ s9 j=>?_);obtain⟨_,H9,I9,_,q9⟩:=j;grind
 exact codeAny_compStart_list Y (T.self _ _ _ _ _ st4 Y)
theorem wB(S:aS X.N X.env.scope N src scope)(M:X.calm=true)(l:PI X tg iter wi)(P:∀c C a s H,PG (b_ X scope N c C a s H) tg g)(t:∀c C a s H,dv (b_ X scope N c C a s H) ifs ti)(O:∀c C a s H,PE (b_ X scope N c C a s H) elt te)(hs:∀x,foldedSetIterable iter X.env x=pure x:=by intro _;rfl):PE X (.ListComp elt [⟨tg,iter,ifs,0⟩] scope pos) (v_ wi src g ti te):=by
 intro pins s σ H Q I h;refine wpAny_comprehension_free  rfl hs (F3 λy K F=>I.ok.has y.1 (S.fr y K F)) S.kind S.names (aI (l pins s σ H _ I h) λv Y r=>aI r λU W j=>?_);obtain⟨V,a,Z,J,H2,e,u,T,i,G,q⟩:=j;subst e
 exact F6   S M P t O u T i G q λD C s' H' m B p E k d n f z=>(⟨m,p,λh' L=>(⟨.ref D,H',B.turned  (λb o hb e=>(L.2 b hb).trans e) E k (.inr d) n f,rfl,z⟩)⟩)
theorem wC{M c:Pos}(S:aS X.N X.env.scope N src scope)(hc:X.calm=true)(u:PI X tg iter wi)(Z:∀f C d s H,PG (b_ X scope N f C d s H) tg g)(hi:∀f C d s H,dv (b_ X scope N f C d s H) ifs ti)(Q:∀f C d s H,PE (b_ X scope N f C d s H) elt te)(O:X.N.Nodup)(F:X.N[i]?=some y)(V:dJ X.env.scope y)(p:swapsWith (.ListComp elt [⟨tg,iter,ifs,0⟩] scope pos) (some (.Name y M)) c.line X.env=pure true)(G:X.fn y=true\/X.env.scope.names.lookup y=some .local:=by trivial)(hs:∀x,foldedSetIterable iter X.env x=pure x:=by intro _;rfl):PS X (.Assign [.Name y M] (.ListComp elt [⟨tg,iter,ifs,0⟩] scope pos) c) (eH (v_ wi src g ti te) (ji i)):=by
 intro pins s σ H D I h;rw[exec_Assign_Name_used _ _ _ _ p];refine wa (wpAny_standAt (wa (wa (wy (wpAny_comprehension_free   rfl hs (F3 λy F G=>I.ok.has y.1 (S.fr y F G)) S.kind S.names (aI (u pins s σ H _ I h) λv s1 h1=>aI h1 λitv s2 B=>?_)) (λ_ s' n=>wc (wc n)) λ_ _ e=>e))));obtain⟨it,d,tn,J,H2,e,I2,T,r,U,q⟩:=B;subst e
 refine F6 (Q:=λx H1=>ji i x σ H1 D.nx)  S hc Z hi Q I2 T r U q λDd C s' H' m Y hm P z j k E n=>(wpAny_assign_Name (Fy Y O F V (v:=.ref Dd) rfl (λs'' t K=>?_) G))
 obtain⟨a,W,ha⟩:=K
 have L:C≠a:=by
  grind
 exact⟨m,hm.sameBut W L,λh' l=>(⟨_,H',t.turned  (λb o hb e=>(l.2 b hb).trans e) P z (.inr j) k E,n⟩)⟩
end
end L2
namespace M
open PySem PySem.Spec PyProof.Rows L2
section
section
def bN(xs:Array Nat):Prop:=xs.toList.Pairwise (·<·)
theorem wD(f:bN xs)(j:Nat):∀(a lo b:Nat),lo<=b->b<=xs.size->b-lo<=a->
 (∀(i:Nat) (h:i<xs.size),i<lo->xs[i]<j)->(∀(i:Nat) (h:i<xs.size),b<=i->j<=xs[i])->
 SetTable.below.go xs j a lo b<=xs.size/\(∀(i:Nat) (h:i<xs.size),i<SetTable.below.go xs j a lo b->xs[i]<j)/\(∀(i:Nat) (h:i<xs.size),SetTable.below.go xs j a lo b<=i->j<=xs[i])
 | 0,lo,b,p,l,t,g,n=>by
   have e:lo=b:=by lia
   rw[SetTable.below.go];grind
 | a+1,lo,b,p,l,t,g,n=>by
   have m:∀(i k:Nat) (b:i<xs.size) (s:k<xs.size),i<k->xs[i]<xs[k]:=λi k b s h=>by
    have:=List.pairwise_iff_getElem.mp f i k (by grind) (by grind) h;grind
   rw[SetTable.below.go];by_cases r:lo<b
   .rw[if_pos r]
    have u:(lo+b)/2<xs.size:=by lia
    have q:xs.getD ((lo+b)/2) j=xs[(lo+b)/2]:=by simp_all
    dsimp only;rw[q];by_cases c:xs[(lo+b)/2]<j
    .rw[if_pos c]
     refine wD f j a _ _ (by lia) l (by lia) (λi d o=>?_) n;by_cases e:i=(lo+b)/2
     .grind
     grind
    .rw[if_neg c]
     refine wD f j a _ _ (by lia) (by lia) (by lia) g (λi d o=>?_);by_cases e:i=(lo+b)/2
     .subst e;lia
     grind
   grind
theorem F7(l:bN xs)(j:Nat):SetTable.below xs j<=xs.size/\(∀a∈xs.toList.take (SetTable.below xs j),a<j)/\(∀a∈xs.toList.drop (SetTable.below xs j),j<=a):=by
 obtain⟨k,f,g⟩:=wD l j xs.size 0 xs.size (Qh _) (qv _) (by lia) (λi _ h=>absurd h (Nat.not_lt_zero _)) (λi h h'=>absurd h (by lia));have e:SetTable.below xs j=SetTable.below.go xs j xs.size 0 xs.size:=rfl;refine⟨k,λa b=>?_,λa b=>?_⟩
 .obtain⟨i,d,rfl⟩:=List.mem_iff_getElem.mp b
  rw[List.length_take]at d
  have c:i<xs.size:=by lia
  rw[List.getElem_take];exact f i c (by lia)
 .obtain⟨i,d,rfl⟩:=List.mem_iff_getElem.mp b
  rw[List.length_drop]at d
  have hs:xs.toList.length=xs.size:=by simp
  rw[List.getElem_drop];exact g _ (by lia) (by lia)
theorem Yx(xs:Array a)(p:Nat)(x:a):(SetTable.insertAt xs p x).toList=xs.toList.take p++x::xs.toList.drop p:=by
 unfold SetTable.insertAt;simp[Array.toList_extract];exact List.take_of_length_le (by simp)
theorem F8(d:bN xs)(j:Nat)(e:xs[SetTable.below xs j]?≠some j):bN (SetTable.insertAt xs (SetTable.below xs j) j):=by
 obtain⟨n,k,f⟩:=F7 d j;unfold bN at d ⊢;rw[Yx];generalize q:SetTable.below xs j=p at n k f e ⊢;rw[<-Array.getElem?_toList]at e;generalize xs.toList=l at d k f e ⊢;rw[<-List.take_append_drop p l,List.pairwise_append]at d;obtain⟨o,h,s⟩:=d
 have m:∀a∈l.drop p,j<a:=by
  cases i:l.drop p with
  | nil=>grind
  | cons b r=>
    rw[i]at h f
    have hb:l[p]?=some b:=by
     have:(l.drop p)[0]?=some b:=by rw[i];rfl
     grind
    have c:=Nat.lt_of_le_of_ne (f b qh) (λz=>e (by rw[hb,z]));intro a g;rcases qu g with rfl|g
    .exact c
    .exact Nat.lt_trans c ((List.pairwise_cons.mp h).1 a g)
 rw[List.pairwise_append]
 simp_all
theorem F9{t:SetTable}(h:∀i,t.slot j≠.live i):t.place[SetTable.below t.place j]?≠some j:=λz=>by
 refine h (SetTable.below t.place j) ?_;unfold SetTable.slot;grind
theorem wG:∀(a:Nat) (p:SetTable.Probe) {j:Nat}{d:AM},(∀x,p.dummy=some x->∀i,t.slot x≠.live i)->
 SetTable.probe.go t g h a p=some (.empty j d)->∀i,t.slot (d.getD j)≠.live i
 | 0,p,j,d,_,e=>by cases e
 | a+1,p,j,d,f,e=>by
   rw[SetTable.probe.go]at e
   split at e
   .cases k:p.dummy with
    | none=>grind
    | some x=>grind
   .refine wG a _ (λx b i=>?_) e
    have c:x=p.j:=by
     unfold SetTable.advance at b;grind
    grind
   .split at e
    .cases e
    .refine wG a _ (λx b i=>f x ?_ i) e
     unfold SetTable.advance at b;grind
def Tab(a:Bool)(t:SetTable):Prop:=(a=false->t.led=true)/\(t.plain=true->bN t.place)
def Tab.standIn(h:Tab a t)(n:Nat):Tab a (t.standIn n):=⟨h.1,λz=>nomatch z⟩
def Tab.off(h:Tab a t):Tab a { t with plain:=false }:=⟨h.1,λz=>nomatch z⟩
def Tab.fresh:Tab a (.fresh 0 0 (!a)):=⟨λh=>by subst h;rfl,λ_=>.nil⟩
theorem Tab.layNew(h:Tab g t)(i:Array (Int×Value))(e:Int)(x:Value):Tab g (PySem.layNew t i e x).2.1:=by
 unfold PySem.layNew
 split
 .rename_i b l c
  dsimp only;unfold SetTable.orStandIn
  split
  .refine⟨h.1,λz=>(F8 (h.2 z) b (F9 ?_))⟩
   unfold SetTable.freeSlot at c
   split at c
   .rename_i j d k
    cases c;exact wG _ _ (λx f=>by simp[SetTable.probeStart]at f) k
   .cases c
  .exact⟨h.1,λz=>nomatch z⟩
 .exact h.standIn _
theorem wH{led plain:Bool}(h:SetTable.laid mask finger moves led plain hs=some (t,o)):bN t.place/\t.led=led/\t.plain=plain:=by
 obtain⟨owner,_,h⟩:=qa h;cases h;refine⟨?_,rfl,rfl⟩;rw[List.map_filterMap];refine List.Pairwise.filterMap _ (λa b c x e y d=>?_) List.pairwise_lt_range
 simp_all
theorem Tab.relayAll(h:Tab c t)(f:Array (Int×Value))(n:Nat):Tab c (PySem.relayAll t f n).2.1:=by
 unfold PySem.relayAll
 split
 .rename_i t' b e
  obtain⟨g,d,i⟩:=wH e;dsimp only
  split
  .exact⟨λz=>by rw[d];exact h.1 z,λ_=>g⟩
  .exact h.standIn _
 .exact h.standIn _
end
end
section
section
variable {prog:P7}{w:World}{A:Around}{E:AB}{s:Shared}
def cB(e:Int×Value):Int:=match e.2 with
 | .int n _=>n
 | _=>0
abbrev da(w:World):Bool:=w.params.followText "set-order"
def SetI(prog:P7)(w:World)(h:Heap)(a:Addr)(ns:AG):Prop:=
 ∃o b c t,h.get? a=some o/\o.ExactSet/\o.data=.set b c t/\ElemsOf (intKind prog w) b.toList/\b.toList.map cB=ns/\ns.Nodup/\b.size<scanBound/\t.fits b.size=true/\Tab (da w) t
def wI(h:(intKind prog w).is k e.2=true):cB e=k:=by
 obtain⟨t,a⟩:=Value.isInt_shape h;unfold cB;rw[a]
def jo(h:ElemsOf (intKind prog w) d)(b:e∈d):∃t,e=(hashInt (cB e),.int (cB e) t):=by
 obtain⟨⟨k,a,c⟩,_⟩:=h e b;obtain⟨t,f⟩:=Value.isInt_shape a;refine⟨t,?_⟩;rw[(wI a)];exact Prod.ext c f
def SetI.at(x:SetI prog w h a ns)(e:∀o,h.get? a=some o->h'.get? a=some o):SetI prog w h' a ns:=
 let ⟨o,c,d,t,b,r⟩:=x
 ⟨o,c,d,t,e o b,r⟩
theorem SetI.len(x:SetI prog w h a ns):ns.length<scanBound:=by
 obtain⟨o,g,i,t,f,b,j,d,e,c,hb,_⟩:=x;grind
theorem gq{h:Heap}(d:h.get? a=some o)(c:o.data=.set f e t)(b:Array (Int×Value))(t':SetTable):
 (h.update a (Obj.putSet b t')).get? a=some { o with data:=.set b (e+1) t' }:=by
 have:=ww (Obj.putSet b t') d (by rw[putSet_of b t' c];rfl);rw[putSet_of b t' c]at this;exact this
theorem F_{g:Bool->Sem Unit}(N:∀(b:Bool) (i:Shared) (F:Unit->Shared->Prop),F () i->wpAny (mZ prog w) A (g b) F E i)(G:s.heap.get? a=some o)(n:o.ExactSet)(H:o.data=.set P O t)(f:ElemsOf (intKind prog w) c.toList)(k:(c.toList.map cB).Perm J)(u:J.Nodup)(p:c.size<scanBound)(D:d.fits c.size=true)(v:Tab (da w) d)(h:∀h' x,Heap.SameBut a s.heap h'->SetI prog w h' a x->x.Perm J->R (some true) { s with heap:=h' }):
  wpAny (mZ prog w) A (do
   storeSet a c d
   if (!m&&d.tooFull)=true then do
       g (relayAll d c (SetTable.grown c.size)).2.2
       storeSet a (relayAll d c (SetTable.grown c.size)).1 (relayAll d c (SetTable.grown c.size)).2.1
       pure (some true)
    else pure (some true)) R E s:=by
  refine wa (wpAny_storeSet_of G H ?_ (fits_of_scanBound p));have l:=gq G H c d;have j:=wu s.heap a (Obj.putSet c d)
  split
  .have B:=relayAll_perm d c (SetTable.grown c.size)
   have q:=relayAll_fits d c (SetTable.grown c.size);have z:=v.relayAll c (SetTable.grown c.size);generalize M:relayAll d c (SetTable.grown c.size)=L at B q z ⊢;obtain⟨e,I,C⟩:=L
   have K:e.size=c.size:=by rw[<-qj,B.length_eq,qj]
   have r:e.size<scanBound:=by grind
   have y:=(B.map cB).trans k;exact wa (N _ _ _ (wa (wpAny_storeSet_of l rfl (wc (h _ _ (j.trans (wu _ a _)) ⟨_,e,_,I,(gq l rfl e I),n,rfl,(f.perm B),rfl,y.nodup_iff.mpr u,r,q,z⟩ y)) (fits_of_scanBound r))))
  .exact wc (h _ _ j ⟨_,c,_,d,l,n,rfl,f,rfl,k.nodup_iff.mpr u,p,D,v⟩ k)
theorem Ga(Z:SetI prog w s.heap a ns)(P:ns.length+1<scanBound)(h:∀h' f,Heap.SameBut a s.heap h'->SetI prog w h' a f->f.Perm (if k∈ns then ns else ns++[k])->Q (!decide (k∈ns)) { s with heap:=h' }):
 wpAny (mZ prog w) A (setAddHashed a (.int k u) (hashInt k)) Q E s:=by
 have R:=Z;obtain⟨o,F,ep,t,J,I,K,l,z,hnd,hb,X,ht⟩:=Z;have v:(intKind prog w).is k (.int k u)=true:=intKind_is _ _ _ _;have C:(Value.int k u).scannable=true:=rfl
 have hsz:F.size=ns.length:=by grind
 unfold setAddHashed setAddHashedIn;refine wd (wa (wg J K X ?_));dsimp only;rw[byScan_of C hb l];simp only[↓reduceIte];unfold setAddByScan;refine wa ?_;refine wa (wpAny_rule ?_);refine wa (wpAny_setScan_of (knd:=intKind prog w) (k:=k) v J K X l ?_)
 cases Y:List.findIdx? (λe=>(intKind prog w).is k e.2) F.toList with
 | some j=>
   dsimp only;obtain⟨hj,O,_⟩:=List.findIdx?_eq_some_iff_getElem.mp Y
   have M:k∈ns:=by
    rw[<-z,<-wI O];grind
   refine wc (wc ?_);have:=h s.heap ns (Heap.SameBut.refl a s.heap) R (by grind)
   simp_all
 | none=>
   dsimp only
   have M:k∉ns:=λM=>by
    rw[<-z]at M;obtain⟨e,W,N⟩:=qy M;have h1:=List.findIdx?_eq_none_iff.mp Y e W;obtain⟨t',T⟩:=jo l W;rw[T,N]at h1;have h2:(intKind prog w).is k (.int k t')=true:=intKind_is _ _ _ _;grind
   have S:∀(b:Bool) {g:Shared}{G:Unit->Shared->Prop},G () g->wpAny (mZ prog w) A (match b with|true=>rule "set.scan.the-table-gave-way" | false=>pure ()) G E g:=
    λb g G r=>by cases b<;>first|exact wc r|exact wpAny_rule r
   have c:=layNew_perm t F (hashInt k) (.int k u);have d:=layNew_fits t F (hashInt k) (.int k u);have i:=ht.layNew F (hashInt k) (.int k u);generalize hL:layNew t F (hashInt k) (.int k u)=L at c d i ⊢;obtain⟨x,t1,D,V⟩:=L;dsimp only at c d i ⊢;rw[Array.toList_push]at c;have m:ElemsOf (intKind prog w) x.toList:=(l.push (knd:=intKind prog w) (k:=k) v C).perm c
   have p:x.size<scanBound:=by rw[<-qj,c.length_eq,qz,qj];simp;lia
   have H:(x.toList.map cB).Perm (ns++[k]):=by
    have:=c.map cB;rw[Qk,z]at this;exact this
   have q:(ns++[k]).Nodup:=by
    grind
   have n:∀h' f,Heap.SameBut a s.heap h'->SetI prog w h' a f->f.Perm (ns++[k])->Q true { s with heap:=h' }:=by
    grind
   refine wa (S _ ?_)
   split
   .refine wa ?_
    rw[hashByValue_scannable 8 C];refine wc ?_;refine F_ ?_ J I K m H q p ?_ ?_ ?_
    .intro b g G r;cases b<;>first|exact wc r|exact wpAny_rule r
    .split
     .exact d
     .exact SetTable.fits_plain_off d
    .split
     .exact i
     .exact i.off
    .intro h' f B y U;dsimp only;exact wc (n h' f B y U)
   .refine wa (wc ?_)
    simp only[↓reduceIte];refine F_ ?_ J I K m H q p d i ?_
    .intro b g G r;cases b<;>first|exact wc r|exact wpAny_rule r
    .intro h' f B y U;dsimp only;exact wc (n h' f B y U)
end
def aY:AG->AG->AG
 | a,[]=>a
 | a,k::r=>aY (if k∈a then a else a++[k]) r
theorem Gb:∀(r a b:AG),a.Perm b->(aY a r).Perm (aY b r)
 | [],_,_,h=>h
 | k::r,a,b,h=>by
   refine Gb r _ _ ?_;grind
section
variable {prog:P7}{w:World}{A:Around}{R:Result->Shared->Prop}{I:Addr}{fp wr:List Addr}{G:Array GenState->Array GenState->Prop}{n:Nat}{P:Nat->Value->Prop}{St:Nat->Shared->Prop}
theorem Gc(W:WalksS prog w A.in1 I fp wr G n P St)(S:Addr)(y:S∉fp)(g:AG)(Y:g.length=n)(B:∀i v,P i v->∃t,v=.int (g.getD i 0) t)(hb:n+1<scanBound):
 ∀(k i:Nat) (s:Shared) (ns:AG),n-i=k->i<=n->St i s->ns.length<=i->SetI prog w s.heap S ns->
  (∀s' a,Moved (S::wr) G s s'->SetI prog w s'.heap S a->a.Perm (aY ns (g.drop i))->R (.ok (.ret .none)) s')->
  codeAny (mZ prog w) A (.builtin "set.update.loop" ⟨[.ref S,.ref I],[]⟩) R s:=by
 have u:S∉wr:=λh=>y (W.sub _ h);have c:∀b∈wr,b∈S::wr:=λb hb=>qg _ hb;intro k
 induction k with
 | zero=>
   intro i s ns X V f T D K
   have L:i=n:=by lia
   subst L;refine wx F.entry_set_update_loop ?_;refine wa (W.done s _ _ f λs' j=>?_);show wpAny _ A.in1 (ret Value.none) _ _ s';refine wc (K s' ns (j.mono c) (D.at λo e=>j.heap S _ u e) ?_);rw[List.drop_of_length_le (by lia),aY]
 | succ k U=>
   intro i s ns X V f T D K
   have z:i<n:=by lia
   refine wx F.entry_set_update_loop ?_;refine wa (W.item i s _ _ z f λv s' O p j=>?_);obtain⟨t,rfl⟩:=B i v O;have E:SetI prog w s'.heap S ns:=D.at λo e=>j.heap S _ u e;generalize Q:g.getD i 0=x
   have d:g.drop i=x::g.drop (i+1):=by
    rw[List.drop_eq_getElem_cons (by lia),<-Q,List.getD_eq_getElem?_getD,qr (by lia)];rfl
   refine wa (wd ?_);unfold setAdd;refine wd ?_;refine wa ((intKind prog w).pyHash (k:=x) (intKind_is _ _ _ _) ?_);refine Ga (s:={ s' with toks:=s'.toks+1 }) E (by lia) λh' a C M N=>?_
   have J:a.length<=i+1:=by
    rw[N.length_eq];grind
   refine wc ⟨ja F.plain_set_update_loop _,U (i+1) _ a (by lia) z (W.frame _ s' _ _ p (Nat.le_succ _) λb hb o e=>?_) J M λH m q r l=>?_⟩
   .rw[C.2 b (λh:b=S=>y (by grind))];exact e
   .refine K H m (Moved.trans W.gtrans ((j.mono c).then_heap (Nat.le_succ _) λb o hb e=>?_) q) r ?_
    .rw[C.2 b (λh:b=S=>hb (by grind))];exact e
    .rw[d,aY]
     exact l.trans (Gb _ _ _ N)
end
end
section
section
variable {prog:P7}{w:World}{A:Around}{E:AB}{s:Shared}
def Me:isSubtype (.type "tuple") (.type "set")=pure false:=by kernel_rfl
def Mf:isSubtype (.type "tuple") (.type "frozenset")=pure false:=by kernel_rfl
theorem wJ(k:TypeCalled T l h)(G:checkTypeCall T ⟨g,[]⟩=pure ())(j:entryFor table h=some H)(o:codeAny (mZ prog w) A.in1 (.call (.builtin l) ⟨.type T::g,[]⟩) (wants Q₁ E) s)(m:∀d b,Q₁ d b->b.TypeIs d T/\(∀(K:Around) (L:AB) (z:Unit->Shared->Prop),z () b->wpAny (mZ prog w) K (checkBuiltinCall h ⟨d::g,[]⟩) z L b)/\
  wpAny (mZ prog w) A.in1.in1 (H ⟨d::g,[]⟩)
   (λv s'=>match v with|.done f=>wants (λr a=>r=.none/\Q d a) E (.ok f) s'|.again C=>C.quiet=true/\codeAny (mZ prog w) A.in1 C (wants (λr a=>r=.none/\Q d a) E) s')
   (λe s'=>wants (λr a=>r=.none/\Q d a) E (.error e) s') b):
 wpAny (mZ prog w) A (call (.type T) g) Q E s:=by
 obtain⟨c,P,B⟩:=k.mro;have t:=k.made;have D:=k.sub;refine wpAny_call (codeAny_of_tree ?_);refine wc ⟨Code.quiet_builtin _ (by decide +kernel),wx F.entry_type_call ?_⟩;have R:=k.notType;have O:=k.canCreate
 repeat (any_goals (first|assumption|wp_step))
 refine codeAny_mono o λr b u=>?_
 cases r with
 | error e=>exact u
 | ok fl=>
   cases fl with
   | ret d=>
     obtain⟨N,y,x⟩:=m _ _ u;have I:=k.init.lookup;have J:=k.init.bind d
     repeat (any_goals (first|assumption|wp_step))
     refine codeAny_mono (codeAny_call_builtin k.init.plain j (y _ _ _ x)) λp a i=>?_
     cases p with
     | error e=>exact i
     | ok n=>
       cases n with
       | ret r=>
         obtain⟨rfl,M⟩:=i
         repeat (any_goals (first|assumption|wp_step))
       | _=>grind
   | _=>exact u.elim
abbrev bM(w:World):Obj:={ cls:=.type "set",dict:=none,data:=.set #[] 0 (.fresh 0 0 (!da w)) }
def wK(a:Value)(h:Q₁ (.ref (~~~s)) { s with heap:=s.heap.push (bM w) }):
 codeAny (mZ prog w) A (.call (.builtin "set.__new__") ⟨[.type "set",a],[]⟩) (wants Q₁ E) s:=by
 refine codeAny_of_tree ?_;refine wa (wpAny_of_eq (F.newCall_set_1 a) (wc ⟨ja F.plain_set_new _,wx F.entry_set_new ?_⟩));have b:=sub_set_self
 wp_walk
 refine wpAny_askSetting (wc ?_);refine wa (wpAny_alloc (wc ?_));exact wc h
theorem Mg{l:Addr}{a:Array Value}{u:AG}{Q:AB}(Y:A.handled=none)(X:s.heap.IsList l a)(O:IntsAre a.toList u)(hb:a.size+1<scanBound)(h:∀(h':Heap) (tk:Nat) ns,SetI prog w h' (~~~s) ns->ns.Perm (aY [] u)->
  (∀b o,b< ~~~s->s.heap.get? b=some o->h'.get? b=some o)->Q (.ref (~~~s)) { s with heap:=h',toks:=tk }):
 wpAny (mZ prog w) A (call (.type "set") [.ref l]) Q E s:=by
 refine wJ (Q₁:=λg d=>g=.ref (~~~s)/\d={ s with heap:=s.heap.push (bM w) }) F.called_set (F.typeCall_set_1 _) F.entry_set_init (wK _ ⟨rfl,rfl⟩) ?_;rintro g d ⟨rfl,rfl⟩;have M:(s.heap.push (bM w)).get? (~~~s)=some (bM w):=qp _ rfl
 have R:Shared.TypeIs { s with heap:=s.heap.push (bM w) } (.ref (~~~s)) "set":=⟨_,M,rfl⟩
 refine⟨R,λA' E' Q' Z=>check_set_init_1 R Z,?_⟩;obtain⟨U,m,k,T,r⟩:=X;obtain⟨P,f,C,c⟩:=U;simp only at k r;subst k;subst r;have q:(s.heap.push (bM w)).get? l=some { cls:=.type "list",dict:=f,data:=.seq a T,slots:=c }:=qe _ m;have N:=F.sub_list_set;have S:=F.sub_list_frozenset
 have hne:(Value.type "list"==Value.type "dict")=false:=by decide
 have y:(s.heap.push (bM w)).IsList l a:=⟨_,q,rfl,T,rfl⟩
 unfold Builtin.«set.__init__» noKeywords Builtin.Frozenset.updateFrom;generalize G:pyIter=PI
 wp_walk
 subst G;refine wpAny_pyIter_list y ?_;refine wa (wpAny_runValue ?_);have W:l< ~~~s:=ql m
 have D:A.in1.in1.in1.handled=none:=by simp[Y]
 have p:l≠(s.heap.push (bM w)).objs.size:=by
  rw[wv];grind
 have J:(~~~s)∉[(s.heap.push (bM w)).objs.size,l]:=by
  rw[wv];grind
 have x:u.length=a.size:=by have:=IntsAre.length O;grind
 have n:∀(i:Nat) (v:Value),a[i]?=some v->∃t,v=.int (u.getD i 0) t:=λi v hv=>
  IntsAre.int_at O i v (by grind)
 refine Gc ((Walks.list D _ l p a).toS) (~~~s) J u x n hb (a.size-0) 0 _ [] (by lia) (Qh _)
  ⟨⟨_,qp _ rfl,rfl,rfl⟩,(y.push _)⟩ (qv _) ?hS0 ?hR
 case hS0=>
  have j:((s.heap.push (bM w)).push { cls:=.type "list_iterator",data:=.fields #[.ref l,.int 0 0] }).get? (~~~s)=some (bM w):=qe _ M;exact⟨bM w,#[],0,_,j,⟨rfl,rfl,rfl⟩,rfl,λe he=>by simp at he,rfl,.nil,by decide,rfl,.fresh⟩
 case hR=>
  intro s' L z B H;obtain⟨h',g',d',K,I⟩:=s';have eg:g'=s.gens:=z.gens;have ed:d'=s.drawn:=z.drawn;have V:I=s.os:=z.os;subst eg;subst ed;subst V;show wpAny _ _ _ _ _ _;refine wc ?_;show wpAny _ _ (ret Value.none) _ _ _;refine wc ⟨rfl,h h' K L B H λb o hb e=>?_⟩;have hb1:b≠(~~~s):=qm hb
  have hb2:b≠(s.heap.push (bM w)).objs.size:=by
   rw[wv];grind
  exact z.heap b o (by grind) (qe _ (qe _ e))
theorem Mh{l:Addr}{a:Array Value}{p:AG}{Q:AB}(Y:A.handled=none)(X:s.heap.IsTuple l a)(O:IntsAre a.toList p)(hb:a.size+1<scanBound)(h:∀(h':Heap) (tk:Nat) ns,SetI prog w h' (~~~s) ns->ns.Perm (aY [] p)->
  (∀b o,b< ~~~s->s.heap.get? b=some o->h'.get? b=some o)->Q (.ref (~~~s)) { s with heap:=h',toks:=tk }):
 wpAny (mZ prog w) A (call (.type "set") [.ref l]) Q E s:=by
 refine wJ (Q₁:=λj f=>j=.ref (~~~s)/\f={ s with heap:=s.heap.push (bM w) }) F.called_set (F.typeCall_set_1 _) F.entry_set_init (wK _ ⟨rfl,rfl⟩) ?_;rintro j f ⟨rfl,rfl⟩;have N:(s.heap.push (bM w)).get? (~~~s)=some (bM w):=qp _ rfl
 have R:Shared.TypeIs { s with heap:=s.heap.push (bM w) } (.ref (~~~s)) "set":=⟨_,N,rfl⟩
 refine⟨R,λA' E' Q' Z=>check_set_init_1 R Z,?_⟩;obtain⟨U,m,k,G,x⟩:=X;obtain⟨P,g,K,c⟩:=U;simp only at k x;subst k;subst x;have d:(s.heap.push (bM w)).get? l=some { cls:=.type "tuple",dict:=g,data:=.seq a G,slots:=c }:=qe _ m;have S:=Me;have T:=Mf
 have hne:(Value.type "tuple"==Value.type "dict")=false:=by decide
 have J:(s.heap.push (bM w)).IsTuple l a:=⟨_,d,rfl,G,rfl⟩
 unfold Builtin.«set.__init__» noKeywords Builtin.Frozenset.updateFrom;generalize C:pyIter=PI
 wp_walk
 subst C;refine wpAny_pyIter_tuple J ?_;refine wa (wpAny_runValue ?_);have W:l< ~~~s:=ql m
 have D:A.in1.in1.in1.handled=none:=by simp[Y]
 have r:l≠(s.heap.push (bM w)).objs.size:=by
  rw[wv];grind
 have L:(~~~s)∉[(s.heap.push (bM w)).objs.size,l]:=by
  rw[wv];grind
 have u:p.length=a.size:=by have:=IntsAre.length O;grind
 have n:∀(i:Nat) (v:Value),a[i]?=some v->∃t,v=.int (p.getD i 0) t:=λi v hv=>
  IntsAre.int_at O i v (by grind)
 refine Gc ((Walks.tuple D _ l r a).toS) (~~~s) L p u n hb (a.size-0) 0 _ [] (by lia) (Qh _)
  ⟨⟨_,qp _ rfl,rfl,rfl⟩,(⟨_,qe _ d,rfl,G,rfl⟩)⟩ (qv _) ?hS0 ?hR
 case hS0=>
  have q:((s.heap.push (bM w)).push { cls:=.type "tuple_iterator",data:=.fields #[.ref l,.int 0 0] }).get? (~~~s)=some (bM w):=qe _ N;exact⟨bM w,#[],0,_,q,⟨rfl,rfl,rfl⟩,rfl,λe he=>by simp at he,rfl,.nil,by decide,rfl,.fresh⟩
 case hR=>
  intro s' M y z H;obtain⟨h',g',d',I,B⟩:=s';have eg:g'=s.gens:=y.gens;have ed:d'=s.drawn:=y.drawn;have V:B=s.os:=y.os;subst eg;subst ed;subst V;show wpAny _ _ _ _ _ _;refine wc ?_;show wpAny _ _ (ret Value.none) _ _ _;refine wc ⟨rfl,h h' I M z H λb o hb e=>?_⟩;have hb1:b≠(~~~s):=qm hb
  have hb2:b≠(s.heap.push (bM w)).objs.size:=by
   rw[wv];grind
  exact y.heap b o (by grind) (qe _ (qe _ e))
end
end
section
theorem wL{a:Type}{l:List a}(h:i<l.length):(l[i]::l.eraseIdx i).Perm l:=by
 rw[List.eraseIdx_eq_take_drop_succ]
 have e:l=l.take i++l[i]::l.drop (i+1):=by
  simp_all
 conv=>rhs;rw[e]
 exact List.perm_middle.symm
theorem Gd(c:Nat->Nat):∀(b k:Nat) (a:List e) (out:Array e),a.length=b->(pickOrder.go c b k a out).toList.Perm (out.toList++a)
 | 0,k,a,out,h=>by
   rw[pickOrder.go]
   simp_all
 | b+1,k,a,out,h=>by
   rw[pickOrder.go];have d:c k%a.length<a.length:=Nat.mod_lt _ (by lia);rw[qr d];refine(Gd c b (k+1) _ _ (by grind)).trans ?_;rw[Array.toList_push,w6];exact(wL d).append_left _
theorem wM(a:Nat->Nat)(xs:Array b):(pickOrder a xs).toList.Perm xs.toList:=by
 have:=Gd a xs.size 0 xs.toList #[] (by simp);simpa [pickOrder]using this
section
variable {prog:P7}{w:World}{A:Around}{E:AB}
theorem Mi(a:0<n)(h:∀i d',i<n->Q i { s with drawn:=d' }):wpAny (mZ prog w) A (choose src n) Q E s:=by
 intro c p b;exact⟨by lia,(h _ _ (Nat.mod_lt _ a))⟩
theorem oY:∀(n:Nat) (xs:List c) (s:Shared) (Q:List c->Shared->Prop),xs.length=n->(∀ys d',ys.Perm xs->Q ys { s with drawn:=d' })->wpAny (mZ prog w) A (drawOrder n xs) Q E s
 | 0,xs,s,Q,h,a=>by
   rw[List.length_eq_zero_iff.mp h]at a ⊢;exact wc (a [] s.drawn .nil)
 | n+1,[],s,Q,h,a=>by simp at h
 | n+1,x::xs,s,Q,h,a=>by
   refine wa (Mi (by simp) λi d' b=>?_);rw[qr b];exact wa (oY n _ _ _ (by grind) λys d e=>(wc (a _ d ((e.cons _).trans (wL b)))))
end
end
section
def kP:Manifest.owners.lookup (String.ofList ['r','o','t','a','r','e','t','i','_','t','e','s'].reverse)=some Manifest.sig_set_iterator:=by kernel_rfl
theorem slot_si_next:Slot "set_iterator" "__next__" "set_iterator.__next__":=
 .of (owner:="set_iterator") (n:="__next__") (by kernel_rfl) (by decide +kernel) (by decide +kernel) (by decide +kernel)
  (by first|exact .inl (by decide +kernel)|exact .inr (by decide +kernel)) (by kernel_rfl)
def o4:entryFor table "set_iterator.__next__"=some Builtin.«set_iterator.__next__»:=entryFor_of_tree (by kernel_rfl)
def o5(a:Value):argsOk "set_iterator.__next__" ⟨[a],[]⟩:=by
 kernel_rfl
theorem Ge:Slot "set_iterator" "__iter__" "set_iterator.__iter__":=
 .of (owner:="set_iterator") (n:="__iter__") (by kernel_rfl) (by decide +kernel) (by decide +kernel) (by decide +kernel)
  (by first|exact .inl (by decide +kernel)|exact .inr (by decide +kernel)) (by kernel_rfl)
def Mj(a:Value):argsOk "set_iterator.__iter__" ⟨[a],[]⟩:=by
 kernel_rfl
theorem Ml:entryFor table "set_iterator.__iter__"=some Builtin.«dict_keyiterator.__iter__»:=
 entryFor_alias (id':="dict_keyiterator.__iter__") (by kernel_rfl) (by first|rfl|decide +kernel|(unfold String.splitOn)) (by decide +kernel) (by kernel_rfl)
theorem Gg:entryFor table "set.__iter__"=some Builtin.«frozenset.__iter__»:=
 entryFor_alias (id':="frozenset.__iter__") (by kernel_rfl) (by first|rfl|decide +kernel|(unfold String.splitOn)) (by decide +kernel) (by kernel_rfl)
def SIt(h:Heap)(I:Addr)(first:Value)(i:Nat)(a:Addr)(n b:Nat):Prop:=∃o,h.get? I=some o/\o.cls=.type "set_iterator"/\o.data=.fields #[first,.int i 0,.ref a,.int n 0,.int b 0]
def SAt(h:Heap)(a:Addr)(b:Array (Int×Value))(c:Nat)(t:SetTable):Prop:=∃o,h.get? a=some o/\o.ExactSet/\o.data=.set b c t/\t.fits b.size=true
def SIt.at(x:SIt h I f i a n c)(e:∀o,h.get? I=some o->h'.get? I=some o):SIt h' I f i a n c:=let ⟨o,b,r⟩:=x;⟨o,e o b,r⟩
def SAt.at(x:SAt h a c d t)(e:∀o,h.get? a=some o->h'.get? a=some o):SAt h' a c d t:=let ⟨o,b,r⟩:=x;⟨o,e o b,r⟩
def SIt.typeIs{s:Shared}(x:SIt s.heap I f i a n d):s.TypeIs (.ref I) "set_iterator":=let ⟨o,b,c,_⟩:=x;⟨o,b,c⟩
section
variable {prog:P7}{w:World}{A:Around}{E:AB}{s:Shared}
def o6(b:SIt s.heap I f i a n c)(h:Q (.ref I) s):wpAny (mZ prog w) A (pyIter (.ref I)) Q E s:=by
 exact wpAny_pyIter_slot b.typeIs Ge (we Ge b.typeIs Ml (wc ⟨_,rfl,"set_iterator",_,b.typeIs,slot_si_next.lookup,h⟩) (Mj _))
theorem Gh{m i f nx:Nat}(c:SIt s.heap I (.int m 0) i a n.size f)(q:SAt s.heap a n f t)(y:∀(u:Around) (l:Option (Value×Nat)->Shared->Prop) (z:AB),l (some (x,nx)) s->wpAny (mZ prog w) u (setNext a m i f) l z s)(r:∀h',SIt h' I (.int nx 0) (i+1) a n.size f->Heap.SameBut I s.heap h'->Q (some x) { s with heap:=h' }):wpAny (mZ prog w) A (pyNext (.ref I)) Q E s:=by
 obtain⟨o,k,v,e⟩:=id c;obtain⟨B,g,p,h,j⟩:=q;refine wa (je (wpAny_callSpecial?_slot  c.typeIs slot_si_next (we slot_si_next c.typeIs o4 ?_ (o5 _))));show wpAny _ _ (fieldsOf (.ref I)>>=_) _ _ s;refine wa (wpAny_fieldsOf k e (wa (wpAny_setEntries_of g h j ?_)));rw[if_neg (by simp)];refine wa (y _ _ _ (wa (wpAny_setField k e (by simp) ?_)));have d:=ww (Obj.mapFields (·.setIfInBounds 0 (rawInt nx))) k (Obj.isFreed_of_fields (jd e _));have b:=jd e (·.setIfInBounds 0 (rawInt nx))
 exact wa (wpAny_setField  d b (by simp) (wc ⟨x,rfl,wc (r _ (⟨_,ww _ d (Obj.isFreed_of_fields (jd b _)),(Obj.cls_mapFields ..).trans ((Obj.cls_mapFields ..).trans v),by
  rw[jd b];simp[rawInt]⟩) ((wu ..).trans (wu ..)))⟩))
theorem Gi{j i d:Nat}(l:A.handled=none)(b:SIt s.heap I (.int j 0) i a r.size d)(v:SAt s.heap a r d t)(n:∀(q:Around) (g:Option (Value×Nat)->Shared->Prop) (u:AB),g none s->wpAny (mZ prog w) q (setNext a j i d) g u s)(p:∀h',Heap.ExtBut I s.heap h'->Q none { s with heap:=h' }):wpAny (mZ prog w) A (pyNext (.ref I)) Q E s:=by
 obtain⟨o,m,x,k⟩:=id b;obtain⟨y,c,h,e,f⟩:=v;refine wa (je (wpAny_callSpecial?_slot  b.typeIs slot_si_next (we slot_si_next b.typeIs o4 ?_ (o5 _))));show wpAny _ _ (fieldsOf (.ref I)>>=_) _ _ s;refine wa (wpAny_fieldsOf m k (wa (wpAny_setEntries_of c e f ?_)));rw[if_neg (by simp)];refine wa (n _ _ _ (wa (wpAny_setField m k (by simp) (wa (wa (m:=firstArgMember _ _) (wpAny_of_eq (a:=Value.none) (by first|rfl|(rfl)) (wf (wa (wpAny_handled ?_)) (by size_fits))))))))
 first|rw[ l]|rw[l]
 refine wa (wc (wpAny_throw ?_));exact wa (wpAny_isInstance   ⟨_,qp _ rfl,rfl⟩ isSubtype_stop (wc (p _ (((wu ..).extBut.push _).push _))))
theorem Gj{i j l:Nat}(b:SIt s.heap I (.ref T) i a k.size l)(v:SAt s.heap a k l t)(y:s.heap.IsTuple T pl)(x:pl[i]?=some (.int j tk))(u:k[j]?=some e)(r:∀h',SIt h' I (.ref T) (i+1) a k.size l->Heap.SameBut I s.heap h'->Q (some e.2) { s with heap:=h' }):wpAny (mZ prog w) A (pyNext (.ref I)) Q E s:=by
 obtain⟨o,n,q,g⟩:=id b;obtain⟨B,c,p,f,d⟩:=v;obtain⟨z,h,_,C,m⟩:=y;refine wa (je (wpAny_callSpecial?_slot  b.typeIs slot_si_next (we slot_si_next b.typeIs o4 ?_ (o5 _))));show wpAny _ _ (fieldsOf (.ref I)>>=_) _ _ s;refine wa (wpAny_fieldsOf n g (wa (wpAny_setEntries_of c f d ?_)));rw[if_neg (by simp)];refine wa (wpAny_seqItems h m ?_);simp  [x];refine wa (wa (wg c f d ?_));dsimp only;rw[if_neg (by simp)];rw[u]
 exact wc (wa (wpAny_setField n g (by simp) (wc ⟨e.2,rfl,wc (r _ (⟨_,ww _ n (Obj.isFreed_of_fields (jd g _)),(Obj.cls_mapFields ..).trans q,by
  rw[jd g];simp[rawInt]⟩) (wu ..))⟩)))
theorem Gk(n:A.handled=none)(b:SIt s.heap I (.ref T) i a q.size u)(v:SAt s.heap a q u t)(p:s.heap.IsTuple T pl)(x:pl[i]?=none)(r:∀h',Heap.ExtBut I s.heap h'->Q none { s with heap:=h' }):wpAny (mZ prog w) A (pyNext (.ref I)) Q E s:=by
 obtain⟨o,l,C,c⟩:=id b;obtain⟨B,g,m,k,h⟩:=v;obtain⟨y,d,_,z,j⟩:=p;refine wa (je (wpAny_callSpecial?_slot  b.typeIs slot_si_next (we slot_si_next b.typeIs o4 ?_ (o5 _))));show wpAny _ _ (fieldsOf (.ref I)>>=_) _ _ s;refine wa (wpAny_fieldsOf l c ?_);refine wa (wpAny_setEntries_of g k h ?_);rw[if_neg (by simp)];refine wa (wpAny_seqItems d j ?_);simp  [Int.toNat_natCast,x];refine wa (wpAny_setField l c (by simp) ?_);have f:=ww (Obj.mapFields (·.setIfInBounds 0 (rawInt 0))) l (Obj.isFreed_of_fields (jd c _));have e:=jd c (·.setIfInBounds 0 (rawInt 0));refine wa (wpAny_setField  f e (by simp) ?_);refine wa ?_;simp  [newExc];refine wa (m:=firstArgMember _ _) (wpAny_of_eq (a:=Value.none) (by first|rfl|(rfl)) ?_);refine wf ?_ (by size_fits);refine wa (wpAny_handled ?_)
 first|rw[ n]|rw[n]
 refine wa (wc (wpAny_throw ?_));refine wa (wpAny_isInstance   ⟨_,qp _ rfl,rfl⟩ isSubtype_stop ?_);exact wc (r _ ((((wu ..).trans (wu ..)).extBut.push _).push _))
end
end
section
section
variable {prog:P7}{w:World}{A:Around}{E:AB}{s:Shared}
def gu(h:Q (da w) s):wpAny (mZ prog w) A setsByText Q E s:=wa (wpAny_askSetting (wc h))
theorem o7(hb:da w=true)(j:SAt s.heap a k g t)(h:Q (((pickOrder (w.params.setOrder a g) k)[i]?).map λe=>(e.2,l)) s):wpAny (mZ prog w) A (setNext a l i g) Q E s:=by
 obtain⟨m,c,f,d,b⟩:=j;refine wa (wg c d b (wa (gu ?_)));rw[if_pos hb,if_neg (by simp)];refine wa  (wa (wg c d b (wa (gu ?_))));rw[if_pos hb];exact wa (wpAny_askSetting (wc (wc h)))
theorem o8(hb:da w=false)(q:(!t.plain&&decide (b.size > 1))=false)(n:t.led=true)(o:SAt s.heap a b m t)(k:SetTable.below t.place l=i)(h:Q (match b[i]?,t.place[i]? with|some (_,x),some j=>some (x,j+1)|_,_=>none) s):wpAny (mZ prog w) A (setNext a l g m) Q E s:=by
 obtain⟨p,d,f,c,e⟩:=o;refine wa (wg d c e (wa (gu ?_)));rw[if_neg (by grind)];show wpAny _ _ (if (!t.plain&&decide (b.size > 1))=true then _ else _) _ _ _;rw[if_neg (by grind)];show wpAny _ _ ((if (!t.led&&!b.isEmpty)=true then unsupported "set:maker-not-led" else pure ())>>=_) _ _ _;rw[if_neg (by rw[n];simp)];rw[k];exact wc h
def ez(pl:Array Nat):Nat->Nat
 | 0=>0
 | i+1=>pl.getD i 0+1
theorem o9(g:bN pl)(m:i<=pl.size):SetTable.below pl (ez pl i)=i:=by
 obtain⟨n,l,f⟩:=F7 g (ez pl i);generalize o:SetTable.below pl (ez pl i)=p at n l f
 have b:∀(i k:Nat) (m:i<pl.size) (a:k<pl.size),i<k->pl[i]<pl[k]:=λi k m a h=>by
  have:=List.pairwise_iff_getElem.mp g i k (by grind) (by grind) h;grind
 have e1:∀k (a:k<pl.size),k<p->pl[k]<ez pl i:=λk a d=>l _ (by
  rw[List.mem_iff_getElem]
  grind)
 have e2:∀k (a:k<pl.size),p<=k->ez pl i<=pl[k]:=λk a d=>f _ (by
  rw[List.mem_iff_getElem]
  exact⟨k-p,by simp;lia,by
   simp_all⟩)
 rcases Nat.lt_trichotomy p i with h|h|h
 .have a:p<pl.size:=by lia
  have:=e2 p a (qv _)
  cases i with
  | zero=>lia
  | succ j=>
    have c:j<pl.size:=by lia
    simp only[ez,Array.getD,c,dite_true]at this;by_cases e:p=j
    .subst e;exact absurd this (by simp)
    .have:=b p j a c (by lia)
     simp at *;lia
 .exact h
 .have a:i<pl.size:=by lia
  have:=e1 i a h
  cases i with
  | zero=>simp[ez]at this
  | succ j=>
    have c:j<pl.size:=by lia
    have h':=b j (j+1) c a (by lia);simp only[ez,Array.getD,dite_true]at this;simp at *;lia
def hV(a:AG)(i:Nat)(v:Value):Prop:=∃k t,a[i]?=some k/\v=.int k t
theorem wN{b:Array (Int×Value)}(a:ElemsOf (intKind prog w) b.toList)(c:e∈b.toList):∃t,e.2=.int (cB e) t:=by
 obtain⟨t,d⟩:=jo a c;grind
theorem Mm(hS:SetI prog w s.heap a ns)(hQ:∀(h':Heap) (d':Drawn) (I:Addr) (fp:List Addr) (f:AG) (St:Nat->Heap->Prop),(∀b o,s.heap.get? b=some o->h'.get? b=some o)->(~~~s)<=I->I∈fp->
  (∀b∈fp,b<h'.objs.size/\(b=a\/(~~~s)<=b))->f.Perm ns->(∀y:Around,y.handled=none->Walks prog w y I fp [I] ns.length (hV f) St)->St 0 h'->
  (∀(i:Nat) (s':Shared),St i s'.heap->s'.TypeIs (.ref I) "set_iterator")->Q (.ref I) { s with heap:=h',drawn:=d' }):
 wpAny (mZ prog w) A (pyIter (.ref a)) Q E s:=by
 obtain⟨o,d,q,t,N,T,X,V,hns,hnd,hb,J,ht⟩:=hS
 have hT:s.TypeIs (.ref a) "set":=⟨o,N,T.1⟩
 have L:ns.length=d.size:=by grind
 have hlt:a< ~~~s:=ql N
 have hsa:SAt s.heap a d q t:=⟨o,N,T,X,J⟩
 have hps:t.place.size=d.size:=by
  simp only[SetTable.fits,Qe,beq_iff_eq]at J;exact J.1
 refine wpAny_pyIter_slot hT F.slot_set_iter (we F.slot_set_iter hT Gg ?_ (F.args_set_iter_1 _));unfold Builtin.«frozenset.__iter__»;show wpAny _ _ (Builtin.Frozenset.sizeOf a>>=_) _ _ s;unfold Builtin.Frozenset.sizeOf;refine wa (wa (wpAny_setEntries_of N X J (wc ?_)));refine wa ?_;unfold setDrawn;refine wa (wg N X J ?_);dsimp only;refine wa (gu (wc ?_))
 have plain:∀(f:AG) (st:Nat->Nat) (xv:Nat->Value),f.Perm ns->st 0=0->(∀i,i<d.size->hV f i (xv i))->
  (∀(s':Shared) (y:Around) (i:Nat) (n:AB),SAt s'.heap a d q t->i<d.size->∀l:Option (Value×Nat)->Shared->Prop,l (some (xv i,st (i+1))) s'->wpAny (mZ prog w) y (setNext a (st i) i q) l n s')->
  (∀(s':Shared) (y:Around) (n:AB),SAt s'.heap a d q t->∀l:Option (Value×Nat)->Shared->Prop,l none s'->wpAny (mZ prog w) y (setNext a (st d.size) d.size q) l n s')->
  wpAny (mZ prog w) A.in1 (do
   let x <-newFields "set_iterator" [rawInt 0,rawInt 0,.ref a,rawInt d.size,rawInt (<-setEpoch a)]
   ret x) (λO s'=>∃v,O=.done (.ret v)/\∃T' r,s'.TypeIs v T'/\typeLookup (.type T') "__next__"=pure (some r)/\Q v s') E s:=by
  intro f st xv hp h0 hx p hn;refine wa (wpAny_setEpoch_of N X J ?_);refine wa (wf ?_);refine wc ⟨_,rfl,"set_iterator",_,⟨_,qp _ rfl,rfl⟩,slot_si_next.lookup,?_⟩
  have key:=hQ (s.heap.push { cls:=.type "set_iterator",data:=.fields #[rawInt 0,rawInt 0,.ref a,rawInt d.size,rawInt q] }) s.drawn (~~~s) [~~~s,a] f
   (λi h=>SIt h (~~~s) (.int (st i) 0) i a d.size q/\SAt h a d q t) (λb o e=>qe _ e) (qv _) (by simp) (λb hb=>by
    rw[wv]
    grind) hp (λy U=>{
    sub:=λb hb=>by grind
    frame:=λi h h' c Y=>⟨c.1.at λo e=>Y _ (by simp) o e,c.2.at λo e=>Y a (by simp) o e⟩
    item:=λi s' l n hlt' c g=>by
     refine Gh c.1 c.2 (x:=xv i) (nx:=st (i+1)) (λA2 Q2 E2 G=>p s' A2 i E2 c.2 (by lia) Q2 G) λh' D m=>?_;exact g _ h' s'.toks (hx i (by lia)) ⟨D,c.2.at λo e=>m.extBut a o (λz=>by grind) e⟩ λb o hb e=>m.extBut b o (λz=>hb (by simp[z])) e
    done:=λs' l n c g=>by
     rw[L]at c;exact Gi U c.1 c.2 (λA2 Q2 E2 G=>hn s' A2 E2 c.2 Q2 G) λh' R=>g h' s'.toks λb o hb e=>R b o (λz=>hb (by simp[z])) e
    self:=λi s' l n c g=>o6 c.1 g }) ⟨⟨_,qp _ rfl,rfl,by rw[h0];rfl⟩,hsa.at λo e=>qe _ e⟩ (λi s' c=>c.1.typeIs)
  exact key
 have hdr:∀b:Bool,(!t.plain&&decide (d.size > 1))=b->wpAny (mZ prog w) A.in1 (if (!da w&&b)=true then do
  let first <-newTuple ((<-drawOrder d.size (List.range d.size)).map fun(i:Nat)=>rawInt i)
  let x <-newFields "set_iterator" [first,rawInt 0,.ref a,rawInt d.size,rawInt (<-setEpoch a)]
  ret x
  else do
   let x <-newFields "set_iterator" [rawInt 0,rawInt 0,.ref a,rawInt d.size,rawInt (<-setEpoch a)]
   ret x) (λO s'=>∃v,O=.done (.ret v)/\∃T' r,s'.TypeIs v T'/\typeLookup (.type T') "__next__"=pure (some r)/\Q v s') E s:=by
  intro b P
  cases C:da w with
  | true=>
    rw[if_neg (by simp)];generalize hor:pickOrder (w.params.setOrder a q) d=k
    have hpm:k.toList.Perm d.toList:=by rw[<-hor];exact wM _ _
    have hos:k.size=d.size:=by
     have:=hpm.length_eq;grind
    refine plain (k.toList.map cB) (λ_=>0) (λi=>(k.getD i (0,.none)).2) (by grind) rfl (λi p=>?_) (λs' y i n M p l G=>?_) (λs' y n M l G=>?_)
    .have Z:i<k.size:=by lia
     obtain⟨u,hu⟩:=wN V (hpm.mem_iff.mp (show k[i]∈k.toList by simp));refine⟨cB k[i],u,by simp[Z],?_⟩
     simp_all
    .have Z:i<k.size:=by lia
     refine o7 C M ?_
     simp_all
    .refine o7 C M ?_
     grind
  | false=>
    have K:=ht.1 C
    cases b with
    | false=>
      rw[if_neg (by simp)]
      have B:bN t.place:=by
       cases hpl:t.plain with
       | true=>exact ht.2 hpl
       | false=>
         rw[hpl]at P
         have h1:t.place.toList.length<=1:=by
          grind
         unfold bN
         match t.place.toList,h1 with
         | [],_=>exact .nil
         | [x],_=>simp
      refine plain ns (ez t.place) (λi=>(d.getD i (0,.none)).2) .rfl rfl (λi p=>?_) (λs' y i n M p l G=>?_) (λs' y n M l G=>?_)
      .obtain⟨u,hu⟩:=wN V (show d[i]∈d.toList by simp)
       refine⟨cB d[i],u,by grind,?_⟩
       simp_all
      .refine o8 C P K M (o9 B (by lia)) ?_
       have hi2:i<t.place.size:=by lia
       rw[Array.getElem?_eq_getElem p,Array.getElem?_eq_getElem hi2];simp only[Array.getD,p,hi2,dite_true,ez]at G;exact G
      .refine o8 C P K M (o9 B (by lia)) ?_
       grind
    | true=>
      rw[if_pos (by simp)];refine wa (oY d.size (List.range d.size) s _ (by simp) λys d' hp=>?_);simp only[newTuple]
      have hyl:ys.length=d.size:=by rw[hp.length_eq];simp
      refine wa (wf ?_ (by show(ys.map fun(i:Nat)=>rawInt i).toArray.size<=sizeLine;rw[qk,qf,hyl];exact fits_of_scanBound hb));have S:((s.heap.push { cls:=.type "tuple",data:=.seq (ys.map fun(i:Nat)=>rawInt i).toArray })).get? a=some o:=qe _ N;refine wa (wpAny_setEpoch_of (s:={ s with heap:=s.heap.push { cls:=.type "tuple",data:=.seq (ys.map fun(i:Nat)=>rawInt i).toArray },drawn:=d' }) S X J ?_);refine wa (wf ?_);refine wc ⟨_,rfl,"set_iterator",_,⟨_,qp _ rfl,rfl⟩,slot_si_next.lookup,?_⟩
      have hmem:∀j∈ys,j<d.size:=λj hj=>by grind
      have hvp:(ys.map λj=>cB (d.getD j (0,.none))).Perm ns:=by
       rw[<-hns];refine(hp.map _).trans ?_
       have:(List.range d.size).map (λj=>cB (d.getD j (0,.none)))=d.toList.map cB:=by
        refine List.ext_getElem (by simp) λi h1 h2=>?_
        have p:i<d.size:=by grind
        simp[Array.getD,p]
       rw[this]
      generalize hH:s.heap.push { cls:=.type "tuple",data:=.seq (ys.map fun(i:Nat)=>rawInt i).toArray }=H at S ⊢
      have hHs:H.objs.size= ~~~s+1:=by rw[<-hH,wv]
      have hT0:H.IsTuple (~~~s) (ys.map fun(i:Nat)=>rawInt i).toArray:=⟨_,by rw[<-hH];exact qp _ rfl,rfl,_,rfl⟩
      have W:∀b o,s.heap.get? b=some o->H.get? b=some o:=λb o e=>by rw[<-hH];exact qe _ e
      have haI:a≠H.objs.size:=λz=>by grind
      have hTI:(~~~s)≠H.objs.size:=by grind
      exact hQ (H.push { cls:=.type "set_iterator",data:=.fields #[.ref (~~~s),rawInt 0,.ref a,rawInt d.size,rawInt q] }) d' H.objs.size [H.objs.size,a,~~~s] (ys.map λj=>cB (d.getD j (0,.none)))
       (λi h=>SIt h H.objs.size (.ref (~~~s)) i a d.size q/\SAt h a d q t/\h.IsTuple (~~~s) (ys.map fun(i:Nat)=>rawInt i).toArray) (λb o e=>qe _ (W b o e)) (by lia) (by simp) (λb hb=>by
        rw[wv]
        grind) hvp (λy U=>{
        sub:=λb hb=>by grind
        frame:=λi h h' c Y=>⟨c.1.at λo e=>Y _ (by simp) o e,c.2.1.at λo e=>Y a (by simp) o e,c.2.2.at λo e=>Y _ (by simp) o e⟩
        item:=λi s' l n hlt' c g=>by
         have p:i<ys.length:=by lia
         have hj:=hmem ys[i] (List.getElem_mem p);refine Gj c.1 c.2.1 c.2.2 (j:=ys[i]) (tk:=0) (e:=d[ys[i]]) (by simp[p,rawInt]) (Array.getElem?_eq_getElem hj) λh' D m=>?_;refine g _ h' s'.toks ?_ ⟨D,c.2.1.at λo e=>m.extBut a o haI e,c.2.2.at λo e=>m.extBut _ o hTI e⟩ λb o hb e=>m.extBut b o (λz=>hb (by simp[z])) e;obtain⟨u,hu⟩:=wN V (show d[ys[i]]∈d.toList by simp);exact⟨cB d[ys[i]],u,by simp[p,Array.getD,hj],hu⟩
        done:=λs' l n c g=>by
         rw[L]at c;exact Gk U c.1 c.2.1 c.2.2 (by simp[hyl]) λh' R=>g h' s'.toks λb o hb e=>R b o (λz=>hb (by simp[z])) e
        self:=λi s' l n c g=>o6 c.1 g }) ⟨⟨_,qp _ rfl,rfl,rfl⟩,⟨o,qe _ S,T,X,J⟩,hT0.push _⟩ (λi s' c=>c.1.typeIs)
 exact hdr _ rfl
end
end
section
inductive D where
 | non|bl (b:Bool)|int (i:Int)|str (x:Str)|tup (l:List D)|lst (l:List D)
 | scr (ns:AG)
 | dct (t:Bool) (ks vs:List D)
 | obj (c:Str) (ks:AK) (vs:List D)
 | adr (a:Addr)
abbrev AQ:=List D
mutual
def aF:D->PyData
 | .non=>.none
 | .bl b=>.bool b
 | .int i=>.int i
 | .str x=>.str x
 | .tup l=>.tuple (cS l)
 | .lst l=>.list (cS l)
 | .scr ns=>.list (ns.map PyData.int)
 | .dct _ _ _=>.none
 | .obj _ _ _=>.none
 | .adr _=>.none
def cS:AQ->List PyData
 | []=>[]
 | d::l=>aF d::cS l
end
def bE(d e:D):Bool:=PyData.eqv (aF d) (aF e)
def dw(l m:AQ):Bool:=PyData.eqvAll (cS l) (cS m)
def wO:V->Option Int
 | .int i=>some i
 | .bl b=>some (if b then 1 else 0)
 | _=>none
def hX:AN->Option AG
 | []=>some []
 | x::r=>(wO x).bind λi=>(hX r).map (i::·)
def hY(ks:AG):Int:=reduceHash (Builtin.Tuple.tupleHashOf (ks.map hashInt))
def wQ(a:Addr)(b:List (List Int×Addr))(vxs:AN)(d:Nat)(h:Heap):Prop:=
 (a==sysModules)=false/\∃us o c,Vals vxs us/\h.get? a=some o/\o.ExactDict/\o.data=.dict c d/\c.toList=(b.zip us).map λp=>(⟨hY p.1.1,.ref p.1.2,p.2⟩)
def Gm(a:Addr)(b:List (List Int×Addr))(vxs:AN)(c:Nat):HO:=.ext (wQ a b vxs c)
def Dc(t:Bool)(G H:Hp)(a:Addr)(d vxs:AN):Prop:=
 (t=false/\∃c:List (bD×V),H a=some (.dK c)/\(c.map (·.1)).Nodup/\d=c.map (λp=>kV p.1)/\vxs=c.map (·.2))\/
 (t=true/\∃(b:List (List Int×Addr)) (e:Nat),H a=some (Gm a b vxs e)/\b.length=vxs.length/\(b.map (·.1)).Nodup/\d=b.map (λp=>V.ref p.2)/\∀p∈b,∃ys,G p.2=some (.tup ys)/\hX ys=some p.1)
mutual
def Rp(K:W7)(G:Hp):D->V->Prop
 | .non,v=>v=V.non
 | .bl b,v=>v=V.bl b
 | .int i,v=>v=V.int i
 | .str x,v=>v=V.str x/\PyData.strOk x=true
 | .tup l,v=>∃a xs,v=V.ref a/\G a=some (HO.tup xs)/\RpL K G l xs
 | .lst l,v=>∃a xs,v=V.ref a/\Rd G a (HO.lst xs)/\RpL K G l xs
 | .scr ns,v=>∃a,v=V.ref a/\SqL K G a (ns.map V.int)
 | .dct t ks vs,v=>∃a f vxs,v=V.ref a/\Dc t G G a f vxs/\RpL K G ks f/\RpL K G vs vxs
 | .obj c ks vs,v=>∃a C g xs,v=V.ref a/\W.nsIn K mainGlobals c=some (some (.ref C))/\G a=some (HO.ins C g (ks.zip xs))/\xs.length=ks.length/\RpL K G vs xs
 | .adr a,v=>v=V.ref a
def RpL(K:W7)(G:Hp):AQ->AN->Prop
 | [],xs=>xs=[]
 | d::l,xs=>∃x r,xs=x::r/\Rp K G d x/\RpL K G l r
end
variable {K:W7}
def Yy(h:Same G G')(r:Rd G a u):Rd G' a u:=by
 rcases r with r|⟨o,r⟩
 .exact .inl (h _ _ r)
 .exact .inr ⟨o,h _ _ r⟩
def Dc.mono(g:Same G G')(h:∀o,H a=some o->H' a=some o)(d:Dc t G H a c vxs):Dc t G' H' a c vxs:=by
 rcases d with⟨e,j,i,b⟩|⟨e,f,r,i,b,n,l,s⟩
 .exact .inl ⟨e,j,h _ i,b⟩
 .refine .inr ⟨e,f,r,h _ i,b,n,l,λp k=>?_⟩
  obtain⟨ys,m,q⟩:=s p k;exact⟨ys,g _ _ m,q⟩
theorem Dc.someT(d:Dc t G H a e vxs):∃o,H a=some o/\∀xs,o≠.tup xs:=by
 rcases d with⟨_,c,b,_⟩|⟨_,f,g,b,_⟩
 .grind
 .exact⟨_,b,λxs z=>by cases z⟩
theorem Dc.some(d:Dc t G H a e vxs):∃o,H a=some o/\∀xs,o≠.lst xs:=by
 rcases d with⟨_,c,b,_⟩|⟨_,f,g,b,_⟩
 .grind
 .exact⟨_,b,λxs z=>by cases z⟩
mutual
theorem Rp.mono{G G':Hp}(h:Same G G'):∀{d:D}{v:V},Rp K G d v->Rp K G' d v
 | .non,_,r=>r
 | .bl _,_,r=>r
 | .int _,_,r=>r
 | .str _,_,r=>r
 | .tup l,_,r=>by
   obtain⟨a,xs,e,g,q⟩:=r;exact⟨a,xs,e,h _ _ g,RpL.mono h q⟩
 | .lst l,_,r=>by
   obtain⟨a,xs,e,g,q⟩:=r;exact⟨a,xs,e,Yy h g,RpL.mono h q⟩
 | .scr ns,_,r=>by
   obtain⟨a,e,g⟩:=r;exact⟨a,e,h.seq g⟩
 | .dct t ks vs,_,r=>by
   obtain⟨a,b,vxs,e,g,j,f⟩:=r;exact⟨a,b,vxs,e,g.mono h λo=>h _ o,RpL.mono h j,RpL.mono h f⟩
 | .obj c ks vs,_,r=>by
   obtain⟨a,C,i,xs,e,n,g,l,q⟩:=r;exact⟨a,C,i,xs,e,n,h _ _ g,l,RpL.mono h q⟩
 | .adr _,_,r=>r
theorem RpL.mono{G G':Hp}(h:Same G G'):∀{l:AQ}{xs:AN},RpL K G l xs->RpL K G' l xs
 | [],_,r=>r
 | d::l,_,r=>by
   obtain⟨x,xs,e,g,q⟩:=r;exact⟨x,xs,e,Rp.mono h g,RpL.mono h q⟩
end
section
variable {G:Hp}
theorem RpL.length:∀{l:AQ}{xs:AN},RpL K G l xs->xs.length=l.length
 | [],_,r=>by subst r;rfl
 | d::l,_,r=>by
   obtain⟨x,xs,rfl,_,q⟩:=r;simp[RpL.length q]
theorem RpL.get:∀{l:AQ}{xs:AN}{i:Nat}{d:D},RpL K G l xs->l[i]?=some d->∃x,xs[i]?=some x/\Rp K G d x
 | [],_,_,_,_,e=>by simp at e
 | d::l,_,0,_,r,e=>by
   rw[RpL]at r;grind
 | d::l,_,i+1,_,r,e=>by
   obtain⟨x,xs,rfl,g,q⟩:=r;obtain⟨y,a,b⟩:=RpL.get  q (by simpa using e);grind
def RpL.nil:RpL K G [] []:=by rw[RpL]
theorem RpL.cons(h:Rp K G d x)(q:RpL K G l xs):RpL K G (d::l) (x::xs):=by rw[RpL];grind
theorem RpL.append:∀{l m:AQ}{xs ys:AN},RpL K G l xs->RpL K G m ys->RpL K G (l++m) (xs++ys)
 | [],_,_,_,r,q=>by rw[RpL]at r;grind
 | d::l,m,_,ys,r,q=>by
   obtain⟨x,xs,rfl,g,r⟩:=r;exact .cons g (RpL.append r q)
def RpL.one(h:Rp K G d x):RpL K G [d] [x]:=.cons h .nil
theorem RpL.take:∀{l:AQ}{xs:AN} (n:Nat),RpL K G l xs->RpL K G (l.take n) (xs.take n)
 | _,_,0,_=>.nil
 | [],_,_+1,r=>by subst r;exact .nil
 | d::l,_,n+1,r=>by
   obtain⟨x,xs,rfl,g,r⟩:=r;exact .cons g (RpL.take n r)
theorem RpL.drop:∀{l:AQ}{xs:AN} (n:Nat),RpL K G l xs->RpL K G (l.drop n) (xs.drop n)
 | _,_,0,r=>r
 | [],_,_+1,r=>by subst r;exact .nil
 | d::l,_,n+1,r=>by
   obtain⟨x,xs,rfl,g,r⟩:=r;exact RpL.drop n r
theorem RpL.reverse:∀{l:AQ}{xs:AN},RpL K G l xs->RpL K G l.reverse xs.reverse
 | [],_,r=>by subst r;exact .nil
 | d::l,_,r=>by
   obtain⟨x,xs,rfl,g,r⟩:=r;rw[List.reverse_cons,List.reverse_cons];exact r.reverse.append (.one g)
theorem RpL.ints:∀(ns:AG),RpL K G (ns.map D.int) (ns.map V.int)
 | []=>.nil
 | n::ns=>.cons (by rw[Rp]) (RpL.ints ns)
end
structure Gr(H G H' G':Hp):Prop where
 h:Same H H'
 g:Same G G'
 s:Same G' H'
 n:∀a,G a=none->G' a≠none->H a=none
def Gr.refl(s:Same G H):Gr H G H G:=⟨Same.refl _,Same.refl _,s,λ_ h h'=>absurd h h'⟩
def Gr.trans(a:Gr H G f c)(b:Gr f c d G2):Gr H G d G2:=
 ⟨a.h.trans b.h,a.g.trans b.g,b.s,λx h h'=>by
  by_cases e:c x=none
  .exact a.h.free (b.n x e h')
  .exact a.n x h e⟩
theorem Gr.new(s:Same G H)(a:H p=none)(o:HO):Gr H G (upd H p o) (upd G p o):=by
 refine⟨λb u e=>?_,λb u e=>?_,λb u e=>?_,λb h h'=>?_⟩
 .rw[Yi (Yl e a)];exact e
 .rw[Yi (Yl e (s.free a))];exact e
 .by_cases q:b=p
  .subst q;rw[Yk]at e ⊢;exact e
  .rw[Yi q]at e ⊢;exact s _ _ e
 .by_cases q:b=p
  .grind
  .rw[Yi q]at h';grind
def Gr.hid(s:Same G H)(a:H p=none)(o:HO):Gr H G (upd H p o) G:=by
 refine⟨λb u e=>?_,Same.refl _,λb u e=>?_,λb h h'=>absurd h h'⟩
 .rw[Yi (Yl e a)];exact e
 .rw[Yi (Yl e (s.free a))];exact s _ _ e
theorem Gr.show(g:Gr H G H' G')(c:H p=none)(a:G' p=none)(e:H' p=some o):Gr H G H' (upd G' p o):=by
 refine⟨g.h,λb u q=>?_,λb u q=>?_,λb h h'=>?_⟩
 .have:=g.g b u q
  rw[Yi (Yl this a)];exact this
 .by_cases z:b=p
  .subst z;rw[Yk]at q;grind
  .rw[Yi z]at q;exact g.s b u q
 .by_cases z:b=p
  .grind
  .rw[Yi z]at h';exact g.n b h h'
def Ct(K:W7)(G H:Hp):D->V->Prop
 | .non,v=>v=V.non
 | .bl b,v=>v=V.bl b
 | .int i,v=>v=V.int i
 | .str x,v=>v=V.str x/\PyData.strOk x=true
 | .tup l,v=>∃a xs,v=V.ref a/\(H a=some (HO.tup xs)/\G a=some (HO.tup xs))/\RpL K G l xs
 | .lst l,v=>∃a xs,v=V.ref a/\Rd H a (HO.lst xs)/\RpL K G l xs
 | .scr ns,v=>∃a,v=V.ref a/\SqL K H a (ns.map V.int)
 | .dct t ks vs,v=>∃a d vxs,v=V.ref a/\Dc t G H a d vxs/\RpL K G ks d/\RpL K G vs vxs
 | .obj c ks vs,v=>∃a C e xs,v=V.ref a/\W.nsIn K mainGlobals c=some (some (.ref C))/\G a=some (HO.ins C e (ks.zip xs))/\xs.length=ks.length/\RpL K G vs xs
 | .adr a,v=>v=V.ref a
def Ct.of(s:Same G H)(r:Rp K G d v):Ct K G H d v:=by
 cases d<;>rw[Rp]at r<;>rw[Ct]
 .exact r
 .exact r
 .exact r
 .exact r
 .obtain⟨a,xs,e,g,q⟩:=r
  exact⟨a,xs,e,⟨s _ _ g,g⟩,q⟩
 .obtain⟨a,xs,e,g,q⟩:=r
  exact⟨a,xs,e,Yy s g,q⟩
 .obtain⟨a,e,g⟩:=r
  exact⟨a,e,s.seq g⟩
 .obtain⟨a,b,vxs,e,g,f,c⟩:=r
  exact⟨a,b,vxs,e,g.mono (Same.refl _) λo=>s _ o,f,c⟩
 .exact r
 .exact r
def Ct.rp(s:Same G H)(r:Ct K G H d v):Rp K H d v:=by
 cases d<;>rw[Ct]at r<;>rw[Rp]
 .exact r
 .exact r
 .exact r
 .exact r
 .obtain⟨a,xs,e,g,q⟩:=r
  exact⟨a,xs,e,g.1,q.mono s⟩
 .obtain⟨a,xs,e,g,q⟩:=r
  exact⟨a,xs,e,g,q.mono s⟩
 .exact r
 .obtain⟨a,b,vxs,e,g,h,c⟩:=r
  exact⟨a,b,vxs,e,g.mono s λ_ z=>z,h.mono s,c.mono s⟩
 .obtain⟨a,C,f,xs,e,n,g,l,q⟩:=r
  exact⟨a,C,f,xs,e,n,s _ _ g,l,q.mono s⟩
 .exact r
def Ct.grow(g:Gr H G H' G')(r:Ct K G H d v):Ct K G' H' d v:=by
 cases d<;>rw[Ct]at r<;>rw[Ct]
 .exact r
 .exact r
 .exact r
 .exact r
 .obtain⟨a,xs,e,h,q⟩:=r
  exact⟨a,xs,e,⟨g.h _ _ h.1,g.g _ _ h.2⟩,q.mono g.g⟩
 .obtain⟨a,xs,e,h,q⟩:=r
  exact⟨a,xs,e,Yy g.h h,q.mono g.g⟩
 .obtain⟨a,e,h⟩:=r
  exact⟨a,e,g.h.seq h⟩
 .obtain⟨a,b,vxs,e,h,i,c⟩:=r
  exact⟨a,b,vxs,e,h.mono g.g λo=>g.h _ o,i.mono g.g,c.mono g.g⟩
 .obtain⟨a,C,f,xs,e,n,h,l,q⟩:=r
  exact⟨a,C,f,xs,e,n,g.g _ _ h,l,q.mono g.g⟩
 .exact r
def jq(K:W7)(G H:Hp):AQ->AN->Prop
 | [],xs=>xs=[]
 | d::l,xs=>∃x r,xs=x::r/\Ct K G H d x/\jq K G H l r
inductive B where
 | sh (d:D)|ow (l:AQ)|od (t:Bool) (ks vs:AQ)
abbrev AR:=Option B
abbrev Ro:=List AR
abbrev AW:=Ro->Option AQ
abbrev AV:=Ro->Option D
abbrev AU:=Ro->Option Bool
abbrev AT:=D->Ro->Option Ro
structure SR(K:W7)(H0 G0:Hp)(σ:L2.St)(H G:Hp)(ρ:Ro):Prop where
 gr:Gr H0 G0 H G
 len:σ.length=ρ.length
 sh:∀(i:Nat) d,ρ[i]?=some (some (B.sh d))->∃v,σ[i]?=some (some v)/\Rp K G d v
 ow:∀(i:Nat) l,ρ[i]?=some (some (B.ow l))->∃a xs,σ[i]?=some (some (V.ref a))/\G a=none/\H0 a=none/\H a=some (.lst xs)/\RpL K G l xs
 ap:∀(i j:Nat) l l' a b,ρ[i]?=some (some (B.ow l))->ρ[j]?=some (some (B.ow l'))->i≠j->σ[i]?=some (some (V.ref a))->σ[j]?=some (some (V.ref b))->a≠b
 od:∀(i:Nat) t ks vs,ρ[i]?=some (some (B.od t ks vs))->∃a kxs vxs,σ[i]?=some (some (V.ref a))/\G a=none/\H0 a=none/\Dc t G H a kxs vxs/\RpL K G ks kxs/\RpL K G vs vxs
 apd:∀(i j:Nat) t ks vs t' ks' vs' a b,ρ[i]?=some (some (B.od t ks vs))->ρ[j]?=some (some (B.od t' ks' vs'))->i≠j->σ[i]?=some (some (V.ref a))->σ[j]?=some (some (V.ref b))->a≠b
section
variable {H0 G0 H G H' G':Hp}{σ:L2.St}{ρ:Ro}
def SR.mkSh(g:Gr H0 G0 H G)(e:σ.length=ρ.length)(n:∀(i:Nat) d,ρ[i]?=some (some (B.sh d))->∃v,σ[i]?=some (some v)/\Rp K G d v)(f:∀(i:Nat) l,ρ[i]?≠some (some (B.ow l)))(c:∀(i:Nat) t ks vs,ρ[i]?≠some (some (B.od t ks vs))):SR K H0 G0 σ H G ρ:=
 ⟨g,e,n,λi l h=>absurd h (f i l),λi j l o a b h=>absurd h (f i l),λi t ks vs h=>absurd h (c i t ks vs),λi j t ks vs t' k m a b h=>absurd h (c i t ks vs)⟩
theorem Gn(g:Gr H G H' G')(h:H a=some o)(n:G a=none):G' a=none:=by
 cases q:G' a with
 | none=>rfl
 | some o=>
   have:=g.n a n (by grind);grind
def SR.grow(s:SR K H0 G0 σ H G ρ)(g:Gr H G H' G'):SR K H0 G0 σ H' G' ρ:=by
 refine⟨s.gr.trans g,s.len,λi d e=>?_,λi l e=>?_,s.ap,λi t ks vs e=>?_,s.apd⟩
 .obtain⟨v,f,b⟩:=s.sh i d e
  exact⟨v,f,b.mono g.g⟩
 .obtain⟨a,xs,f,b,k,c,j⟩:=s.ow i l e
  exact⟨a,xs,f,Gn g c b,k,g.h _ _ c,j.mono g.g⟩
 .obtain⟨a,h,vxs,f,b,k,c,j,m⟩:=s.od i t ks vs e
  obtain⟨o,n,_⟩:=c.some;exact⟨a,h,vxs,f,Gn g n b,k,c.mono g.g λo=>g.h _ o,j.mono g.g,m.mono g.g⟩
def SR.seen(s:SR K H0 G0 σ H G ρ):Same G H:=s.gr.s
theorem Yh{a:Type}{l:List a}{x y:a}(h:(l.set i x)[j]?=some y):(j=i/\y=x/\i<l.length)\/(j≠i/\l[j]?=some y):=by grind
theorem SR.set_sh(s:SR K H0 G0 σ H G ρ)(i:Nat)(r:Rp K G d v):SR K H0 G0 (σ.set i (some v)) H G (ρ.set i (↑d)):=by
 refine⟨s.gr,by simp[s.len],λj e h=>?_,λj l h=>?_,λj k l A a b c f p n m=>?_,λj t ks vs h=>?_,λj k t ks vs t' o q a b c f p n m=>?_⟩
 .rcases Yh h with⟨rfl,e1,x⟩|⟨g,h⟩
  .cases e1
   exact⟨v,by rw[List.getElem?_set_self (by rw[s.len];exact x)],r⟩
  .obtain⟨w,y,z⟩:=s.sh j e h
   grind
 .rcases Yh h with⟨rfl,e1,x⟩|⟨g,h⟩
  .cases e1
  .obtain⟨a,xs,y,z⟩:=s.ow j l h
   grind
 .rcases Yh c with⟨rfl,e1,_⟩|⟨g,c⟩
  .cases e1
  .rcases Yh f with⟨rfl,e1,_⟩|⟨u,f⟩
   .cases e1
   .rw[Qp (Ne.symm g)]at n
    rw[Qp (Ne.symm u)]at m;exact s.ap j k l A a b c f p n m
 .rcases Yh h with⟨rfl,e1,x⟩|⟨g,h⟩
  .cases e1
  .obtain⟨a,B,vxs,y,z⟩:=s.od j t ks vs h
   grind
 .rcases Yh c with⟨rfl,e1,_⟩|⟨g,c⟩
  .cases e1
  .rcases Yh f with⟨rfl,e1,_⟩|⟨u,f⟩
   .cases e1
   .rw[Qp (Ne.symm g)]at n
    rw[Qp (Ne.symm u)]at m;exact s.apd j k t ks vs t' o q a b c f p n m
theorem SR.set_ow(s:SR K H0 G0 σ H G ρ)(i:Nat)(g:Gr H G H' G')(E:H p=none)(I:G' p=none)(e:H' p=some (.lst xs))(r:RpL K G' l xs):SR K H0 G0 (σ.set i (some (.ref p))) H' G' (ρ.set i (some (.ow l))):=by
 have s':=s.grow g
 have L:∀(j:Nat) l a,ρ[j]?=some (some (B.ow l))->σ[j]?=some (some (V.ref a))->a≠p:=λj l a d c z=>by
  obtain⟨b,ys,y,_,_,J,_⟩:=s.ow j l d;grind
 refine⟨s'.gr,by simp[s.len],λj e h=>?_,λj l h=>?_,λj k l F a b d c q m n=>?_,λj t ks vs h=>?_,λj k t ks vs t' x v a b d c q m n=>?_⟩
 .rcases Yh h with⟨rfl,e1,o⟩|⟨f,h⟩
  .cases e1
  .obtain⟨w,y,C⟩:=s'.sh j e h
   grind
 .rcases Yh h with⟨rfl,e1,o⟩|⟨f,h⟩
  .cases e1
   exact⟨p,xs,by rw[List.getElem?_set_self (by rw[s.len];exact o)],I,s.gr.h.free E,e,r⟩
  .obtain⟨a,xs,y,C⟩:=s'.ow j l h
   grind
 .rcases Yh d with⟨rfl,e1,o⟩|⟨f,u⟩
  .grind
  .rcases Yh c with⟨rfl,e2,o⟩|⟨A,c⟩
   .grind
   .rw[Qp (Ne.symm f)]at m
    rw[Qp (Ne.symm A)]at n;exact s.ap j k l F a b u c q m n
 .rcases Yh h with⟨rfl,e1,o⟩|⟨f,h⟩
  .cases e1
  .obtain⟨a,D,vxs,y,C⟩:=s'.od j t ks vs h
   grind
 .rcases Yh d with⟨rfl,e1,_⟩|⟨f,d⟩
  .cases e1
  .rcases Yh c with⟨rfl,e1,_⟩|⟨A,c⟩
   .cases e1
   .rw[Qp (Ne.symm f)]at m
    rw[Qp (Ne.symm A)]at n;exact s.apd j k t ks vs t' x v a b d c q m n
theorem SR.mut(s:SR K H0 G0 σ H G ρ)(O:ρ[i]?=some (some (B.ow l)))(E:σ[i]?=some (some (V.ref a)))(r:RpL K G P ys):SR K H0 G0 σ (upd H a (.lst ys)) G (ρ.set i (some (.ow P))):=by
 obtain⟨T,xs,N,M,L,Y,Z⟩:=s.ow i l O;rw[E]at N;cases N;refine⟨⟨λb o e=>?_,s.gr.g,λb o e=>?_,s.gr.n⟩,by simp[s.len],λj e h=>?_,λj m h=>?_,λj k m F b c d f v y J=>?_,λj t ks vs h=>?_,λj k t ks vs t' C D b c d f v y J=>?_⟩
 .rw[Yi (Yl e L)];exact s.gr.h b o e
 .rw[Yi (Yl e M)];exact s.gr.s b o e
 .rcases Yh h with⟨rfl,e1,_⟩|⟨n,h⟩
  .cases e1
  .exact s.sh j e h
 .rcases Yh h with⟨rfl,e1,_⟩|⟨n,h⟩
  .cases e1
   exact⟨a,ys,E,M,L,Yk,r⟩
  .obtain⟨b,R,p,I,x,u,w⟩:=s.ow j m h
   exact⟨b,R,p,I,x,by rw[Yi (s.ap j i m l b a h O n p E)];exact u,w⟩
 .have g:∀(j:Nat) m,(ρ.set i (some (.ow P)))[j]?=some (some (B.ow m))->∃F,ρ[j]?=some (some (B.ow F)):=λj m h=>by
   grind
  obtain⟨S,e1⟩:=g j m d;obtain⟨Q,e2⟩:=g k F f;exact s.ap j k S Q b c e1 e2 v y J
 .rcases Yh h with⟨rfl,e1,_⟩|⟨n,h⟩
  .cases e1
  .obtain⟨b,A,vxs,p,I,x,u,w⟩:=s.od j t ks vs h
   refine⟨b,A,vxs,p,I,x,u.mono (Same.refl _) λo q=>?_,w⟩;obtain⟨W,q',X⟩:=u.some;rw[Yi (λz=>by grind)];exact q
 .rcases Yh d with⟨rfl,e1,_⟩|⟨n,d⟩
  .cases e1
  .rcases Yh f with⟨rfl,e1,_⟩|⟨U,f⟩
   .cases e1
   .exact s.apd j k t ks vs t' C D b c d f v y J
theorem SR.freezeT(s:SR K H0 G0 σ H G ρ)(I:ρ[i]?=some (some (B.ow l))):∃G',SR K H0 G0 σ H G' (ρ.set i (↑(.lst l)))/\∀b ys,G' b=some (.tup ys)->G b=some (.tup ys):=by
 obtain⟨a,xs,F,O,R,U,V⟩:=s.ow i l I
 have g:Same G (upd G a (.lst xs)):=λb o e=>by rw[Yi (Yl e O)];exact e
 refine⟨upd G a (.lst xs),(⟨⟨s.gr.h,s.gr.g.trans g,λb o e=>?_,λb h h'=>?_⟩,by simp[s.len],λj e h=>?_,λj m h=>?_,λj k m L b c d f y D E=>?_,λj t ks vs h=>?_,λj k t ks vs t' A x b c d f y D E=>?_⟩),λb ys e=>by
  by_cases z:b=a
  .subst z;rw[Yk]at e;cases e
  .rw[Yi z]at e;exact e⟩
 .by_cases z:b=a
  .subst z;rw[Yk]at e;grind
  .rw[Yi z]at e;exact s.gr.s b o e
 .by_cases z:b=a
  .grind
  .rw[Yi z]at h';exact s.gr.n b h h'
 .rcases Yh h with⟨rfl,e1,_⟩|⟨p,h⟩
  .cases e1
   exact⟨_,F,⟨a,xs,rfl,.inl Yk,V.mono g⟩⟩
  .obtain⟨v,n,q⟩:=s.sh j e h
   exact⟨v,n,q.mono g⟩
 .rcases Yh h with⟨rfl,e1,_⟩|⟨p,h⟩
  .cases e1
  .obtain⟨b,J,n,q,C,r,w⟩:=s.ow j m h
   exact⟨b,J,n,by rw[Yi (s.ap j i m l b a h I p n F)];exact q,C,r,w.mono g⟩
 .rcases Yh d with⟨rfl,e1,_⟩|⟨p,d⟩
  .cases e1
  .rcases Yh f with⟨rfl,e1,_⟩|⟨N,f⟩
   .cases e1
   .exact s.ap j k m L b c d f y D E
 .rcases Yh h with⟨rfl,e1,_⟩|⟨p,h⟩
  .cases e1
  .obtain⟨b,u,vxs,n,q,C,r,w,M⟩:=s.od j t ks vs h
   obtain⟨S,Q,T⟩:=r.some;exact⟨b,u,vxs,n,by rw[Yi (λz=>by grind)];exact q,C,r.mono g λ_ z=>z,w.mono g,M.mono g⟩
 .rcases Yh d with⟨rfl,e1,_⟩|⟨p,d⟩
  .cases e1
  .rcases Yh f with⟨rfl,e1,_⟩|⟨N,f⟩
   .cases e1
   .exact s.apd j k t ks vs t' A x b c d f y D E
theorem SR.freeze(s:SR K H0 G0 σ H G ρ)(a:ρ[i]?=some (some (B.ow l))):∃G',SR K H0 G0 σ H G' (ρ.set i (↑(.lst l))):=by
 obtain⟨G',h,_⟩:=s.freezeT a;grind
theorem SR.freezedT(s:SR K H0 G0 σ H G ρ)(F:ρ[i]?=some (some (B.od t ks vs))):∃G',SR K H0 G0 σ H G' (ρ.set i (↑(.dct t ks vs)))/\∀b ys,G' b=some (.tup ys)->G b=some (.tup ys):=by
 obtain⟨a,A,vxs,J,M,X,C,O,S⟩:=s.od i t ks vs F;obtain⟨o,T,Y⟩:=C.some
 have d:Same G (upd G a o):=λb o e=>by rw[Yi (Yl e M)];exact e
 obtain⟨Z,V,W⟩:=C.someT
 refine⟨upd G a o,?_,λb ys e=>by
  by_cases z:b=a
  .subst z;rw[Yk]at e;grind
  .rw[Yi z]at e;exact e⟩
 refine⟨⟨s.gr.h,s.gr.g.trans d,λb I e=>?_,λb h h'=>?_⟩,by simp[s.len],λj e h=>?_,λj m h=>?_,λj k m P b c f g q u E=>?_,λj t ks vs h=>?_,λj k t ks vs t' D w b c f g q u E=>?_⟩
 .by_cases z:b=a
  .subst z;rw[Yk]at e;grind
  .rw[Yi z]at e;exact s.gr.s b I e
 .by_cases z:b=a
  .grind
  .rw[Yi z]at h';exact s.gr.n b h h'
 .rcases Yh h with⟨rfl,e1,_⟩|⟨n,h⟩
  .cases e1
   refine⟨_,J,?_⟩;refine⟨a,A,vxs,rfl,C.mono d λI z=>?_,O.mono d,S.mono d⟩;rw[T]at z;rw[Yk];exact z
  .obtain⟨v,l,p⟩:=s.sh j e h
   exact⟨v,l,p.mono d⟩
 .rcases Yh h with⟨rfl,e1,_⟩|⟨n,h⟩
  .cases e1
  .obtain⟨b,U,l,p,x,y,r⟩:=s.ow j m h
   exact⟨b,U,l,by rw[Yi (λz=>by grind)];exact p,x,y,r.mono d⟩
 .rcases Yh f with⟨rfl,e1,_⟩|⟨n,f⟩
  .cases e1
  .rcases Yh g with⟨rfl,e1,_⟩|⟨N,g⟩
   .cases e1
   .exact s.ap j k m P b c f g q u E
 .rcases Yh h with⟨rfl,e1,_⟩|⟨n,h⟩
  .cases e1
  .obtain⟨b,L,Q,l,p,x,y,r,R⟩:=s.od j t ks vs h
   exact⟨b,L,Q,l,by rw[Yi (s.apd j i _ _ _ _ _ _ b a h F n l J)];exact p,x,y.mono d λ_ z=>z,r.mono d,R.mono d⟩
 .rcases Yh f with⟨rfl,e1,_⟩|⟨n,f⟩
  .cases e1
  .rcases Yh g with⟨rfl,e1,_⟩|⟨N,g⟩
   .cases e1
   .exact s.apd j k t ks vs t' D w b c f g q u E
theorem SR.freezed(s:SR K H0 G0 σ H G ρ)(a:ρ[i]?=some (some (B.od t ks vs))):∃G',SR K H0 G0 σ H G' (ρ.set i (↑(.dct t ks vs))):=by
 obtain⟨G',h,_⟩:=s.freezedT a;grind
def Le(ρ ρ':Ro):Prop:=ρ.length=ρ'.length/\∀(i:Nat) b,ρ[i]?=some (some b)->ρ'[i]?=some (some b)
def SR.le(s:SR K H0 G0 σ H G ρ')(h:Le ρ ρ'):SR K H0 G0 σ H G ρ:=
 ⟨s.gr,s.len.trans h.1.symm,λi d e=>s.sh i d (h.2 i _ e),λi l e=>s.ow i l (h.2 i _ e),λi j l g a b e1 e2=>s.ap i j l g a b (h.2 i _ e1) (h.2 j _ e2),
  λi t ks vs e=>s.od i t ks vs (h.2 i _ e),λi j t ks vs t' f c a b e1 e2=>s.apd i j t ks vs t' f c a b (h.2 i _ e1) (h.2 j _ e2)⟩
theorem SR.rebase(s:SR K H0 G0 σ H G ρ):∃p,SR K p G σ H G ρ/\∀σ' H' G' ρ',SR K p G σ' H' G' ρ'->SR K H0 G0 σ' H' G' ρ':=by
 classical
 let c:=λa=>∃(i:Nat),((∃l:AQ,ρ[i]?=some (some (B.ow l)))\/(∃t ks vs,ρ[i]?=some (some (B.od t ks vs))))/\σ[i]?=some (some (V.ref a))
 have h0:∀a,c a->H0 a=none:=λa n=>by
  obtain⟨i,e1,e2⟩:=n;rcases e1 with⟨l,e1⟩|⟨t,ks,vs,e1⟩
  .obtain⟨b,xs,d,_,j,_⟩:=s.ow i l e1
   grind
  .obtain⟨b,f,vxs,d,_,j,_⟩:=s.od i t ks vs e1
   grind
 have k:∀a,(if c a then none else H a)=none->H0 a=none:=λa h=>by
  by_cases o:c a
  .exact h0 a o
  .rw[if_neg o]at h;exact s.gr.h.free h
 refine⟨λa=>if c a then none else H a,⟨⟨λb o e=>?_,Same.refl _,s.gr.s,λ_ h h'=>absurd h h'⟩,s.len,s.sh,λi l e=>?_,s.ap,λi t ks vs e=>?_,s.apd⟩,λσ' H' G' ρ' t=>⟨⟨λb o e=>?_,s.gr.g.trans t.gr.g,t.gr.s,λb h h'=>?_⟩,t.len,t.sh,λi l e=>?_,t.ap,λi r ks vs e=>?_,t.apd⟩⟩
 .simp_all
 .obtain⟨a,xs,d,g,j,m,q⟩:=s.ow i l e
  exact⟨a,xs,d,g,if_pos ⟨i,.inl ⟨l,e⟩,d⟩,m,q⟩
 .obtain⟨a,f,vxs,d,g,j,m⟩:=s.od i t ks vs e
  exact⟨a,f,vxs,d,g,if_pos ⟨i,.inr ⟨t,ks,vs,e⟩,d⟩,m⟩
 .refine t.gr.h b o ?_
  have z:¬c b:=λz=>by grind
  rw[if_neg z];exact s.gr.h b o e
 .by_cases z:G b=none
  .exact k b (t.gr.n b z h')
  .exact s.gr.n b h z
 .obtain⟨a,xs,d,g,j,m,q⟩:=t.ow i l e
  grind
 .obtain⟨a,f,vxs,d,g,j,m⟩:=t.od i r ks vs e
  grind
end
def tOf(K:W7)(f:AV):TE:=λσ H Q=>∃ρ d b a G,f ρ=some d/\SR K b a σ H G ρ/\∀v H' G',Gr H G H' G'->Rp K G' d v->Q v H'
def tCof(K:W7)(f:AV):TE:=λσ H Q=>∃ρ d b a G,f ρ=some d/\SR K b a σ H G ρ/\∀v H' G',Gr H G H' G'->Ct K G' H' d v->Q v H'
def tCAof(K:W7)(f:AW):TA:=λσ H Q=>∃ρ l b a G,f ρ=some l/\SR K b a σ H G ρ/\∀vs H' G',Gr H G H' G'->jq K G' H' l vs->Q vs H'
def fJ(K:W7)(f:AW):TE:=λσ H Q=>∃ρ l b a G,f ρ=some l/\SR K b a σ H G ρ/\∀p xs H' G',Gr H G H' G'->H p=none->G' p=none->H' p=some (.lst xs)->RpL K G' l xs->Q (.ref p) H'
def tTof(K:W7)(f:AU):TT:=λσ H Q=>∃ρ b c a G,f ρ=some b/\SR K c a σ H G ρ/\∀H' G',Gr H G H' G'->Q b H'
def tAof(K:W7)(f:AW):TA:=λσ H Q=>∃ρ l b a G,f ρ=some l/\SR K b a σ H G ρ/\∀vs H' G',Gr H G H' G'->RpL K G' l vs->Q vs H'
def Wk(K:W7)(J:It)(G':Hp)(ds:AQ):Prop:=ds.length<=sizeLine/\∀(i:Nat) a b,Same G' b->Same b a->
 (∀d,ds[i]?=some d->J.go i a/\∀y e,J.yld i a y e->∃c,Gr a b e c/\Rp K c d y)/\(ds.length<=i->J.stop i a)
def kQ(K:W7)(f:AW):TI:=λσ H R=>∃ρ ds b a G,f ρ=some ds/\SR K b a σ H G ρ/\∀J H' G',Gr H G H' G'->Wk K J G' ds->R J H'
inductive Out where
 | nx (ρ:Ro)|rt (d:D)|bk (ρ:Ro)|ct (ρ:Ro)
abbrev AS:=Ro->Option Out
def wR(K:W7)(b a:Hp)(F:c8):Out->Prop
 | .nx ρ'=>∀σ' H' G',SR K b a σ' H' G' ρ'->F.nx σ' H'
 | .rt d=>∀v H' G',Gr b a H' G'->Rp K G' d v->F.rt v H'
 | .bk ρ'=>∀σ' H' G',SR K b a σ' H' G' ρ'->F.bk σ' H'
 | .ct ρ'=>∀σ' H' G',SR K b a σ' H' G' ρ'->F.ct σ' H'
def o_(K:W7)(f:AS):TS:=λF σ H=>∃ρ out b a G,f ρ=some out/\SR K b a σ H G ρ/\wR K b a F out
def Gp(K:W7)(gt:AT):TG:=λv σ H Q=>∃d ρ ρ' b a G,gt d ρ=some ρ'/\SR K b a σ H G ρ/\Rp K G d v/\∀σ',SR K b a σ' H G ρ'->Q σ' H
abbrev ME(X:Cx)(e:Expr)(f:AV):Prop:=PE X e (tOf X.K f)
abbrev MC(X:Cx)(e:Expr)(f:AV):Prop:=PE X e (tCof X.K f)
abbrev pa(X:Cx)(a:AL)(f:AW):Prop:=PA X a (tCAof X.K f)
abbrev MF(X:Cx)(e:Expr)(f:AW):Prop:=PE X e (fJ X.K f)
abbrev MT(X:Cx)(e:Expr)(f:AU):Prop:=PT X e (tTof X.K f)
abbrev MA(X:Cx)(a:AL)(f:AW):Prop:=PA X a (tAof X.K f)
abbrev MI(X:Cx)(b a:Expr)(f:AW):Prop:=PI X b a (kQ X.K f)
abbrev MS(X:Cx)(st:Stmt)(f:AS):Prop:=PS X st (o_ X.K f)
abbrev MB(X:Cx)(a:List Stmt)(f:AS):Prop:=PSs X a (o_ X.K f)
abbrev MG(X:Cx)(a:Expr)(gt:AT):Prop:=PG X a (Gp X.K gt)
section
variable {X:Cx}
def PE.imp(h:PE X e t)(i:∀σ H Q,t' σ H Q->t σ H Q):PE X e t':=λpins s σ H Q I a=>h pins s σ H Q I (i σ H Q a)
def PT.imp(h:PT X e t)(i:∀σ H Q,t' σ H Q->t σ H Q):PT X e t':=λpins s σ H Q I a=>h pins s σ H Q I (i σ H Q a)
def PA.imp(h:PA X c t)(i:∀σ H Q,t' σ H Q->t σ H Q):PA X c t':=λa pins s σ H Q I b=>h a pins s σ H Q I (i σ H Q b)
def PS.imp{st:Stmt}(h:PS X st t)(i:∀F σ H,t' F σ H->t F σ H):PS X st t':=λpins s σ H F I a=>h pins s σ H F I (i F σ H a)
def PSs.imp{st:List Stmt}(h:PSs X st t)(i:∀F σ H,t' F σ H->t F σ H):PSs X st t':=λpins s σ H F I a=>h pins s σ H F I (i F σ H a)
def PI.imp(h:PI X a e t)(i:∀σ H R,t' σ H R->t σ H R):PI X a e t':=λpins s σ H R I b=>h pins s σ H R I (i σ H R b)
def PG.imp(h:PG X e t)(i:∀v σ H Q,t' v σ H Q->t v σ H Q):PG X e t':=λpins s σ H v u Q I r a=>h pins s σ H v u Q I r (i v σ H Q a)
variable {H0 G0 H G:Hp}{σ:L2.St}{ρ:Ro}
def tOf.at(e:f ρ=some d)(s:SR K H0 G0 σ H G ρ)(h:∀v H' G',Gr H G H' G'->Rp K G' d v->SR K H0 G0 σ H' G' ρ->Q v H'):tOf K f σ H Q:=
 ⟨ρ,d,H0,G0,G,e,s,λv H' G' g r=>h v H' G' g r (s.grow g)⟩
def tCof.at(e:f ρ=some d)(s:SR K H0 G0 σ H G ρ)(h:∀v H' G',Gr H G H' G'->Ct K G' H' d v->SR K H0 G0 σ H' G' ρ->Q v H'):tCof K f σ H Q:=
 ⟨ρ,d,H0,G0,G,e,s,λv H' G' g r=>h v H' G' g r (s.grow g)⟩
def tCAof.at(e:f ρ=some l)(s:SR K H0 G0 σ H G ρ)(h:∀vs H' G',Gr H G H' G'->jq K G' H' l vs->SR K H0 G0 σ H' G' ρ->Q vs H'):tCAof K f σ H Q:=
 ⟨ρ,l,H0,G0,G,e,s,λv H' G' g r=>h v H' G' g r (s.grow g)⟩
def ME.mc(h:ME X e f):MC X e f:=PE.imp h λσ H Q ⟨ρ,d,H0,G0,G,e,s,h⟩=>⟨ρ,d,H0,G0,G,e,s,λv H' G' g r=>h v H' G' g (.of g.s r)⟩
def tTof.at(e:f ρ=some b)(s:SR K H0 G0 σ H G ρ)(h:∀H' G',Gr H G H' G'->SR K H0 G0 σ H' G' ρ->Q b H'):tTof K f σ H Q:=
 ⟨ρ,b,H0,G0,G,e,s,λH' G' g=>h H' G' g (s.grow g)⟩
def tAof.at(e:f ρ=some l)(s:SR K H0 G0 σ H G ρ)(h:∀vs H' G',Gr H G H' G'->RpL K G' l vs->SR K H0 G0 σ H' G' ρ->Q vs H'):tAof K f σ H Q:=
 ⟨ρ,l,H0,G0,G,e,s,λv H' G' g r=>h v H' G' g r (s.grow g)⟩
end
end
section
variable {K:W7}
noncomputable def b2{a:Type}(b fb:AV)(g:D->D->Option a):Ro->Option a:=λρ=>(b ρ).bind λx=>(fb ρ).bind λy=>g x y
def b1{a:Type}(b:AV)(g:D->Option a):Ro->Option a:=λρ=>(b ρ).bind g
theorem pb(h:b2 a fb g ρ=some r):∃x y,a ρ=some x/\fb ρ=some y/\g x y=some r:=by
 obtain⟨x,c,h⟩:=qa h;obtain⟨y,b,h⟩:=qa h;grind
theorem dc(h:b1 a g ρ=some r):∃x,a ρ=some x/\g x=some r:=by
 obtain⟨x,b,h⟩:=qa h;grind
def dR(K:W7)(r:R2)(g:D->D->Option D):Prop:=∀(x y:V) (b a d:D) (H G:Hp) (Q:VK),g b a=some d->Same G H->Ct K G H b x->Ct K G H a y->(∀v H' G',Gr H G H' G'->Rp K G' d v->Q v H')->r x y H Q
def eA(K:W7)(r:R2)(g:D->D->Option Bool):Prop:=∀(x y:V) (c a:D) (b:Bool) (H G:Hp) (Q:VK),g c a=some b->Same G H->Ct K G H c x->Ct K G H a y->Q (.bl b) H->r x y H Q
def cU(K:W7)(r:AN->Hp->VK->Prop)(g:AQ->Option D):Prop:=∀(vs:AN) (ds:AQ) (d:D) (H G:Hp) (Q:VK),g ds=some d->Same G H->jq K G H ds vs->(∀v H' G',Gr H G H' G'->Rp K G' d v->Q v H')->r vs H Q
def eL(K:W7)(r:AN->Hp->VK->Prop)(g:AQ->Option AQ):Prop:=∀(vs:AN) (ds l:AQ) (H G:Hp) (Q:VK),g ds=some l->Same G H->jq K G H ds vs->
 (∀p xs H' G',Gr H G H' G'->H p=none->G' p=none->H' p=some (.lst xs)->RpL K G' l xs->Q (.ref p) H')->r vs H Q
section
variable {X:Cx}{a b c e:Expr}{es:AL}{fa fb fc f:AV}{ga:AW}{pos:Pos}
noncomputable def ab(i:Nat):AV:=λρ=>match ρ[i]? with
 | some (some (B.sh d))=>some d
 | _=>none
def cV(i:Nat):AW:=λρ=>match ρ[i]? with
 | some (some (B.ow l))=>some l
 | _=>none
theorem Mn(h:ab i ρ=some d):ρ[i]?=some (some (B.sh d)):=by
 unfold ab at h;grind
theorem wU(h:cV i ρ=some l):ρ[i]?=some (some (B.ow l)):=by
 unfold cV at h;grind
noncomputable def aa(i:Nat):AV:=λρ=>match ρ[i]? with
 | some (some (B.sh d))=>some d
 | some (some (B.ow l))=>some (.lst l)
 | some (some (B.od t ks vs))=>some (.dct t ks vs)
 | _=>none
noncomputable def kD(d:D):AV:=λ_=>some d
def kR(h:PE X e t)(j:∀σ H Q,Q v H->t σ H Q)(i:∀G,Rp X.K G d v):ME X e (kD d):=
 PE.imp h λσ H Q g=>by
  obtain⟨ρ,d',l,k,G,e,s,h⟩:=g;cases e;exact j σ H Q (h v H G (.refl s.seen) (i G))
def wV{j}:ME X (.Constant (.int i) j pos) (kD (.int i)):=kR  j5 (λ_ _ _ q=>q) λ_=>by rw[Rp]
def wW{j}:ME X (.Constant (.bool k) j pos) (kD (.bl k)):=kR  tN (λ_ _ _ q=>q) λ_=>by rw[Rp]
def wX{j}:ME X (.Constant .none j pos) (kD .non):=kR  tP (λ_ _ _ q=>q) λ_=>by rw[Rp]
def kT(m:dR K r g)(h:tOf K (b2 fa fb g) σ H Q):gZ r (tCof K fa) (tCof K fb) σ H Q:=by
 obtain⟨ρ,d,I,J,G,e,s,h⟩:=h;obtain⟨n,C,y,k,z⟩:=pb e;exact tCof.at y s λv E F p t l=>tCof.at k l λu j B i q x=>m v u n C d j B Q z x.seen (t.grow i) q λw H' G' o A=>h w H' G' ((p.trans i).trans o) A
def wY(m:eA K r g)(h:tTof K (b2 fa fb g) σ H Q):kl (gZ r (tCof K fa) (tCof K fb)) σ H Q:=by
 obtain⟨ρ,d,B,E,G,e,s,h⟩:=h;obtain⟨n,y,t,w,l⟩:=pb e;exact tCof.at t s λv C A o q z=>tCof.at w z λu j k i p x=>m v u n y d j k _ l x.seen (q.grow i) p ⟨d,rfl,h j k (o.trans i)⟩
def mB(f:AU):AV:=λρ=>(f ρ).map D.bl
theorem wZ{f:AU}(h:mB f ρ=some d):∃b,f ρ=some b/\d=.bl b:=by
 obtain⟨b,g,i⟩:=qc h;grind
theorem Mo(m:eA K r g)(h:tOf K (mB (b2 fa fb g)) σ H Q):gZ r (tCof K fa) (tCof K fb) σ H Q:=by
 obtain⟨ρ,d,C,F,G,e,s,h⟩:=h;obtain⟨b,o,rfl⟩:=wZ e;obtain⟨n,z,w,x,l⟩:=pb o;exact tCof.at w s λv E B p t A=>tCof.at x A λu j k i q y=>m v u n z b j k _ l y.seen (t.grow i) q (h _ j k (p.trans i) (by rw[Rp]))
def jr(j:bU X (binaryOp op) r)(i:dR X.K r g)(d:MC X a fa)(hb:MC X b fb):ME X (.BinOp a op b pos) (b2 fa fb g):=PE.imp (g7 j d hb) λ_ _ _ h=>kT i h
def hZ(k:bU X (compareOp op) r)(i:eA X.K r g)(d:MC X a fa)(hb:MC X b fb)(j:behindInMarks op b=false):ME X (.Compare a [op] [b] pos) (mB (b2 fa fb g)):=PE.imp (FK k d hb j) λ_ _ _ h=>Mo i h
def eM(k:bU X (compareOp op) r)(i:eA X.K r g)(d:MC X a fa)(hb:MC X b fb)(j:behindInMarks op b=false):MT X (.Compare a [op] [b] pos) (b2 fa fb g):=PT.imp (ve k d hb j) λ_ _ _ h=>wY i h
def kU(j:IxR X r)(i:dR X.K r g)(d:MC X a fa)(hb:MC X b fb)(hs:oU b):ME X (.Subscript a b pos) (b2 fa fb g):=PE.imp (vP j d hb hs) λ_ _ _ h=>kT i h
def i2(C:Int->Int->Bool)(g:Int->Int->Int):D->D->Option D
 | .int i,.int j=>if C i j=true then some (.int (g i j))else none
 | _,_=>none
def kW(g:Int->Int->Bool):D->D->Option Bool
 | .int i,.int j=>some (g i j)
 | _,_=>none
theorem pd(k:∀i j,n i j=true->C i j):dR K (rI C λi j=>.int (g i j)) (i2 n g):=by
 intro x y p r d H G Q h s m o q;unfold i2 at h
 split at h
 .split at h
  .rename_i i j l
   cases h;subst m;subst o;exact⟨i,j,rfl,rfl,k i j l,q _ H G (.refl s) (by rw[Rp])⟩
  .cases h
 .cases h
theorem Gq:dR K (e_ λi j=>.int (g i j)) (i2 (λ_ _=>true) g):=by
 intro x y m n d H G Q h s l k q;unfold i2 at h
 split at h
 .split at h
  .rename_i i j o
   cases h;subst l;subst k;exact⟨i,j,rfl,rfl,q _ H G (.refl s) (by rw[Rp])⟩
  .cases h
 .cases h
def pe:eA K (e_ λi j=>.bl (g i j)) (kW g):=by
 intro x y m n d H G Q h s l k q;unfold kW at h
 split at h
 .rename_i i j
  cases h;subst l;subst k;exact⟨i,j,rfl,rfl,q⟩
 .cases h
def bX:D->D->Option D:=i2 (λ_ _=>true) λi j=>i+j
def eN:D->D->Option D:=i2 (λ_ _=>true) λi j=>i-j
def eO:D->D->Option D:=i2 (λi j=>(decide (-(2^64)<i)&&decide (i<2^64))||(decide (-(2^64)<j)&&decide (j<2^64))) λi j=>i*j
def bF:D->D->Option D:=i2 (λ_ j=>decide (0<j)&&decide (j<1073741824)) λi j=>i/j
def aN:D->D->Option D:=i2 (λ_ j=>decide (0<j)) λi j=>i%j
def fg:=kW λi j=>decide (i<j)
def fi:=kW λi j=>decide (j<i)
def pf:=kW λi j=>decide (j<=i)
mutual
def bb:D->Nat
 | .tup l=>a9 l+1
 | .lst l=>a9 l+1
 | .scr _=>1
 | .dct _ _ _=>1000
 | .obj _ _ _=>1000
 | .adr _=>1000
 | _=>0
def a9:AQ->Nat
 | []=>0
 | d::l=>max (bb d) (a9 l)
end
mutual
theorem kX:∀d:D,(aF d).depth<=bb d
 | .non=>by simp[aF,PyData.depth]
 | .bl b=>by simp[aF,PyData.depth]
 | .int b=>by simp[aF,PyData.depth]
 | .str b=>by simp[aF,PyData.depth]
 | .tup l=>by have:=w4 l;simp[aF,PyData.depth,bb];lia
 | .lst l=>by have:=w4 l;simp[aF,PyData.depth,bb];lia
 | .scr ns=>by rw[aF,PyData.depth,bb,W.ke_depthAll];grind
 | .dct _ _ _=>by simp[aF,PyData.depth]
 | .obj _ _ _=>by simp[aF,PyData.depth]
 | .adr _=>by simp[aF,PyData.depth]
theorem w4:∀l,PyData.depthAll (cS l)<=a9 l
 | []=>by simp[cS,PyData.depthAll]
 | d::l=>by have g:=kX d;have h:=w4 l;simp[cS,PyData.depthAll,a9];lia
end
section
variable {pins:AC}{σ:L2.St}{H:Hp}{s:Shared}
mutual
theorem fK(I:Inv X pins σ H s):∀{d:D}{v:V}{u:Value},bb d<=100->Rp X.K H d v->RelV v u->∃j,Reads s.heap u (aF d) j/\(aF d).canLay0=true
 | .non,v,u,_,r,q=>by
   subst r;cases q;exact⟨_,by exact .none,by simp[aF,PyData.canLay0]⟩
 | .bl b,v,u,_,r,q=>by
   subst r;cases q;exact⟨_,by exact .bool b,by simp[aF,PyData.canLay0]⟩
 | .int i,v,u,_,r,q=>by
   subst r;obtain⟨t,rfl⟩:=q;exact⟨_,by exact .int i t,by simp[aF,PyData.canLay0]⟩
 | .str x,v,u,_,r,q=>by
   obtain⟨rfl,G⟩:=r;obtain⟨t,rfl⟩:=q;exact⟨_,by exact .str x t,by simp[aF,PyData.canLay0,G]⟩
 | .tup l,v,u,h,r,q=>by
   obtain⟨a,xs,rfl,g,y⟩:=r;cases q
   obtain⟨_,its,p,C⟩:=( I.hok a _ g)
   obtain⟨o,w,k,n,m⟩:=C;obtain⟨j,q,z⟩:=w_ I (by simp  [bb]at h;lia) y p;exact⟨_,.tuple w k m (by simpa using q),by simpa [aF,PyData.canLay0]using z⟩
 | .lst l,v,u,h,r,q=>by
   obtain⟨a,xs,rfl,g,y⟩:=r;cases q;obtain⟨its,p,pl,_⟩:=I.list (.inl g);obtain⟨o,w,k,n,m⟩:=pl.isList;obtain⟨j,q,z⟩:=w_ I (by simp  [bb]at h;lia) y p;exact⟨_,.list w k m (by simpa using q),by simpa [aF,PyData.canLay0]using z⟩
 | .dct _ _ _,v,u,h,r,q=>by simp[bb]at h
 | .obj _ _ _,v,u,h,r,q=>by simp[bb]at h
 | .adr _,v,u,h,r,q=>by simp[bb]at h
 | .scr ns,v,u,_,r,q=>by
   obtain⟨a,rfl,g⟩:=r;cases q;obtain⟨its,p,pl,_⟩:=I.list g;exact⟨_,W.reads_of_ints pl.isList (oS p),by rw[aF];simp[PyData.canLay0,W.ke_canLayAll0]⟩
theorem w_(I:Inv X pins σ H s):∀{l:AQ}{xs:AN}{us:AD},a9 l<=100->RpL X.K H l xs->Vals xs us->∃j,ReadsAll s.heap us (cS l) j/\PyData.canLayAll0 (cS l)=true
 | [],xs,us,_,r,q=>by
   subst r;cases q;exact⟨_,by exact .nil,by simp[cS,PyData.canLayAll0]⟩
 | d::l,xs,us,h,r,q=>by
   obtain⟨x,xs,rfl,J,E⟩:=r;rw[a9]at h
   cases q with
   | cons B A=>
     obtain⟨j,w,k⟩:=fK I (by lia) J B;obtain⟨L,m,F⟩:=w_ I (by lia) E A;exact⟨_,by exact .cons w m,by simp[cS,PyData.canLayAll0,k,F]⟩
end
end
theorem js(l:AQ)(d:D):((cS l).any λy=>PyData.eqv y (aF d))=l.any λy=>bE y d:=by
 induction l with
 | nil=>simp[cS]
 | cons e l g=>
   rw[cS,List.any_cons,g];rfl
def au(g:Bool):D->D->Option Bool:=λd e=>if bb d<=60/\bb e<=60 then some (if g then !bE d e else bE d e)else none
def h8(K:W7)(g:Bool):R2:=λx y H Q=>∃d e,Rp K H d x/\Rp K H e y/\(bb d<=60/\bb e<=60)/\Q (.bl (if g then !bE d e else bE d e)) H
theorem kY(z:X.A.units+64<cLine):bU X (compareOp .Eq) (h8 X.K false):=by
 intro pins s σ H x y v u Q I o i h;obtain⟨d,e,m,j,w,q⟩:=h;obtain⟨r,p,k⟩:=fK I (by lia) m o;obtain⟨n,t,l⟩:=fK I (by lia) j i;exact SeqAt.eqOverData X.prog X.w X.A X.xe s v u _ _ r n _ p t k l (by have:=kX d;grind) ⟨.bl _,H,I,rfl,q⟩
theorem kZ(z:X.A.units+64<cLine):bU X (compareOp .NotEq) (h8 X.K true):=by
 intro pins s σ H x y v u Q I o i h;obtain⟨d,e,m,j,w,q⟩:=h;obtain⟨r,p,k⟩:=fK I (by lia) m o;obtain⟨n,t,l⟩:=fK I (by lia) j i;exact SeqAt.neOverData X.prog X.w X.A X.xe s v u _ _ r n _ p t k l (by have:=kX d;grind) ⟨.bl _,H,I,rfl,q⟩
theorem ph:eA K (h8 K d) (au d):=by
 intro x y i j b H G Q h s k g q;unfold au at h
 split at h
 .cases h
  exact⟨i,j,k.rp s,g.rp s,by assumption,q⟩
 .cases h
def Yc:D->Option AQ
 | .tup l=>some l
 | .lst l=>some l
 | .scr ns=>some (ns.map D.int)
 | _=>none
def fL(d:D)(l:AQ):Bool:=l.any λy=>bE y d
def cJ(g:Bool):D->D->Option Bool:=λd c=>(Yc c).bind λl=>if a9 l<=60/\bb d<=60 then some (if g then !fL d l else fL d l)else none
def h9(K:W7)(g:Bool):R2:=λx y H Q=>∃d c l,Rp K H d x/\Rp K H c y/\Yc c=some l/\(a9 l<=60/\bb d<=60)/\Q (.bl (if g then !fL d l else fL d l)) H
theorem Yz{c:D}(h:Yc c=some l):c=.tup l\/c=.lst l\/∃ns,c=.scr ns/\l=ns.map D.int:=by
 cases c with
 | tup m=>cases h;grind
 | lst m=>cases h;grind
 | scr ns=>cases h;grind
 | non=>cases h
 | bl _=>cases h
 | int _=>cases h
 | str _=>cases h
 | dct _ _ _=>cases h
 | obj _ _ _=>cases h
 | adr _=>cases h
theorem xa:∀ns:AG,cS (ns.map D.int)=ns.map PyData.int
 | []=>by simp[cS]
 | n::ns=>by simp[cS,aF,xa ns]
theorem k0(B:X.A.units+64<cLine):bU X (compareOp .In) (h9 X.K false):=by
 intro pins s σ H x y v u Q I t o h;obtain⟨d,c,l,p,w,n,C,q⟩:=h;obtain⟨E,m,k⟩:=fK I (by lia) p t
 have r:bb c<=61:=by
  rcases Yz n with rfl|rfl|⟨ns,rfl,rfl⟩
  .rw[bb];lia
  .rw[bb];lia
  .rw[bb];lia
 obtain⟨A,j,i⟩:=fK I (by lia) w o;have z:=kX d;rcases Yz n with rfl|rfl|⟨ns,rfl,rfl⟩
 .rw[aF]at j i
  exact SeqAt.in_tuple_reads j m (by simpa [PyData.canLay0]using i) k (by lia) ⟨.bl _,H,I,rfl,by rw[js];exact q⟩
 .rw[aF]at j i
  exact SeqAt.in_list_reads j m (by simpa [PyData.canLay0]using i) k (by lia) ⟨.bl _,H,I,rfl,by rw[js];exact q⟩
 .rw[aF,<-xa]at j i
  exact SeqAt.in_list_reads j m (by simpa [PyData.canLay0]using i) k (by lia) ⟨.bl _,H,I,rfl,by rw[js];exact q⟩
theorem Mp(B:X.A.units+64<cLine):bU X (compareOp .NotIn) (h9 X.K true):=by
 intro pins s σ H x y v u Q I t o h;obtain⟨d,c,l,p,w,n,C,q⟩:=h;obtain⟨E,m,k⟩:=fK I (by lia) p t
 have r:bb c<=61:=by
  rcases Yz n with rfl|rfl|⟨ns,rfl,rfl⟩
  .rw[bb];lia
  .rw[bb];lia
  .rw[bb];lia
 obtain⟨A,j,i⟩:=fK I (by lia) w o;have z:=kX d;rcases Yz n with rfl|rfl|⟨ns,rfl,rfl⟩
 .rw[aF]at j i
  exact SeqAt.notIn_tuple_reads j m (by simpa [PyData.canLay0]using i) k (by lia) ⟨.bl _,H,I,rfl,by rw[js];exact q⟩
 .rw[aF]at j i
  exact SeqAt.notIn_list_reads j m (by simpa [PyData.canLay0]using i) k (by lia) ⟨.bl _,H,I,rfl,by rw[js];exact q⟩
 .rw[aF,<-xa]at j i
  exact SeqAt.notIn_list_reads j m (by simpa [PyData.canLay0]using i) k (by lia) ⟨.bl _,H,I,rfl,by rw[js];exact q⟩
theorem xb:eA K (h9 K d) (cJ d):=by
 intro x y i k b H G Q h s m g q;obtain⟨l,j,h⟩:=qa h
 split at h
 .cases h
  exact⟨i,k,l,m.rp s,g.rp s,j,by assumption,q⟩
 .cases h
end
end
section
variable {K:W7}
section
variable {X:Cx}{a b c e:Expr}{es:AL}{fa fb f:AV}{fc fd:AU}{ga:AW}{pos:Pos}{rest:AL}
def a6:D->Option Bool
 | .non=>some false
 | .bl b=>some b
 | .int i=>some (i != 0)
 | .tup l=>some (!l.isEmpty)
 | .lst l=>some (!l.isEmpty)
 | .scr ns=>some (!ns.isEmpty)
 | .str _=>none
 | .dct _ _ _=>none
 | .obj _ _ _=>none
 | .adr _=>none
theorem xc(h:a6 d=some k)(r:Ct X.K G H d v):g_ X.K v H k:=by
 cases d with
 | non=>subst r;cases h;rfl
 | bl b=>subst r;cases h;rfl
 | int i=>subst r;cases h;rfl
 | str x=>cases h
 | dct _ _ _=>cases h
 | obj _ _ _=>cases h
 | adr _=>cases h
 | tup l=>
   obtain⟨a,xs,rfl,g,j⟩:=r;cases h;refine .inr (.inl ⟨xs,.inl (.inl g.1),?_⟩);have:=j.length;grind
 | lst l=>
   obtain⟨a,xs,rfl,g,j⟩:=r;cases h;refine .inl ⟨xs,.inl g,?_⟩;have:=j.length;grind
 | scr ns=>
   obtain⟨a,rfl,g⟩:=r;cases h;refine .inl ⟨_,g,?_⟩;cases ns<;>simp
def bA(fc fd:AU):AU:=λρ=>(fc ρ).bind λk=>if k=true then fd ρ else some false
def eB(fc fd:AU):AU:=λρ=>(fc ρ).bind λk=>if k=true then some true else fd ρ
def cK(fc:AU):AU:=λρ=>(fc ρ).map (!·)
abbrev MW(X:Cx)(e:Expr)(f:AU):Prop:=PW X e (tTof X.K f)
def PW.imp(h:PW X e t)(i:∀σ H Q,t' σ H Q->t σ H Q):PW X e t':=λd pins s σ H Q I g=>h d pins s σ H Q I (i σ H Q g)
theorem xf(h:tTof K (bA fc fd) σ H Q):j6 (tTof K fc) (tTof K fd) σ H Q:=by
 obtain⟨ρ,k,p,r,G,e,s,h⟩:=h;unfold bA at e;obtain⟨g,j,e⟩:=qa e;refine tTof.at j s λq o d l=>?_
 cases g with
 | true=>
   rw[if_pos rfl]at e ⊢;exact tTof.at e l λi m n _=>h i m (d.trans n)
 | false=>
   grind
theorem xg(h:tTof K (eB fc fd) σ H Q):FA (tTof K fc) (tTof K fd) σ H Q:=by
 obtain⟨ρ,k,p,r,G,e,s,h⟩:=h;unfold eB at e;obtain⟨g,j,e⟩:=qa e;refine tTof.at j s λq o d l=>?_
 cases g with
 | false=>
   rw[if_neg qi]at e ⊢;exact tTof.at e l λi m n _=>h i m (d.trans n)
 | true=>
   grind
def fM:D->Option Bool
 | .bl b=>some b
 | _=>none
def xh(h:fM d=some k):d=.bl k:=by cases d<;>simp[fM]at h;subst h;rfl
def cq(fa fb:AV):AV:=λρ=>(b1 fa fM ρ).bind λk=>if k=true then fb ρ else some (.bl false)
def k1(fa fb:AV):AV:=λρ=>(b1 fa fM ρ).bind λk=>if k=true then some (.bl true)else fb ρ
def ec(fa:AV):AV:=λρ=>(b1 fa fM ρ).map λk=>.bl (!k)
def k3(fc:AU)(fa fb:AV):AV:=λρ=>(fc ρ).bind λk=>if k=true then fa ρ else fb ρ
def jt:D->Bool
 | .non=>true
 | _=>false
def Gs(r:Ct K G H d v):decide (v=V.non)=jt d:=by
 cases d with
 | non=>subst r;rfl
 | bl _=>subst r;rfl
 | int _=>subst r;rfl
 | str _=>obtain⟨rfl,_⟩:=r;rfl
 | tup _=>obtain⟨_,_,rfl,_⟩:=r;rfl
 | lst _=>obtain⟨_,_,rfl,_⟩:=r;rfl
 | scr _=>obtain⟨_,rfl,_⟩:=r;rfl
 | dct _ _ _=>obtain⟨_,_,_,rfl,_⟩:=r;rfl
 | obj _ _ _=>obtain⟨_,_,_,_,rfl,_⟩:=r;rfl
 | adr _=>subst r;rfl
def cb(g:Bool):D->D->Option Bool:=λd e=>if jt e then some (if g then !jt d else jt d)else none
theorem Gu:eA K (λx y H Q=>y=.non/\Q (.bl (decide (x=.non))) H) (cb false):=by
 intro x y k i b H G Q h s g j q;unfold cb at h
 split at h
 .rename_i d
  cases h;cases i<;>simp[jt]at d;exact⟨j,by rw[Gs g];exact q⟩
 .cases h
theorem Gv:eA K (λx y H Q=>y=.non/\Q (.bl (!decide (x=.non))) H) (cb true):=by
 intro x y k i b H G Q h s g j q;unfold cb at h
 split at h
 .rename_i d
  cases h;cases i<;>simp[jt]at d;exact⟨j,by rw[Gs g];exact q⟩
 .cases h
def ak:D->D->Option D
 | c,.int i=>(Yc c).bind λl=>bf l i
 | _,_=>none
theorem xi(r:RpL K G l xs)(h:bf l i=some d):∃x,bf xs i=some x/\Rp K G d x:=by
 unfold bf at h ⊢;rw[r.length];obtain⟨j,k,g⟩:=qa h;obtain⟨x,m,n⟩:=r.get g;grind
def xj:dR X.K (F2 X.K) ak:=by
 intro x y u w d H G Q h s n r q;unfold ak at h
 split at h
 .rename_i c i
  obtain⟨l,t,m⟩:=qa h;subst r;rcases Yz t with rfl|rfl|⟨ns,rfl,rfl⟩
  .obtain⟨p,xs,rfl,g,o⟩:=n
   obtain⟨v,k,j⟩:=xi o m;exact .inr (.inl ⟨p,xs,i,v,rfl,rfl,.inl (.inl g.1),k,q v H G (.refl s) j⟩)
  .obtain⟨p,xs,rfl,g,o⟩:=n
   obtain⟨v,k,j⟩:=xi o m;exact .inl ⟨p,xs,i,v,rfl,rfl,.inl g,k,q v H G (.refl s) j⟩
  .obtain⟨p,rfl,g⟩:=n
   obtain⟨v,k,j⟩:=xi   (.ints ns) m;exact .inl ⟨p,_,i,v,rfl,rfl,g,k,q v H G (.refl s) j⟩
 .cases h
def fN:D->Option Int
 | .int i=>some i
 | _=>none
def dS(f:Option AV):Ro->Option (Option Int):=λρ=>match f with
 | none=>some none
 | some f=>(b1 f fN ρ).map some
def dy(l:AQ)(lo g:Option Int):AQ:=(l.drop (HT.sIx l.length 0 lo)).take (HT.sIx l.length l.length g-HT.sIx l.length 0 lo)
def eP:D->Option AQ
 | .lst l=>some l
 | .scr ns=>some (ns.map D.int)
 | _=>none
def Mr(h:eP d=some l)(r:Ct K G H d v):∃p xs,v=.ref p/\SqL K H p xs/\RpL K G l xs:=by
 cases d with
 | lst m=>
   cases h;obtain⟨p,xs,e,g,q⟩:=r;exact⟨p,xs,e,.inl g,q⟩
 | scr ns=>
   cases h;obtain⟨p,e,g⟩:=r;exact⟨p,_,e,g,.ints ns⟩
 | non=>cases h
 | bl _=>cases h
 | int _=>cases h
 | str _=>cases h
 | tup _=>cases h
 | dct _ _ _=>cases h
 | obj _ _ _=>cases h
 | adr _=>cases h
def h_(fa:AV)(lo d:Option AV):AW:=λρ=>(b1 fa eP ρ).bind λl=>(dS lo ρ).bind λi=>(dS d ρ).bind λj=>some (dy l i j)
abbrev tO(K:W7)(f:Option AV):TO:=match f with
 | none=>FZ
 | some f=>kF (tCof K f)
def k4{f:Option AV}(e:dS f ρ=some i)(s:SR K q r σ H G ρ)(h:∀H' G',Gr H G H' G'->SR K q r σ H' G' ρ->Q i H'):tO K f σ H Q:=by
 cases f with
 | none=>
   cases e;exact h H G (.refl s.seen) s
 | some f=>
   obtain⟨k,p,rfl⟩:=qc e;obtain⟨d,n,g⟩:=dc p
   refine tCof.at n s λv l t o j m=>⟨k,?_,h l t o m⟩
   cases d<;>simp[fN]at g;subst g;exact j
def xk:PO X none (tO X.K none):=vL
def lF(f:AW):AV:=λρ=>(f ρ).map D.lst
theorem MF.me(h:MF X e g):ME X e (lF g):=PE.imp h λσ H Q i=>by
 obtain⟨ρ,d,m,u,G,e,s,h⟩:=i;obtain⟨l,t,rfl⟩:=qc e
 exact⟨ρ,l,m,u,G,t,s,λp xs H' G' g k j n r=>h _ H' _ (g.show k j n) (by
  refine⟨p,xs,rfl,.inl Yk,r.mono λb o q=>?_⟩
  rw[Yi (Yl q j)];exact q)⟩
def ae:AW:=λ_=>some []
def Yb(f:AV)(g:AW):AW:=λρ=>(f ρ).bind λd=>(g ρ).map (d::·)
def xl:MA X [] ae:=PA.imp eI λσ H Q d=>by
 obtain⟨ρ,l,i,g,G,e,s,h⟩:=d;cases e;exact h [] H G (.refl s.seen) .nil
theorem xm(p:ME X e f)(k:MA X es ga)(hs:starEach (e::es) X.env=(false,eval e X.env)::starEach es X.env:=by rfl):MA X (e::es) (Yb f ga):=PA.imp (eJ p k hs) λσ H Q g=>by
 obtain⟨ρ,l,w,A,G,e,s,h⟩:=g;obtain⟨d,t,e⟩:=qa e;obtain⟨y,m,rfl⟩:=qc e;exact tOf.at t s λv z x r q o=>tAof.at m o λvs j u i n _=>h (v::vs) j u (r.trans i) (.cons (q.mono i.g) n)
def ju:pa X [] ae:=PA.imp eI λσ H Q d=>by
 obtain⟨ρ,l,i,g,G,e,s,h⟩:=d;cases e;exact h [] H G (.refl s.seen) rfl
theorem jv(p:MC X e f)(k:pa X es ga)(hs:starEach (e::es) X.env=(false,eval e X.env)::starEach es X.env:=by rfl):pa X (e::es) (Yb f ga):=PA.imp (eJ p k hs) λσ H Q g=>by
 obtain⟨ρ,l,w,A,G,e,s,h⟩:=g;obtain⟨d,t,e⟩:=qa e;obtain⟨y,m,rfl⟩:=qc e;exact tCof.at t s λv z x r q o=>tCAof.at m o λvs j u i n _=>h (v::vs) j u (r.trans i) ⟨v,vs,rfl,q.grow i,n⟩
def a_:Nat:=1000000
def ia(h:n<=a_):n<=sizeLine:=Qg h (by decide)
def aG(ga:AW):AV:=λρ=>(ga ρ).bind λl=>if l.length<=a_ then some (.tup l)else none
def bc(ga:AW):AW:=λρ=>(ga ρ).bind λl=>if l.length<=a_ then some l else none
def cC(ga:AW)(g:AQ->Option D):AV:=λρ=>(ga ρ).bind g
def cF(ga:AW)(g:AQ->Option AQ):AW:=λρ=>(ga ρ).bind g
def k5(m:cU K r g)(h:tOf K (cC ga g) σ H Q):oQ r (tCAof K ga) σ H Q:=by
 obtain⟨ρ,d,w,x,G,e,s,h⟩:=h;obtain⟨l,t,n⟩:=qa e;exact tCAof.at t s λvs k i u p j=>m vs l d k i Q n j.seen p λv H' G' q o=>h v H' G' (u.trans q) o
def Gw(m:eL K r g)(h:fJ K (cF ga g) σ H Q):oQ r (tCAof K ga) σ H Q:=by
 obtain⟨ρ,d,z,A,G,e,s,h⟩:=h;obtain⟨l,v,n⟩:=qa e;exact tCAof.at v s λvs k j i t w=>m vs l d k j Q n w.seen t λp xs H' G' u x q y o=>h p xs H' G' (i.trans u) (i.h.free x) q y o
section
variable {x:Str}{p:Pos}{id T:String}{r:AN->Hp->VK->Prop}{g:AQ->Option D}{gf:AQ->Option AQ}
end
def bg(K:W7)(n:Nat)(g:AQ->Option D):Sp:=λvs H Q _=>vs.length=n/\∃ds d G,Same G H/\RpL K G ds vs/\g ds=some d/\∀v H' G',Gr H G H' G'->Rp K G' d v->Q v H'
theorem xn{p:Pos}(F:FnOk X.prog X.w X.K X.mg X.base bW k g m ps (bg X.K n A))(E:Room k X.A)(z:Gl X x)(hm:X.mg x=some (.ref g))(u:W.keepIn X.K (.ref g)=true)(hb:Binds X.K m ps [])(L:MA X (e::es) ga)(o:b9 x:=by decide)(w:starEach (e::es) X.env=(false,eval e X.env)::starEach es X.env:=by rfl)(j:(backTo pos (starEach es X.env)).any (·.1)=false:=by rfl)(R:∀ρ l,ga ρ=some l->l.length=n):ME X (.Call (.Name x p) (e::es) [] pos) (cC ga A):=
 PE.imp (vz  F E z hm u hb .nil gn L o w j) λσ H Q i=>by
  obtain⟨ρ,d,N,O,G,e,s,h⟩:=i;obtain⟨l,t,C⟩:=qa e;refine tAof.at t s λvs P B J q r=>?_;rw[w5];exact⟨by rw[q.length];grind,l,d,B,r.seen,q,C,λv H' G' I y=>h v H' G' (J.trans I) y⟩
def Ms(h:ae ρ=some l):l.length=0:=by cases h;rfl
theorem jw(i:∀ρ l,g ρ=some l->l.length=n):∀ρ l,Yb f g ρ=some l->l.length=n+1:=λρ l h=>by
 obtain⟨d,k,e⟩:=qa h;obtain⟨m,j,rfl⟩:=qc e;grind
def aH:AQ->Option D
 | [c]=>(Yc c).map λl=>.int l.length
 | _=>none
def k6{c:D}(h:Yc c=some l)(r:Ct K G H c v):∃p xs,v=.ref p/\(SqL K H p xs\/SqT K H p xs)/\RpL K G l xs:=by
 rcases Yz h with rfl|rfl|⟨ns,rfl,rfl⟩
 .obtain⟨p,xs,rfl,g,d⟩:=r
  exact⟨p,xs,rfl,.inr (.inl (.inl g.1)),d⟩
 .obtain⟨p,xs,rfl,g,d⟩:=r
  exact⟨p,xs,rfl,.inl (.inl g),d⟩
 .obtain⟨p,rfl,g⟩:=r
  exact⟨p,_,rfl,.inl g,.ints ns⟩
theorem gv(h:RpL K G [d] vs):∃v,vs=[v]/\Rp K G d v:=by
 obtain⟨x,r,rfl,i,g⟩:=h;rw[RpL]at g;grind
theorem ee(h:jq K G H [d] vs):∃v,vs=[v]/\Ct K G H d v:=by
 obtain⟨x,r,rfl,i,g⟩:=h;cases ( g);grind
theorem xo:cU X.K (λxs H Q=>∃p ys,xs=[.ref p]/\(SqL X.K H p ys\/SqT X.K H p ys)/\Q (.int ys.length) H) aH:=by
 intro vs ds d H G Q h s r q
 match ds,h,r with
 | [c],h,r=>
   obtain⟨l,k,rfl⟩:=qc h;obtain⟨v,rfl,g⟩:=ee r;obtain⟨p,xs,rfl,j,i⟩:=k6  k g;exact⟨p,xs,rfl,j,q _ H G (.refl s) (by rw[Rp,i.length])⟩
def eC:AQ->Option AQ
 | [c]=>Yc c
 | _=>none
def Mt:eL X.K (λxs H Q=>∃p ys,xs=[.ref p]/\(SqL X.K H p ys\/SqT X.K H p ys)/\∀l,H l=none->Q (.ref l) (upd H l (.lst ys))) eC:=by
 intro vs ds l H G Q h s r q
 match ds,h,r with
 | [c],h,r=>
   obtain⟨v,rfl,j⟩:=ee r;obtain⟨p,xs,rfl,i,g⟩:=k6  h j;exact⟨p,xs,rfl,i,λm d=>q m xs _ G (.hid s d _) d (s.free d) Yk g⟩
def aV:AQ->Option D
 | [c]=>(Yc c).map D.tup
 | _=>none
theorem xp:cU X.K (λxs H Q=>∃p ys,xs=[.ref p]/\((SqL X.K H p ys/\∀l,H l=none->Q (.ref l) (upd H l (.tup ys)))\/(SqT X.K H p ys/\Q (.ref p) H))) aV:=by
 intro vs ds d H G Q h s r q
 match ds,h,r with
 | [c],h,r=>
   obtain⟨l,n,rfl⟩:=qc h;obtain⟨v,rfl,j⟩:=ee r;rcases Yz n with rfl|rfl|⟨ns,rfl,rfl⟩
   .obtain⟨p,xs,rfl,g,k⟩:=j
    exact⟨p,xs,rfl,.inr ⟨.inl (.inl g.1),q _ H G (.refl s) (by rw[Rp];grind)⟩⟩
   .obtain⟨p,xs,rfl,g,k⟩:=j
    exact⟨p,xs,rfl,.inl ⟨.inl g,λm i=>q _ _ _ (.new s i (.tup xs)) (⟨m,xs,rfl,Yk,k.mono (Gr.new s i (.tup xs)).g⟩)⟩⟩
   .obtain⟨p,rfl,g⟩:=j
    exact⟨p,_,rfl,.inl ⟨g,λm i=>q _ _ _ (.new s i (.tup _)) (⟨m,_,rfl,Yk,.ints ns⟩)⟩⟩
def fO:AQ->Option D
 | [.int i]=>some (.int i)
 | [.bl k]=>some (.int (if k then 1 else 0))
 | _=>none
theorem xq:cU X.K (λxs H Q=>(∃i,xs=[.int i]/\Q (.int i) H)\/∃k,xs=[.bl k]/\Q (.int (if k then 1 else 0)) H) fO:=by
 intro vs ds d H G Q h s r q
 match ds,h,r with
 | [.int i],h,r=>
   cases h;obtain⟨v,rfl,g⟩:=ee r;subst g;exact .inl ⟨i,rfl,q _ H G (.refl s) (by rw[Rp])⟩
 | [.bl k],h,r=>
   cases h;obtain⟨v,rfl,g⟩:=ee r;subst g;exact .inr ⟨k,rfl,q _ H G (.refl s) (by rw[Rp])⟩
end
end
section
variable {K:W7}
section
variable {X:Cx}{e:Expr}{f:AV}{gl:AW}{pos pos':Pos}{st:Stmt}{sts:List Stmt}{fs gs:AS}
def av:AS:=λρ=>some (.nx ρ)
noncomputable def af(f g:AS):AS:=λρ=>(f ρ).bind fun
 | .nx ρ'=>g ρ'
 | o=>some o
def xt:MB X [] av:=PSs.imp FB λF σ H a=>by
 obtain⟨ρ,out,c,b,G,e,s,h⟩:=a;cases e;exact h σ H G s
def frz1(i:Nat)(ρ:Ro):Ro:=match ρ[i]? with
 | some (some (B.ow l))=>ρ.set i (↑(.lst l))
 | some (some (B.od t ks vs))=>ρ.set i (↑(.dct t ks vs))
 | _=>ρ
theorem SR.frz1(s:SR K c b σ H G ρ)(i:Nat):∃G',SR K c b σ H G' (M.frz1 i ρ):=by
 unfold M.frz1
 split
 .rename_i l a
  exact s.freeze a
 .rename_i t ks vs a
  exact s.freezed a
 grind
def frz(a:AF)(ρ:Ro):Ro:=a.foldl (λr i=>frz1 i r) ρ
theorem SR.frz:∀(a:AF) {G:Hp}{ρ:Ro},SR K c b σ H G ρ->∃G',SR K c b σ H G' (M.frz a ρ)
 | [],G,_,s=>⟨G,s⟩
 | i::a,_,ρ,s=>by
   obtain⟨G',s'⟩:=s.frz1 i;exact SR.frz a s'
theorem SR.frz1T(s:SR K d c σ H G ρ)(i:Nat):∃G',SR K d c σ H G' (M.frz1 i ρ)/\∀b ys,G' b=some (.tup ys)->G b=some (.tup ys):=by
 unfold M.frz1
 split
 .rename_i l a
  exact s.freezeT a
 .rename_i t ks vs a
  exact s.freezedT a
 grind
theorem SR.frzT:∀(a:AF) {G:Hp}{ρ:Ro},SR K j c σ H G ρ->∃G',SR K j c σ H G' (M.frz a ρ)/\∀b ys,G' b=some (.tup ys)->G b=some (.tup ys)
 | [],G,_,s=>⟨G,s,λ_ _ h=>h⟩
 | i::a,_,ρ,s=>by
   obtain⟨G',s',g⟩:=s.frz1T i;obtain⟨k,l,d⟩:=SR.frzT a s';exact⟨k,l,λb ys e=>g b ys (d b ys e)⟩
def wF(a:AF)(f:AS):AS:=λρ=>f (frz a ρ)
def az(i:Nat)(f:AV):AS:=λρ=>(f ρ).map λd=>.nx (ρ.set i (↑d))
def aO(i:Nat)(f:AW):AS:=λρ=>(f ρ).map λl=>.nx (ρ.set i (some (.ow l)))
def xu(h:o_ K (az i f) F σ H):eH (tOf K f) (ji i) F σ H:=by
 obtain⟨ρ,out,m,l,G,e,s,h⟩:=h;obtain⟨d,c,rfl⟩:=qc e;exact tOf.at c s λv b j k a g=>h _ b j (g.set_sh i a)
def xw(h:o_ K (aO i gl) F σ H):eH (fJ K gl) (ji i) F σ H:=by
 obtain⟨ρ,out,d,k,G,e,s,h⟩:=h;obtain⟨l,c,rfl⟩:=qc e;exact⟨ρ,l,d,k,G,c,s,λp xs H' G' g a j b r=>h _ H' G' (s.set_ow i g a j b r)⟩
noncomputable def ag(f:AV):AS:=λρ=>(f ρ).map .rt
def xx:MS X (.Pass pos) av:=PS.imp uI λF σ H a=>by
 obtain⟨ρ,out,c,b,G,e,s,h⟩:=a;cases e;exact h σ H G s
def aX(c:AU)(f g:AS):AS:=λρ=>(c ρ).bind λk=>if k=true then f ρ else g ρ
def cD(i:Nat)(f:AV)(g:AQ->D->Option AQ):AS:=λρ=>(cV i ρ).bind λl=>(f ρ).bind λd=>(g l d).map λa=>.nx (ρ.set i (some (.ow a)))
theorem k7(s:SR K k b σ H G ρ)(h:cV i ρ=some l):∃a xs,σ[i]?=some (some (V.ref a))/\H a=some (.lst xs)/\RpL K G l xs/\G a=none:=by
 obtain⟨a,xs,j,g,c,d,m⟩:=s.ow i l (wU h);grind
def bu(l:AQ)(d:D):Option AQ:=if l.length<a_ then some (l++[d])else none
def k8(l:ds.length<=sizeLine)(h:∀(i:Nat) a b,Same G' b->Same b a->(∀d,ds[i]?=some d->J.go i a/\∀y g,J.yld i a y g->g=a/\Rp K b d y)/\(ds.length<=i->J.stop i a)):Wk K J G' ds:=
 ⟨l,λi a b j c=>⟨λd k=>⟨((h i a b j c).1 d k).1,λy g q=>by
  obtain⟨rfl,r⟩:=((h i a b j c).1 d k).2 y g q
  exact⟨b,.refl c,r⟩⟩,(h i a b j c).2⟩⟩
variable {tg:Expr}
def xy(K:W7)(c:TE):TI:=λσ H R=>c σ H λx b=>∃a xs,x=.ref a/\((SqL K b a xs/\(xs.length<=sizeLine->R (FG K a) b))\/(SqT K b a xs/\(xs.length<=sizeLine->R (FH K a) b)))
theorem xA(t:PE X l u):PI X tg l (xy X.K u):=by
 intro pins s σ H R I h;refine aI (t pins s σ H _ I h) λv d k=>?_;obtain⟨x,m,c,n,j⟩:=k;obtain⟨a,xs,e,j⟩:=j;subst e;cases n;rcases j with⟨i,q⟩|⟨i,q⟩
 .obtain⟨its,r,p,g⟩:=c.list i
  refine wpAny_pyIter_list p.isList (⟨d.heap.objs.size,[d.heap.objs.size],_,_,m,rfl,c.kept  λb o e=>qe _ e,Lp a _,⟨_,qp _ rfl,rfl,rfl⟩,λb hb=>?_,q g⟩)
  have e:b=d.heap.objs.size:=by grind
  subst e;exact c.fpOk (qv _) (c.hok.fresh (qv _))
 .obtain⟨its,r,p,g⟩:=c.tuple i
  refine wpAny_pyIter_tuple ( p) (⟨d.heap.objs.size,[d.heap.objs.size],_,_,m,rfl,c.kept  λb o e=>qe _ e,Lq a _,⟨_,qp _ rfl,rfl,rfl⟩,λb hb=>?_,q g⟩)
  have e:b=d.heap.objs.size:=by grind
  subst e;exact c.fpOk (qv _) (c.hok.fresh (qv _))
def cL(a n:Int):AQ:=(List.range (n-a).toNat).map λi=>.int (a+(i:Nat))
def Gx(a n:Int):(cL a n).length=(n-a).toNat:=by simp[cL]
theorem k9(k:(n-a).toNat<=sizeLine):Wk K (jk a (n-a).toNat) G' (cL a n):=
 k8 (by rw[Gx];exact k) λi m o _ _=>⟨λd b=>by
  unfold cL at b;rw[Qm]at b;obtain⟨j,h,rfl⟩:=qc b
  have g:i<(n-a).toNat:=by
   grind
  rw[List.getElem?_range g]at h;cases h
  exact⟨g,λy l q=>⟨q.1,q.2⟩⟩,λc=>by rw[Gx]at c;exact c⟩
def cM:AQ->Option AQ
 | [.int n]=>if decide (-a_<=n)&&decide (n<=a_)then some (cL 0 n)else none
 | _=>none
def cW:AQ->Option AQ
 | [.int a,.int n]=>if decide (-a_<=a)&&decide (a<=a_)&&decide (-a_<=n)&&decide (n<=a_)then some (cL a n)else none
 | _=>none
theorem Mu(h:cM l=some ds):∃n:Int,l=[.int n]/\-1000000<=n/\n<=1000000/\ds=cL 0 n:=by
 unfold cM at h
 split at h
 .split at h
  .have a:a_=1000000:=by decide
   grind
  .cases h
 .cases h
theorem Mv(h:cW l=some ds):∃a n:Int,l=[.int a,.int n]/\-1000000<=a/\a<=1000000/\-1000000<=n/\n<=1000000/\ds=cL a n:=by
 unfold cW at h
 split at h
 .split at h
  .have b:a_=1000000:=by decide
   grind
  .cases h
 .cases h
def ah(i:Nat):AT:=λd ρ=>some (ρ.set i (↑d))
def fj(i j:Nat):AT:=λd ρ=>match d with
 | .tup [a,b]=>some ((ρ.set i (↑a)).set j (↑b))
 | _=>none
def forM(gt:AT)(fb:AS):AQ->AS
 | [],ρ=>some (.nx ρ)
 | d::ds,ρ=>(gt d ρ).bind λb=>(fb b).bind fun
   | .nx a=>forM gt fb ds a
   | .ct a=>forM gt fb ds a
   | .bk a=>some (.nx a)
   | .rt d=>some (.rt d)
def bY(gl:AW)(gt:AT)(fb:AS):AS:=λρ=>(gl ρ).bind λds=>forM gt fb ds ρ
theorem Gy:∀(ds:AQ) (ρ:Ro) (out:Out),forM gt fb ds ρ=some out->(∃ρ',out=.nx ρ')\/∃d,out=.rt d
 | [],ρ,out,h=>by cases h;grind
 | d::ds,ρ,out,h=>by
   obtain⟨b,g,h⟩:=qa h;obtain⟨o,c,h⟩:=qa h
   cases o with
   | nx a=>exact Gy ds a out h
   | ct a=>exact Gy ds a out h
   | bk a=>grind
   | rt d=>grind
def ai(src:List AM)(ρ:Ro):Ro:=src.map λo=>o.bind λj=>match ρ[j]? with
 | some (some (B.sh d))=>some (.sh d)
 | _=>none
theorem SR.cap(s:SR K p n σ H G ρ)(src:List AM):SR K H G (c_ src σ) H G (ai src ρ):=by
 refine SR.mkSh (.refl s.seen) (by simp[c_,ai]) (λi d h=>?_) (λi l h=>by
  unfold ai at h;rw[Qm]at h;obtain⟨o,c,b⟩:=qc h;obtain⟨j,rfl,a⟩:=qa b
  split at a<;>cases a) (λi t ks vs h=>by
  unfold ai at h;rw[Qm]at h;obtain⟨o,c,b⟩:=qc h;obtain⟨j,rfl,a⟩:=qa b
  split at a<;>cases a)
 unfold ai at h;rw[Qm]at h;obtain⟨o,c,b⟩:=qc h;obtain⟨j,rfl,a⟩:=qa b
 split at a
 .rename_i d' k
  cases a;obtain⟨v,m,g⟩:=s.sh j _ k;refine⟨v,?_,g⟩;unfold c_;rw[Qm,c];show some ((σ[j]?).join)=some (some v);rw[m];rfl
 .cases a
def dN(gt:AT)(fc:AU)(fe:AV)(ρ:Ro):AQ->Option AQ
 | []=>some []
 | d::ds=>(gt d ρ).bind λa=>(fc a).bind λk=>if k=true then (fe a).bind λv=>(dN gt fc fe ρ ds).map (v::·)else dN gt fc fe ρ ds
def Yr(gl:AW)(src:List AM)(gt:AT)(fc:AU)(fe:AV):AW:=λρ=>(gl ρ).bind λds=>dN gt fc fe (ai src ρ) ds
def tY:AU:=λ_=>some true
def xB(h:tTof K tY σ H Q):kN σ H Q:=by
 obtain⟨ρ,k,b,a,G,e,s,h⟩:=h;cases e;exact h H G (.refl s.seen)
def xC:dv X [] (tTof X.K tY):=λpins s σ H Q I h=>v9 pins s σ H Q I (xB h)
theorem xD(h:src[i]?=some none):∀ρ d a,ah i d (ai src ρ)=some a->Le (ai src ρ) a:=λρ d a e=>by
 cases e;refine⟨by simp,λj b hb=>?_⟩;by_cases c:j=i
 .unfold ai at hb
  grind
 grind
theorem Mw{src:List AM}{i k:Nat}(h:src[i]?=some none)(h':src[k]?=some none):∀ρ d a,fj i k d (ai src ρ)=some a->Le (ai src ρ) a:=λρ d a e=>by
 unfold fj at e
 split at e
 .cases e
  refine⟨by simp,λj b hb=>?_⟩
  have c:∀n,src[n]?=some none->j≠n:=λn g z=>by
   subst z;unfold ai at hb;rw[Qm,g]at hb;cases hb
  rw[Qp (Ne.symm (c k h')),Qp (Ne.symm (c i h))];exact hb
 .cases e
theorem Gz(hle:∀ρ d u,gt d (ai src ρ)=some u->Le (ai src ρ) u)(h:fJ K (Yr gl src gt fc fe) σ H Q):v_ (kQ K gl) src (Gp K gt) (tTof K fc) (tOf K fe) σ H Q:=by
 obtain⟨ρ,l,H0,G0,G,e,s,h⟩:=h;obtain⟨ds,h1,N⟩:=qa e;refine⟨ρ,ds,H0,G0,G,h1,s,λJ H1 R g1 wk p V=>?_⟩;have s1:=s.grow g1;have sc:=s1.cap src;have gp:R p=none:=s1.seen.free V
 refine⟨λi m σ' H'=>m=ds.length-i/\i<=ds.length/\∃G' a xs c,SR K H1 R σ' H' G' (ai src ρ)/\H' p=some (.lst xs)/\G' p=none/\RpL K G' a xs/\xs.length<=i/\dN gt fc fe (ai src ρ) (ds.drop i)=some c/\a++c=l,
  ⟨_,rfl,Qh _,R,[],[],l,sc.grow (Gr.hid s1.seen V _),Yk,gp,.nil,Qh _,N,rfl⟩,?_⟩
 rintro i m σ' H' ⟨rfl,hi,G',a,xs,c,s',hx,gx,rx,hl,n,T⟩;have W:=wk.2 i H' G' s'.gr.g s'.seen;by_cases A:i<ds.length
 .have hdi:=qr A
  obtain⟨go,yl⟩:=W.1 _ hdi;rw[List.drop_eq_getElem_cons A,dN]at n;obtain⟨u,e1,n⟩:=qa n;obtain⟨k,e2,n⟩:=qa n;refine .inr ⟨go,λx H2 y=>?_⟩;obtain⟨G2,U,r2⟩:=yl x H2 y
  have r:∀{Ha Z Hb S:Hp},Gr Ha Z Hb S->Ha p=some (.lst xs)->Z p=none->Hb p=some (.lst xs)/\S p=none:=λ{Ha Z Hb S} g e1 e2=>by
   refine⟨g.h _ _ e1,?_⟩
   cases q:S p with
   | none=>rfl
   | some o=>
     have:=g.n p e2 (by rw[q];exact λz=>nomatch z);rw[e1]at this;cases this
  obtain⟨hx2,gx2⟩:=r U hx gx;refine⟨_,ai src ρ,u,H1,R,G2,e1,s'.grow U,r2,λσ3 s3=>?_⟩;refine tTof.at e2 s3 λH4 G4 g4 s4=>?_;obtain⟨I,O⟩:=r g4 hx2 gx2;have le:=hle ρ _ u e1
  cases k with
  | false=>
    exact⟨ds.length-(i+1),by lia,rfl,A,G4,a,xs,c,s4.le le,I,O,(rx.mono U.g).mono g4.g,by lia,n,T⟩
  | true=>
    rw[if_pos rfl]at n ⊢;obtain⟨v,e3,n⟩:=qa n;obtain⟨C,e4,rfl⟩:=qc n;refine tOf.at e3 s4 λw H5 G5 g5 r5 s5=>?_;obtain⟨Y,L⟩:=r g5 I O;have hz:=wk.1;refine⟨xs,Y,by lia,ds.length-(i+1),by lia,rfl,A,G5,a++[v],xs++[w],C,?_,Yk,L,(((rx.mono U.g).mono g4.g).mono g5.g).append (.one r5),by simp;lia,e4,by simpa using T⟩;have E:=s5.le le
    have P:∀(i:Nat) l,(ai src ρ)[i]?≠some (some (B.ow l)):=λi l h=>by
     unfold ai at h;rw[Qm]at h;obtain⟨o,h1,N⟩:=qc h;obtain⟨j,rfl,F⟩:=qa N
     split at F<;>cases F
    have M:∀(i:Nat) t ks vs,(ai src ρ)[i]?≠some (some (B.od t ks vs)):=λi t ks vs h=>by
     unfold ai at h;rw[Qm]at h;obtain⟨o,h1,N⟩:=qc h;obtain⟨j,rfl,F⟩:=qa N
     split at F<;>cases F
    refine SR.mkSh ⟨λb o q=>?_,E.gr.g,λb o q=>?_,E.gr.n⟩ E.len E.sh P M
    .rw[Yi (Yl q V)];exact E.gr.h b o q
    .rw[Yi (Yl q L)];exact E.gr.s b o q
 .have ei:i=ds.length:=by lia
  subst ei;rw[List.drop_length,dN]at n;cases n;rw[w5]at T;subst T;exact .inl ⟨W.2 (qv _),h p xs H' G' (g1.trans s'.gr) (g1.h.free V) gx hx rx⟩
section
variable {elt iter:Expr}{ifs:AL}{scope:Scope}{N:AK}{src:List AM}{gt:AT}{fc:AU}{fe:AV}
def xE(S:aS X.N X.env.scope N src scope)(l:X.calm=true)(i:MI X tg iter gl)(j:∀a C b s H,MG (b_ X scope N a C b s H) tg gt)(m:∀a C b s H,dv (b_ X scope N a C b s H) ifs (tTof X.K fc))(k:∀a C b s H,ME (b_ X scope N a C b s H) elt fe)(g:∀ρ d c,gt d (ai src ρ)=some c->Le (ai src ρ) c)(hs:∀x,foldedSetIterable iter X.env x=pure x:=by intro _;rfl):MF X (.ListComp elt [⟨tg,iter,ifs,0⟩] scope pos) (Yr gl src gt fc fe):=
 PE.imp (wB S l i j m k hs) λ_ _ _ h=>Gz g h
theorem xF(i:Nat){o a:Pos}(hN:X.N.Nodup)(S:aS X.N X.env.scope N src scope)(E:X.calm=true)(m:MI X tg iter gl)(J:∀j C b s H,MG (b_ X scope N j C b s H) tg gt)(w:∀j C b s H,dv (b_ X scope N j C b s H) ifs (tTof X.K fc))(B:∀j C b s H,ME (b_ X scope N j C b s H) elt fe)(k:∀ρ d c,gt d (ai src ρ)=some c->Le (ai src ρ) c)(n:swapsWith (.ListComp elt [⟨tg,iter,ifs,0⟩] scope pos) (some (.Name y o)) a.line X.env=pure true:=by rfl)(u:X.N[i]?=some y:=by rfl)(v:dJ X.env.scope y:=by trivial)(A:X.fn y=true\/X.env.scope.names.lookup y=some .local:=by trivial)(hs:∀x,foldedSetIterable iter X.env x=pure x:=by intro _;rfl):MS X (.Assign [.Name y o] (.ListComp elt [⟨tg,iter,ifs,0⟩] scope pos) a) (aO i (Yr gl src gt fc fe)):=
 PS.imp (wC S E m J w B hN u v n A hs) λF σ H h=>by
  obtain⟨ρ,out,z,q,G,e,s,h⟩:=h;obtain⟨l,t,rfl⟩:=qc e;exact Gz k ⟨ρ,l,z,q,G,t,s,λp xs H' G' g O I L r=>h _ H' G' (s.set_ow i g O I L r)⟩
end
def Yd(n:Nat)(ds:AQ):Ro:=ds.map (λd=>some (.sh d))++List.replicate (n-ds.length) none
noncomputable def ao(k n:Nat)(fb:AS)(ds:AQ):Option D:=if ds.length=k then (fb (Yd n ds)).bind fun
 | .rt d=>some d
 | .nx _=>some .non
 | _=>none
 else none
theorem SR.start(s:Same G H)(r:RpL K G ds vs):SR K H G (start N vs) H G (Yd N.length ds):=by
 refine SR.mkSh (.refl s) (by simp[L2.start,Yd,r.length]) (λi d h=>?_) (λi l h=>by
  unfold Yd at h
  grind) (λi t ks vs h=>by
  unfold Yd at h
  grind)
 unfold Yd at h;rw[List.getElem?_append]at h
 split at h
 .rw[Qm]at h
  obtain⟨d',a,g⟩:=qc h;obtain⟨v,c,j⟩:=r.get a;unfold L2.start;grind
 grind
section
variable {P:P7}{w:World}{mg:AE}{base:Heap}
theorem Mx{f:Addr}(F:Fun K x c st f u)(S:aD N ps (aAa st))(p:N.length=n)(j:ps.length=m)(hb:∀(b:Value) (A:Around) (a:List Env) (s:Shared) (H:Hp) (E:XK),Room k (A.deeper (envOfC c (aAa st) (~~~s) f b))->MB (bV bW P w K mg base N c (aAa st) f b A a s H E).nox (aCa st) fb):
 FnOk P w K mg base bW (k+1) f u ps (bg K m (ao m n fb)):=by
 refine F.ok S (λvs H Q E h=>by rw[h.1,j]) λb A a s H vs Q E t h=>?_;obtain⟨B,ds,d,G,l,r,e,q⟩:=h;refine⟨_,hb b A a s H E t,?_⟩;unfold ao at e
 split at e
 .obtain⟨o,z,i⟩:=qa e
  refine⟨Yd n ds,o,H,G,G,z,by rw[<-p];exact SR.start l r,?_⟩
  cases o with
  | rt d'=>cases i;exact λv H' G' g y=>q v H' G' g y
  | nx ρ=>cases i;exact λσ' H' G' s'=>q .non H' G' s'.gr (by rw[Rp])
  | bk ρ=>cases i
  | ct ρ=>cases i
 .cases e
end
end
end
section
variable {K:W7}
def aM(P:P7)(w:World)(K:W7)(d:AE)(b:Heap)(k n:Nat)(x:Str)(ps:AK)(e:AQ->Option D):Prop:=
 ∃a c,FnOk P w K d b bW k a c ps (bg K n e)/\Binds K c ps []/\W.keepIn K (.ref a)=true/\d x=some (.ref a)
def xG{st:Stmt}(F:Fun K x q st a d)(b:Binds K d ps [])(g:e x=some (.ref a))(h:FnOk P w K e c bW k a d ps (bg K n f)):aM P w K e c k n x ps f:=⟨a,d,h,b,F.kp,g⟩
section
variable {X:Cx}{a b e:Expr}{es:AL}{fa fb:AV}{ga:AW}{pos:Pos}
def fP:D->Option D
 | .int i=>some (.int (-i))
 | _=>none
def bO:D->D->Option AQ
 | .lst a,.lst b=>if a.length+b.length<=a_ then some (a++b)else none
 | _,_=>none
def xH:R2:=λx y H Q=>∃l b xs c,x=.ref l/\y=.ref b/\Rd H l (.lst xs)/\Rd H b (.lst c)/\xs.length+c.length<=sizeLine/\∀p,H p=none->Q (.ref p) (upd H p (.lst (xs++c)))
theorem xI:bU X (binaryOp .Add) xH:=by
 intro pins s σ H x y v u Q I k f h;obtain⟨l,b,xs,t,rfl,rfl,j,i,o,q⟩:=h;cases k;cases f;obtain⟨z,its,n,r,e⟩:=j.ok I.hok;obtain⟨w,c,A,d,e2⟩:=i.ok I.hok;have p:=r.length;have m:=d.length;refine PySem.P.add_list e e2 ?_ (by grind)
 have g:its.toArray++c.toArray=(its++c).toArray:=by simp
 rw[g];exact⟨.ref _,_,I.lnew  (r.append d) (by grind),rfl,q _ I.fresh⟩
def gw:D->String
 | .non=>"NoneType"
 | .bl _=>"bool"
 | .int _=>"int"
 | .str _=>"str"
 | .tup _=>"tuple"
 | .lst _=>"list"
 | .scr _=>"list"
 | .dct _ _ _=>"dict"
 | .obj _ _ _=>"dict"
 | .adr _=>"dict"
def ic:D->Bool
 | .scr _=>false
 | .dct t _ _=>!t
 | .obj _ _ _=>false
 | .adr _=>false
 | _=>true
def eQ(T:String)(d:D):Option Bool:=if ic d=true then some (gw d==T||(T=="int"&&gw d=="bool"))else none
def xJ(c:ic d=true)(r:Ct K G H d v):cm K H v (.type (gw d)):=by
 cases d<;>rw[Ct]at r
 .subst r;exact .non
 .subst r;exact .bl _
 .subst r;exact .int _
 .obtain⟨rfl,_⟩:=r;exact .str _
 .obtain⟨a,xs,rfl,g,_⟩:=r;exact .tup g.1
 .obtain⟨a,xs,rfl,g,_⟩:=r
  rcases g with g|⟨o,g⟩
  .exact .lst g
  .exact .frz g
 .cases c
 .rename_i t _ _
  cases t with
  | true=>cases c
  | false=>
    obtain⟨a,_,_,rfl,g,_⟩:=r;rcases g with⟨_,_,g,_⟩|⟨g,_⟩
    .exact .dK g
    .cases g
 .cases c
 .cases c
def xK(T:String):Prop:=∀(K:W7) (d:D),W.kitOne K (.type (gw d)) (.type T)=some (gw d==T||(T=="int"&&gw d=="bool"))
def xM:xK "str":=λK d=>by cases d<;>rfl
def My(i:xK T):c6 X (.builtin "isinstance") (λxs H Q=>∃x d G,xs=[x,.ty T]/\ic d=true/\Ct X.K G H d x/\Q (.bl (gw d==T||(T=="int"&&gw d=="bool"))) H):=by
 intro pins s σ H xs us Q I r h;obtain⟨x,d,G,rfl,j,f,q⟩:=h;obtain⟨u,k,rfl,c,g⟩:=oN r;cases ( g)
 exact LI I c (xJ j f) (i X.K d) λtk=>⟨.bl _,H,I.tok tk,rfl,q⟩
end
end
section
variable {K:W7}
def dU(a:Int):AG->AG
 | []=>[a]
 | b::l=>if a<=b then a::b::l else b::dU a l
def dz:AG->AG
 | []=>[]
 | a::l=>dU a (dz l)
theorem xN(a:Int):∀l:AG,(dU a l).Perm (a::l)
 | []=>.refl _
 | b::l=>by
   rw[dU]
   split
   .exact .refl _
   .exact((xN a l).cons b).trans (.swap a b l)
theorem eR:∀l:AG,(dz l).Perm l
 | []=>.refl _
 | a::l=>(xN a _).trans ((eR l).cons a)
theorem GA(a:Int):∀l:AG,l.Pairwise (·<=·)->(dU a l).Pairwise (·<=·)
 | [],_=>by simp[dU]
 | b::l,h=>by
   rw[dU]
   split
   .rename_i d
    refine List.pairwise_cons.mpr ⟨λx c=>?_,h⟩;rcases qu c with rfl|c
    .exact d
    .exact Int.le_trans d ((List.pairwise_cons.mp h).1 x c)
   .refine List.pairwise_cons.mpr ⟨λx c=>?_,GA a l (List.pairwise_cons.mp h).2⟩
    rcases qu ((xN a l).mem_iff.mp c)with rfl|c
    .lia
    simp_all
theorem gy:∀l:AG,(dz l).Pairwise (·<=·)
 | []=>.nil
 | a::l=>GA a _ (gy l)
section
variable {prog:P7}{w:World}{A:Around}{E:AB}{s:Shared}
theorem Mz(m:s.heap.IsList l vs.toArray)(n:vs.length<2)(h:Q (.ref (~~~s+1)) { s with heap:=sortedAll s.heap vs vs.toArray }):wpAny (mZ prog w) A (call (.builtin "sorted") [.ref l]) Q E s:=by
 refine Calls.call_function_entry kind_sorted plain_sorted entry_sorted (args_sorted1 _) ?_;refine wa  (wc ?_);refine wa (collect_list m ?_ (by rw[jf];lia));refine wa (wpAny_newList ?_ (by rw[jf];lia))
 have e:((s.heap.push (seqObj "list" #[] 0)).update (~~~s) (Obj.mapSeq (·++vs.toArray))).objs.size= ~~~s+1:=by
  simp_all
 have g:(((s.heap.push (seqObj "list" #[] 0)).update (~~~s) (Obj.mapSeq (·++vs.toArray))).push (seqObj "list" vs.toArray 0)).get? (~~~s+1)=some (seqObj "list" vs.toArray 0):=by
  rw[<-e];exact qp _ rfl
 rw[e];refine wa (wd (we slot_list_sort ⟨_,g,rfl⟩ entry_list_sort ?body (args_list_sort _)))
 case body=>
  rw[list_sort_plain];generalize j:({ s with heap:=((s.heap.push (seqObj "list" #[] 0)).update (~~~s) (Obj.mapSeq (·++vs.toArray))).push (seqObj "list" vs.toArray 0) })=S at *
  have a:S.heap.get? (~~~s+1)=some (seqObj "list" vs.toArray 0):=by grind
  have o:=ql a;refine wa (listItems_at a rfl ?_);refine wa (listUpdate_at a rfl ?_ (by rw[qk,jf];lia) (Qh _))
  obtain⟨e1,c⟩:∃e1,(S.heap.update (~~~s+1) (Obj.mapSeq λ_=>#[])).get? (~~~s+1)=some (seqObj "list" #[] e1):=⟨_,get?_update_seq a (λ_=>#[])⟩
  refine wa (seqEpoch_at c rfl ?_);refine wa (wpAny_newTuple ?_ (by rw[jf];lia));refine wa (wpAny_newList ?_ (Qh _));refine wd ?_
  have b:(((S.heap.update (~~~s+1) (Obj.mapSeq λ_=>#[])).push (seqObj "tuple" vs.toArray 0)).push (seqObj "list" #[] 0)).get? (~~~s+1)=some (seqObj "list" #[] e1):=by
   rw[Heap.get?_push_ne _ _ _ (by rw[size_push',Heap.size_update];grind),Heap.get?_push_ne _ _ _ (by rw[Heap.size_update];grind)];exact c
  have d:vs.toArray.size<2:=by grind
  rw[if_pos d,if_pos d];refine wa (wc ?_);refine wa (wc ?_);dsimp only;refine wa (seqEpoch_at b rfl ?_);refine wa (listUpdate_at b rfl ?_ (hsz2:=by grind));simp only[bne_self_eq_false,Qo,if_false]
  have f:(arrOf (SortSt.mk' general' (vs.toArray.zip vs.toArray) #[] 7 none)).map (·.2)=vs.toArray:=by
   grind
  refine wc ⟨_,rfl,wc ⟨_,rfl,?_⟩⟩;have k:=h;rw[<-j,f];exact k
def bZ(j:Int)(q:Bool)(i:Int)(p:Bool):Bool:=if j=i then (!q&&p)else decide (j<i)
theorem GB(hb:IsTup s.heap b #[.int i t,.bool p])(k:IsTup s.heap c #[.int j u,.bool q])(h:R (bZ j q i p) s):
 wpAny (mZ prog w) A (keyLt' (tuples' true) (.ref c) (.ref b)) R E s:=by
 obtain⟨r,f,_,o,m⟩:=hb;obtain⟨v,g,_,n,l⟩:=k;refine W.kat_lt g l f m ?_;show W.KatLex prog w A true false R [(.int j u,.int i t),(.bool q,.bool p)] 0 s;unfold bZ at h;refine W.kat_cons (SeqAt.EqAt.int_int j u i t prog w _ _ (W.kat_go (λe=>W.kat_yes (W.kat_cons (SeqAt.EqAt.bool_bool q p prog w _ _ (W.kat_go (λe2=>W.kat_yes (W.kat_nil ?_)) λe2=>W.kat_no (W.kat_one _ _ (lt_bool ?_)))))) λe=>W.kat_no ?_))
 .simp_all
 .have d:=by simpa using e
  rw[if_pos d]at h
  cases p<;>cases q<;>first|exact h|simp at e2
 .have d:=by simpa using e
  rw[if_neg d]at h;exact oneLt_int h
theorem GC(h:a 1 0 (λk s'=>if k=true then G #[1,0] s' else G #[0,1] s') S):(W.kas_sort 2).kasWp a G S:=by
 show a 1 0 (λk s'=>W.KasT.kasWp a _ G s') S
 have e:∀(k:Bool) (s':Shared),(if k=true then G #[1,0] s' else G #[0,1] s')=W.KasT.kasWp a (W.KasT.bind (W.KasT.bind (if k=true then W.KasT.ret 1 else W.kas_asc (List.toArray (List.range 2)) 0 2)
  λn=>if (n==2)=true then W.KasT.ret (n,List.toArray (List.range 2))else if n > 1 then .ask ((List.toArray (List.range 2)).getD 0 0) ((List.toArray (List.range 2)).getD (n-1) 0) λc=>if c=true then .ret (n,List.toArray (List.range 2))else W.kas_descPart n 2 (W.kas_rev (List.toArray (List.range 2)) 0 n)
   else W.kas_descPart n 2 (List.toArray (List.range 2))) λr=>if r.1<2 then W.kas_bin (2-max r.1 1) r.2 (max r.1 1)else .ret r.2) G s':=λk s'=>by cases k<;>rfl
 simp_all
theorem MD(Z:s.heap.IsList l #[.ref b,.ref c])(hb:IsTup s.heap b #[.int i t,.bool p])(H:IsTup s.heap c #[.int j u,.bool q])(h:Q (.ref (~~~s+1)) { s with heap:=sortedAll s.heap [.ref b,.ref c] (if bZ j q i p=true then #[.ref c,.ref b]else #[.ref b,.ref c]) }):wpAny (mZ prog w) A (call (.builtin "sorted") [.ref l]) Q E s:=by
 generalize m:[Value.ref b,Value.ref c]=vs at *;have J:s.heap.IsList l vs.toArray:=Z
 have D:vs.length=2:=by grind
 refine Calls.call_function_entry kind_sorted plain_sorted entry_sorted (args_sorted1 _) ?_;unfold Builtin.«sorted»;refine wa (m:=checkCount "sorted" 1 1 _) (wc ?_);refine wa (collect_list J ?_ (by rw[jf];lia));refine wa (wpAny_newList ?_ (by rw[jf];lia))
 have y:((s.heap.push (seqObj "list" #[] 0)).update (~~~s) (Obj.mapSeq (·++vs.toArray))).objs.size= ~~~s+1:=by
  simp_all
 have L:(((s.heap.push (seqObj "list" #[] 0)).update (~~~s) (Obj.mapSeq (·++vs.toArray))).push (seqObj "list" vs.toArray 0)).get? (~~~s+1)=some (seqObj "list" vs.toArray 0):=by
  rw[<-y];exact qp _ rfl
 have M:∀b o,s.heap.get? b=some o->(((s.heap.push (seqObj "list" #[] 0)).update (~~~s) (Obj.mapSeq (·++vs.toArray))).push (seqObj "list" vs.toArray 0)).get? b=some o:=λb o q=>by
  have a:b< ~~~s:=ql q;rw[Heap.get?_push_ne _ _ _ (by grind),Heap.get?_update_ne _ _ _ _ (qm a),Heap.get?_push_ne _ _ _ (qm a)];exact q
 rw[y];refine wa (wd (we slot_list_sort ⟨_,L,rfl⟩ entry_list_sort ?body (args_list_sort _)))
 case body=>
  rw[list_sort_plain];generalize hS:({ s with heap:=((s.heap.push (seqObj "list" #[] 0)).update (~~~s) (Obj.mapSeq (·++vs.toArray))).push (seqObj "list" vs.toArray 0) })=S at *
  have d:S.heap.get? (~~~s+1)=some (seqObj "list" vs.toArray 0):=by grind
  have ha:(~~~s)+1<S.heap.objs.size:=ql d;refine wa (listItems_at d rfl ?_);refine wa (listUpdate_at d rfl ?_ (by rw[qk,jf];lia) (Qh _))
  obtain⟨e1,C⟩:∃e1,(S.heap.update (~~~s+1) (Obj.mapSeq λ_=>#[])).get? (~~~s+1)=some (seqObj "list" #[] e1):=⟨_,get?_update_seq d (λ_=>#[])⟩
  refine wa (seqEpoch_at C rfl ?_);refine wa (wpAny_newTuple ?_ (by show vs.length<=_;rw[jf];lia));refine wa (wpAny_newList ?_ (Qh _));refine wd ?_
  have V:(((S.heap.update (~~~s+1) (Obj.mapSeq λ_=>#[])).push (seqObj "tuple" vs.toArray 0)).push (seqObj "list" #[] 0)).get? (~~~s+1)=some (seqObj "list" #[] e1):=by
   rw[Heap.get?_push_ne _ _ _ (by rw[size_push',Heap.size_update];grind),Heap.get?_push_ne _ _ _ (by rw[Heap.size_update];grind)];exact C
  have I:∀b o,s.heap.get? b=some o->(((S.heap.update (~~~s+1) (Obj.mapSeq λ_=>#[])).push (seqObj "tuple" vs.toArray 0)).push (seqObj "list" #[] 0)).get? b=some o:=λb o q=>by
   have a:b< ~~~s:=ql q;refine qe _ (qe _ ?_);rw[Heap.get?_update_ne _ _ _ _ (qm (qx a))];grind
  generalize hS6:({ S with heap:=((S.heap.update (~~~s+1) (Obj.mapSeq λ_=>#[])).push (seqObj "tuple" vs.toArray 0)).push (seqObj "list" #[] 0) })=g
  have B:g.heap.get? (~~~s+1)=some (seqObj "list" #[] e1):=by grind
  have N:IsTup g.heap b #[.int i t,.bool p]:=by
   obtain⟨o,O,z⟩:=hb;exact⟨o,by grind,z⟩
  have R:IsTup g.heap c #[.int j u,.bool q]:=by
   obtain⟨o,O,z⟩:=H;exact⟨o,by grind,z⟩
  dsimp only
  have F:¬vs.toArray.size<2:=by grind
  rw[if_neg F,if_neg F]
  have Y:W.KatTups g.heap vs [.int i t,.int j u]:=by
   obtain⟨ob,b1,b2,n1,b3⟩:=N;obtain⟨oc,X,c2,n2,c3⟩:=R;rw[<-m];exact .cons b1 b2 b3 rfl (.cons X c2 c3 rfl .nil)
  refine wa (W.kat_kind (T:=.type "int") Y (qx (Qa 0)) (λv r=>?_) (by decide) ?_)
  .rcases qu r with rfl|r
   .exact .of_pure rfl
   .rcases qu r with rfl|r
    .exact .of_pure rfl
    .cases r
  have n:wpAny (mZ prog w) A.in1.in1 (keyLt' (tuples' true) (vs.getD 1 Value.none) (vs.getD 0 Value.none)) (λk s'=>k=bZ j q i p/\s'=g) (λ_ _=>False) g:=by
   rw[<-m];exact GB N R ⟨rfl,rfl⟩
  refine wa (wy (W.kat_run (ks:=vs) (vs:=vs) (κ:=tuples' true) (G:=λP s'=>s'=g/\P=if bZ j q i p=true then #[1,0]else #[0,1])
   (Q:=λf s'=>s'=g/\failedOf f=none/\(arrOf f).map (·.2)=if bZ j q i p=true then #[.ref c,.ref b]else #[.ref b,.ref c]) rfl (by lia) (by lia) (λP f s' O z a3 a4=>?_) ?_) ?_ λ_ _ e=>e)
  .obtain⟨rfl,rfl⟩:=a4
   refine⟨rfl,a3,?_⟩;rw[W.kat_snds rfl z,<-m];grind
  .rw[D]
   refine GC ?_;refine wy n (λk s' hk=>?_) λ_ _ x=>x;grind
  rintro⟨⟨⟩,f⟩ s' ⟨rfl,U,G⟩;dsimp only;refine wa (seqEpoch_at B rfl ?_);refine wa (listUpdate_at B rfl ?_ (Qh _) (by rw[G,jf];grind));rw[U];simp only[bne_self_eq_false,Qo,if_false];refine wc ⟨_,rfl,wc ⟨_,rfl,?_⟩⟩;have T:=h;unfold sortedAll sortedHeap at T;grind
end
def b0:AQ->Option AG
 | []=>some []
 | .int i::l=>(b0 l).map (i::·)
 | _=>none
def jx:D->Option (Int×Bool)
 | .tup [.int j,.bl q]=>some (j,q)
 | _=>none
def k_(e d:D):Option Bool:=(jx e).bind λx=>(jx d).map λy=>bZ x.1 x.2 y.1 y.2
def jy{a:Type}{x:a}{P:Prop}(h:none=some x):P:=by cases h
def xO(h:jx d=some x):d=.tup [.int x.1,.bl x.2]:=by
 cases d with
 | tup l=>cases l with
   | nil=>exact jy h
   | cons a l=>cases a with
     | int j=>cases l with
       | nil=>exact jy h
       | cons b l=>cases b with
         | bl q=>cases l with
           | nil=>exact wz h ▸ rfl
           | cons _ _=>exact jy h
         | _=>exact jy h
     | _=>exact jy h
 | _=>exact jy h
def pj(l:AQ):Option AQ:=match b0 l with
 | some ns=>if ns.length<64 then some ((dz ns).map D.int)else none
 | none=>match l with
   | [d]=>some [d]
   | [d,e]=>(k_ e d).map λk=>if k=true then [e,d]else [d,e]
   | _=>none
def ig:AQ->Option AQ
 | [.lst l]=>pj l
 | _=>none
theorem ih:∀{l:AQ}{ns:AG},b0 l=some ns->l=ns.map D.int
 | [],ns,h=>by cases h;rfl
 | .int i::l,ns,h=>by
   obtain⟨m,a,rfl⟩:=qc h;rw[ih a];rfl
 | .non::l,ns,h=>by simp[b0]at h
 | .bl _::l,ns,h=>by simp[b0]at h
 | .str _::l,ns,h=>by simp[b0]at h
 | .tup _::l,ns,h=>by simp[b0]at h
 | .lst _::l,ns,h=>by simp[b0]at h
 | .scr _::l,ns,h=>by simp[b0]at h
 | .dct _ _ _::l,ns,h=>by simp[b0]at h
 | .obj _ _ _::l,ns,h=>by simp[b0]at h
 | .adr _::l,ns,h=>by simp[b0]at h
theorem ij:∀{ns:AG}{xs:AN},RpL K G (ns.map D.int) xs->xs=ns.map V.int
 | [],xs,h=>h
 | n::ns,xs,h=>by
   obtain⟨x,r,rfl,a,b⟩:=h;rw[a,ij b];rfl
def xP(H:Hp)(x:V)(i:Int)(p:Bool):Prop:=∃a,x=.ref a/\H a=some (.tup [.int i,.bl p])
def la:AN->Hp->VK->Prop:=λvs H Q=>∃a xs,vs=[.ref a]/\Rd H a (.lst xs)/\
 ((∃ns:AG,xs=ns.map V.int/\ns.length<64/\∀p,H p=none->Q (.ref p) (upd H p (.lst ((dz ns).map V.int))))\/
  (xs.length<2/\∀p,H p=none->Q (.ref p) (upd H p (.lst xs)))\/
  (∃x y i p j q,xs=[x,y]/\xP H x i p/\xP H y j q/\∀r,H r=none->Q (.ref r) (upd H r (.lst (if bZ j q i p=true then [y,x]else [x,y])))))
theorem MH:c6 X (.builtin "sorted") la:=by
 intro pins s σ H xs us Q I r h;obtain⟨a,ys,rfl,M,h⟩:=h;obtain⟨u,rfl,L⟩:=dM r;cases L;obtain⟨its,l,pl,hz⟩:=I.list (.inl M)
 have f:∀(out:Array Value) (d:AN),Vals d out.toList->d.length<=sizeLine->Q (.ref (~~~s+1)) (upd H (~~~s+1) (.lst d))->EP X pins σ Q (.ref (~~~s+1)) { s with heap:=sortedAll s.heap its out }:=λout d B n F=>by
  obtain⟨e,he⟩:=sortedAll_at s.heap its out;exact⟨.ref (~~~s+1),_,I.laid  (λb o q=>sortedAll_old q) (Nat.le_succ _) (show ObjOk X.prog X.w _ _ _ (.lst d) from⟨n,out.toList,e,B,by simp_all⟩),rfl,F⟩
 have w:=I.hok.fresh (Nat.le_succ _);have Y:=l.length;rcases h with⟨ns,rfl,U,q⟩|⟨v,q⟩|⟨x,y,i,p,j,k,rfl,C,P,q⟩
 .have G:=oS l
  refine sorted_ints pl.isList G (by grind) λout T E v J=>?_;have e:=W.ksm_same (v.trans (eR ns).symm) J (gy ns);subst e;have hn:=(eR ns).length_eq;exact f out _ (oV E) (by grind) (q _ w)
 .refine Mz pl.isList (by lia) ?_
  grind
 .obtain⟨b,rfl,hb⟩:=C
  obtain⟨c,rfl,O⟩:=P;obtain⟨u1,u2,rfl,A,D⟩:=oN l;cases A;cases D
  obtain⟨_,ib,z,R⟩:=( I.hok b _ hb)
  obtain⟨_,Z,S,N⟩:=( I.hok c _ O)
  obtain⟨w1,w2,rfl,⟨t,rfl⟩,g⟩:=oN z;cases g;obtain⟨w3,K,rfl,⟨t',rfl⟩,m⟩:=oN S;cases m;refine MD (by simpa using pl.isList) (by simpa using R) (by simpa using N) ?_;refine f _ (if bZ j k i p=true then [.ref c,.ref b]else [.ref b,.ref c]) ?_ (by grind) (q _ w);cases bZ j k i p
  .grind
  .exact .cons rfl (.cons rfl .nil)
def GE(s:Same G H)(e:d=.tup [.int i,.bl p])(r:Rp K G d v):xP H v i p:=by
 subst e;obtain⟨a,xs,rfl,g,c⟩:=r;obtain⟨x,j,rfl,b,h⟩:=c;obtain⟨y,rfl,f⟩:=gv h;subst b;subst f;exact⟨a,rfl,s _ _ g⟩
def MJ(h:k_ e d=some k):∃j q i p,e=.tup [.int j,.bl q]/\d=.tup [.int i,.bl p]/\k=bZ j q i p:=by
 obtain⟨x,a,f⟩:=qa h;obtain⟨y,c,b⟩:=qc f;exact⟨x.1,x.2,y.1,y.2,xO a,xO c,b.symm⟩
theorem MK:eL K la ig:=by
 intro vs ds l H G Q h s r q;unfold ig at h
 split at h
 .obtain⟨v,rfl,t⟩:=ee r
  obtain⟨a,xs,rfl,g,c⟩:=t;refine⟨a,xs,rfl,g,?_⟩;unfold pj at h
  split at h
  .rename_i ns e
   split at h
   .rename_i m
    cases h;cases ih e;exact .inl ⟨ns,ij c,m,λp b=>(q p _ _ G (.hid s b _) b (s.free b) Yk (.ints _))⟩
   .cases h
  .split at h
   .cases h
    exact .inr (.inl ⟨by rw[c.length];grind,λp b=>(q p _ _ G (.hid s b _) b (s.free b) Yk c)⟩)
   .obtain⟨k,u,rfl⟩:=qc h
    obtain⟨j,y,i,x,rfl,rfl,rfl⟩:=MJ u;obtain⟨o,w,rfl,d,c⟩:=c;obtain⟨n,rfl,f⟩:=gv c;refine .inr (.inr ⟨o,n,i,x,j,y,rfl,GE s rfl d,GE s rfl f,λp b=>(q p _ _ G (.hid s b _) b (s.free b) Yk ?_)⟩);cases bZ j y i x
    .exact .cons d (.one f)
    .exact .cons f (.one d)
   .cases h
 .cases h
end
section
variable {K:W7}
theorem ML{P:P7}{w:World}{j:AE}{c:Heap}{k n:Nat}{x q:Str}{ps:AK}{st:Stmt}{a:Addr}{g:FuncData}(F:Fun K x q st a g)(b:Binds K g ps [])(m:j x=some (.ref a))(o:ps.length=n):
 aM P w K j c k n x ps (λ_=>none):=by
 have i:∀vs H Q E,¬bg K n (λ_=>none) vs H Q E:=λvs H Q E h=>by
  obtain⟨_,ds,d,G,_,_,e,_⟩:=h;cases e
 exact⟨a,g,⟨λvs H Q E h=>absurd h (i vs H Q E),λA f s H l us vs Q E _ _ _ _ h=>absurd h (i vs H Q E)⟩,b,F.kp,m⟩
section
variable {X:Cx}{e:Expr}{f fb:AV}{pos pos':Pos}
def ba:AQ->Option AH
 | []=>some []
 | .bl b::l=>(ba l).map (b::·)
 | _=>none
theorem GF:∀{l:AQ}{a:AH},ba l=some a->l=a.map D.bl
 | [],a,h=>by cases h;rfl
 | .bl i::l,a,h=>by
   obtain⟨m,b,rfl⟩:=qc h;rw[GF b];rfl
 | .non::l,ns,h=>by simp[ba]at h
 | .int _::l,ns,h=>by simp[ba]at h
 | .str _::l,ns,h=>by simp[ba]at h
 | .tup _::l,ns,h=>by simp[ba]at h
 | .lst _::l,ns,h=>by simp[ba]at h
 | .scr _::l,ns,h=>by simp[ba]at h
 | .dct _ _ _::l,ns,h=>by simp[ba]at h
 | .obj _ _ _::l,ns,h=>by simp[ba]at h
 | .adr _::l,ns,h=>by simp[ba]at h
theorem GG:∀{a:AH}{xs:AN},RpL K G (a.map D.bl) xs->xs=a.map V.bl
 | [],xs,h=>h
 | n::ns,xs,h=>by
   obtain⟨x,r,rfl,b,c⟩:=h;rw[b,GG c];rfl
theorem xQ:∀{a:AH}{us:AD},Vals (a.map V.bl) us->us=a.map Value.bool
 | [],us,h=>by cases h;rfl
 | b::a,us,h=>by
   cases h with
   | cons r t=>
     cases ( r);rw[xQ t];rfl
theorem MM(a:AH):((List.range a.length).any λi=>a.getD i false)=a.any id:=by
 induction a with
 | nil=>rfl
 | cons b a c=>
   rw[qt,List.range_succ_eq_map,List.any_cons,List.any_map];grind
theorem MN(a:AH):((List.range a.length).all λi=>a.getD i false)=a.all id:=by
 induction a with
 | nil=>rfl
 | cons b a c=>
   rw[qt,List.range_succ_eq_map,List.all_cons,List.all_map];grind
def eS(g:AH->V):AN->Hp->VK->Prop:=λvs H Q=>∃(a:Addr) (b:AH),vs=[.ref a]/\Rd H a (.lst (b.map V.bl))/\Q (g b) H
theorem GH(A:Around)(prog:P7)(w:World)(c:AH):TruthOf prog w A (λi v=>((c.map Value.bool).toArray)[i]?=some v) (λi=>c.getD i false):=λi v s Q E d g=>by
 have a:(c.map Value.bool)[i]?=some v:=by grind
 rw[Qm]at a;obtain⟨b,h,rfl⟩:=qc a;refine wpAny_truthy_bool ?_;grind
theorem xR{pins:AC}{σ:L2.St}{H:Hp}{its:AD}(hh:A.handled=none)(hl:s.heap.IsList a its.toArray)(h:∀s₂,s₂={ s with heap:=s.heap.push { cls:=.type "list_iterator",data:=.fields #[.ref a,.int 0 0] } }->Walks X.prog X.w A (~~~s) [~~~s,a] [~~~s] its.toArray.size (λi v=>its.toArray[i]?=some v) (λi h=>h.IsListIter (~~~s) a i/\h.IsList a its.toArray)->
  (s₂.heap.IsListIter (~~~s) a 0/\s₂.heap.IsList a its.toArray)->Q (.ref (~~~s)) s₂):wpAny (mZ X.prog X.w) A (pyIter (.ref a)) Q E s:=by
 have hne:a≠(~~~s):=by
  obtain⟨o,ho,_⟩:=hl;exact qm (ql ho)
 refine wpAny_pyIter_list hl (h _ rfl (Walks.list hh _ a hne _) ⟨⟨_,qp _ rfl,rfl,rfl⟩,?_⟩);obtain⟨o,ho,r⟩:=hl;exact⟨o,qe _ ho,r⟩
theorem xS{σ:L2.St}(I:Inv X pins σ H s)(k:∀b u,b∉[~~~s]->(s.heap.push o).get? b=some u->h'.get? b=some u):Inv X pins σ H { s with heap:=h',toks:=tk }:=
 I.kept λb u q=>k b u (by
  intro z
  exact absurd (ql q) (by grind)) (qe _ q)
def MO(l:X.calm=true):c6 X (.builtin "any") (eS λb=>.bl (b.any id)):=by
 intro pins s σ H xs us Q I r h;obtain⟨a,b,rfl,g,q⟩:=h;obtain⟨u,rfl,d⟩:=dM r;cases d;obtain⟨its,j,pl,m⟩:=I.list (.inl g);cases xQ j;refine call_any_walk (xR  (pins:=pins) (σ:=σ) (H:=H) ( I.ok.hd l) pl.isList λc e W st=>?_);subst e;refine⟨_,_,_,_,_,_,λi=>b.getD i false,rfl,W,st,GH _ _ _ b,λh' tk k=>⟨.bl _,H,(show Inv X pins σ H { s with heap:=h',toks:=tk } from xS I k),?_,q⟩⟩;show Value.bool _=Value.bool _;rw[qk,qf,MM]
def MQ(l:X.calm=true):c6 X (.builtin "all") (eS λb=>.bl (b.all id)):=by
 intro pins s σ H xs us Q I r h;obtain⟨a,b,rfl,g,q⟩:=h;obtain⟨u,rfl,d⟩:=dM r;cases d;obtain⟨its,j,pl,m⟩:=I.list (.inl g);cases xQ j;refine call_all_walk (xR  (pins:=pins) (σ:=σ) (H:=H) ( I.ok.hd l) pl.isList λc e W st=>?_);subst e;refine⟨_,_,_,_,_,_,λi=>b.getD i false,rfl,W,st,GH _ _ _ b,λh' tk k=>⟨.bl _,H,(show Inv X pins σ H { s with heap:=h',toks:=tk } from xS I k),?_,q⟩⟩;show Value.bool _=Value.bool _;rw[qk,qf,MN]
def dd:AQ->Option D
 | [.lst l]=>(ba l).map λa=>.bl (a.any id)
 | _=>none
def bB:AQ->Option D
 | [.lst l]=>(ba l).map λa=>.bl (a.all id)
 | _=>none
def GJ{gd:AH->D}(c:∀ds d,m ds=some d->∃l b,ds=[.lst l]/\ba l=some b/\d=gd b)(n:∀G b,Rp K G (gd b) (g b)):cU K (eS g) m:=by
 intro vs ds d H G Q h s r q;obtain⟨l,b,rfl,j,rfl⟩:=c ds d h;obtain⟨v,rfl,k⟩:=ee r;obtain⟨a,xs,rfl,g',i⟩:=k;cases GF j;cases GG i;exact⟨a,b,rfl,g',q _ H G (.refl s) (n G b)⟩
theorem xT:cU K (eS λa=>.bl (a.any id)) dd:=GJ (gd:=λa=>.bl (a.any id)) (λds d h=>by
 unfold dd at h
 split at h
 .obtain⟨a,b,rfl⟩:=qc h
  grind
 .cases h) λG a=>by rw[Rp]
theorem xU:cU K (eS λa=>.bl (a.all id)) bB:=GJ (gd:=λa=>.bl (a.all id)) (λds d h=>by
 unfold bB at h
 split at h
 .obtain⟨a,b,rfl⟩:=qc h
  grind
 .cases h) λG a=>by rw[Rp]
def lb:AN->Hp->VK->Prop:=λvs H Q=>∃(a:Addr) (ns:AG),vs=[.ref a]/\Rd H a (.lst (ns.map V.int))/\Q (.int ns.sum) H
theorem GK(ns:AG):∀n,n<=ns.length->preSum (λi=>ns.getD i 0) n=(ns.take n).sum
 | 0,_=>by simp[preSum]
 | n+1,h=>by
   rw[preSum,(GK ns n (by lia)),List.take_succ_eq_append_getElem (by lia),List.sum_append];simp[qr (show n<ns.length by lia)]
theorem MR(p:X.calm=true):c6 X (.builtin "sum") lb:=by
 intro pins s σ H xs us Q I r h;obtain⟨a,ns,rfl,x,q⟩:=h;obtain⟨u,rfl,g⟩:=dM r;cases g;obtain⟨its,l,pl,z⟩:=I.list (.inl x);have c:=(oS l).length;refine call_sum_walkG (xR  (pins:=pins) (σ:=σ) (H:=H) ( I.ok.hd p) pl.isList λj e W st=>?_);subst e;refine⟨_,_,_,_,_,_,λi=>ns.getD i 0,rfl,W,st,λb hb=>?_,λi v n=>?_,λh' tk t' k=>⟨.int _,H,(show Inv X pins σ H { s with heap:=h',toks:=tk } from xS I k),⟨t',?_⟩,q⟩⟩
 .obtain⟨o,y,_⟩:=pl.isList
  rw[wv];rcases qu hb with rfl|hb
  .exact Qa _
  .rw[List.mem_singleton.mp hb];exact qx (ql y)
 .have d:=by simpa using n
  have m:i<ns.length:=by rw[<-c];exact(qo d).1
  obtain⟨u,w,g⟩:=l.get   (by rw[Qm,qr m];rfl);rw[w]at d;cases d;obtain⟨t,rfl⟩:=g;exact⟨t,by simp[qr m]⟩
 .rw[qk,c,GK ns _ (qv _),List.take_length]
def fQ:AQ->Option D
 | [.lst l]=>(b0 l).map λns=>.int ns.sum
 | _=>none
theorem xV:cU K lb fQ:=by
 intro vs ds d H G Q h s r q;unfold fQ at h
 split at h
 .obtain⟨ns,g,rfl⟩:=qc h
  obtain⟨v,rfl,b⟩:=ee r;obtain⟨a,xs,rfl,g',c⟩:=b;cases ih g;cases ij c;exact⟨a,ns,rfl,g',q _ H G (.refl s) (by rw[Rp])⟩
 .cases h
end
end
section
variable {K:W7}
section
variable {prog:P7}{w:World}{A:Around}{E:AB}{s:Shared}
theorem MU(b:s.heap.IsTupleIter d t i)(l:s.heap.IsTuple t a)(j:a[i]?=some x)(k:∀h',h'.IsTupleIter d t (i+1)->Heap.SameBut d s.heap h'->Q x { s with heap:=h' }):
 wpAny (mZ prog w) A (Builtin.SmallTypes.nextOf (.ref d)) Q E s:=by
 obtain⟨o,e,h,c⟩:=id b;obtain⟨n,f,_,m,g⟩:=l
 refine wa (wpAny_callSpecial?_slot  b.typeIs F.slot_tuple_iterator_next
  (we F.slot_tuple_iterator_next b.typeIs F.entry_tuple_iterator_next ?_ (F.args_tuple_iterator_next_1 _)))
 show wpAny _ _ (field (.ref d) 0>>=_) _ _ s;refine wa (wpAny_field e c (x:=.ref t) rfl (wa (wpAny_field e c (x:=.int i 0) rfl (wa (wpAny_seqItems f g ?_)))));simp  [j]
 exact wa (wpAny_setField e c (by simp) (wc ⟨x,rfl,wc (k _ (⟨_,ww _ e (Obj.isFreed_of_fields (jd c _)),(Obj.cls_mapFields ..).trans h,by
  rw[jd c];simp[rawInt]⟩) (wu ..))⟩))
theorem MV(j:A.handled=none)(a:s.heap.IsTupleIter d l i)(m:s.heap.IsTuple l b)(k:b[i]?=none)(n:∀h' e,Heap.ExtBut d s.heap h'->(∃o,h'.get? e=some o/\o.cls=.type "StopIteration")->E (.ref e) { s with heap:=h' }):
 wpAny (mZ prog w) A (Builtin.SmallTypes.nextOf (.ref d)) Q E s:=by
 obtain⟨o,g,r,h⟩:=id a;obtain⟨p,f,_,q,c⟩:=m
 refine wa (wpAny_callSpecial?_slot  a.typeIs F.slot_tuple_iterator_next
  (we F.slot_tuple_iterator_next a.typeIs F.entry_tuple_iterator_next ?_ (F.args_tuple_iterator_next_1 _)))
 show wpAny _ _ (field (.ref d) 0>>=_) _ _ s;refine wa (wpAny_field g h (x:=.ref l) rfl (wa (wpAny_field g h (x:=.int i 0) rfl (wa (wpAny_seqItems f c ?_)))));simp  [k];refine wa (wpAny_rule (wa (wpAny_setField g h (by simp) (wa (wa (m:=firstArgMember _ _) (wpAny_of_eq (a:=Value.none) (by first|rfl|(rfl)) (wf (wa (wpAny_handled ?_)) (by size_fits))))))))
 first|rw[ j]|rw[j]
 refine wa (wc (wpAny_throw ?_));exact n _ _ (((wu ..).extBut.push _).push _) ⟨_,qp _ rfl,rfl⟩
theorem MX{i:Nat}{Q:AB}(he:IsEnum s.heap e z i W)(Y:s.heap.IsTupleIter z l i)(hl:s.heap.IsTuple l M)(hx:M[i]?=some x)(B:e≠z)(hQ:∀h',IsEnumOut h' e z ((i:Int)+1) x (~~~s)->h'.IsTupleIter z l (i+1)->
  h'.get? (~~~s)=some { cls:=.type "tuple",data:=.seq #[.int i s.toks,x] }->h'.objs.size= ~~~s+1->
  (∀b o,b≠e->b≠z->s.heap.get? b=some o->h'.get? b=some o)->Q (.ref (~~~s)) { s with heap:=h',toks:=s.toks+1 }):
 wpAny (mZ prog w) A (Builtin.«enumerate.__next__» ⟨[.ref e],[]⟩) (λZ s'=>∃v,Z=.done (.ret v)/\Q v s') E s:=by
 obtain⟨V,g,d,tk,os⟩:=s;show wpAny _ _ (field (.ref e) 2>>=_) _ _ _;refine wa (wpAny_field he rfl (x:=.ref z) rfl ?_);refine wa (MU Y hl hx λh₁ D t=>?_);have p:=(t.2 e B).trans he;refine wa (wpAny_field p rfl (x:=rawInt i) rfl ?_);refine wa (wpAny_field p rfl (x:=.none) rfl ?_);refine wa (wpAny_mkInt ?_);refine wa (wpAny_setField_rec p (by simp) λU P u=>?_);refine wa (wpAny_setField_rec P (by simp) λm N c=>?_);replace c:Heap.SameBut e U m:=c;show wpAny _ _ (newTuple [.int i tk,x]>>=_) _ _ ⟨m,g,d,tk+1,os⟩;refine wa (wpAny_newTuple ?_);have j:IsEnum (m.push { cls:=.type "tuple",data:=.seq #[.int i tk,x] }) e z ((i:Int)+1) W:=qe _ N;generalize f:m.push { cls:=.type "tuple",data:=.seq #[.int i tk,x] }=n at j
 have G:m.objs.size=V.objs.size:=by rw[c.1,u.1,t.1]
 have H:e<V.objs.size:=ql he
 have R:n.get? V.objs.size=some { cls:=.type "tuple",data:=.seq #[.int i tk,x] }:=by rw[<-f,<-G];exact qp _ rfl
 have J:n.objs.size=V.objs.size+1:=by rw[<-f,wv,G]
 have S:∀b o,b≠e->b≠z->V.get? b=some o->n.get? b=some o:=λb o y O hb=>by
  rw[<-f];exact qe _ (c.extBut b o y (u.extBut b o y (t.extBut b o O hb)))
 have C:n.IsTupleIter z l (i+1):=by
  rw[<-f];obtain⟨o,ho,r⟩:=(D.at λo q=>c.extBut z o (Ne.symm B) (u.extBut z o (Ne.symm B) q));exact⟨o,qe _ ho,r⟩
 show wpAny _ _ (Builtin.SmallTypes.ownedTupleIsFree (.ref e)>>=_) _ _ ⟨n,g,d,tk+1,os⟩;rw[G];refine wa ?_
 .refine wa (wpAny_field j rfl (x:=.none) rfl (wc ?_))
  refine wa (wpAny_rule ?_);refine wa (wpAny_field j rfl (x:=W) rfl ?_);refine wa (wpAny_setField_rec j (by simp) λh₅ I h=>?_);refine wa ?_
  .refine wa (wpAny_setField_rec I (by simp) λX L k=>?_)
   refine wpAny_setField_rec L (by simp) λF T a=>?_;replace a:Heap.SameBut e X F:=a;refine wa (wpAny_letGo (wc ⟨_,rfl,hQ F T ?_ ?_ ?_ ?_⟩))
   .exact C.at λo q=>a.extBut z o (Ne.symm B) (k.extBut z o (Ne.symm B) (h.extBut z o (Ne.symm B) q))
   .exact a.extBut _ _ (Nat.ne_of_gt H) (k.extBut _ _ (Nat.ne_of_gt H) (h.extBut _ _ (Nat.ne_of_gt H) R))
   .rw[a.1,k.1,h.1,J]
   .exact λb o y O hb=>a.extBut b o y (k.extBut b o y (h.extBut b o y (S b o y O hb)))
def MY{i:Nat}(n:IsEnum s.heap e g i p)(h:s.heap.IsTupleIter g l i)(t:s.heap.IsTuple l f)(q:f[i]?=some x)(j:e≠g)(r:∀h',IsEnumOut h' e g ((i:Int)+1) x (~~~s)->h'.IsTupleIter g l (i+1)->
  h'.get? (~~~s)=some { cls:=.type "tuple",data:=.seq #[.int i s.toks,x] }->h'.objs.size= ~~~s+1->
  (∀b o,b≠e->b≠g->s.heap.get? b=some o->h'.get? b=some o)->Q (some (.ref (~~~s))) { s with heap:=h',toks:=s.toks+1 }):
 wpAny (mZ prog w) A (pyNext (.ref e)) Q E s:=by
 have m:s.TypeIs (.ref e) "enumerate":=⟨_,n,rfl⟩
 exact wa (je (wpAny_callSpecial?_slot  m F.slot_enumerate_next
  (we F.slot_enumerate_next m F.entry_enumerate_next
   (MX n h t q j λh' a b c d k=>wc (r h' a b c d k)) (F.args_enumerate_next_1 _))))
def MZ{i:Nat}(m:A.handled=none)(g:IsEnum s.heap e c i r)(b:s.heap.IsTupleIter c l i)(q:s.heap.IsTuple l a)(j:a[i]?=none)(n:∀h',Heap.ExtBut c s.heap h'->Q none { s with heap:=h' }):wpAny (mZ prog w) A (pyNext (.ref e)) Q E s:=by
 have h:s.TypeIs (.ref e) "enumerate":=⟨_,g,rfl⟩
 refine wa (je (wpAny_callSpecial?_slot  h F.slot_enumerate_next
  (we F.slot_enumerate_next h F.entry_enumerate_next ?_ (F.args_enumerate_next_1 _))))
 show wpAny _ _ (field (.ref e) 2>>=_) _ _ _;refine wa (wpAny_field g rfl (x:=.ref c) rfl (wa (MV m b q j λh' x d f=>?_)));obtain⟨o,p,k⟩:=f;exact wa (wpAny_isInstance   ⟨o,p,k⟩ isSubtype_stop (wc (n _ d)))
def M0(l:Addr)(a:Array Value)(n:Nat)(f:Option Addr)(k:Array (Option Value)):
 Meets (Builtin.«enumerate.__new__» ⟨[.type "enumerate",.ref l],[]⟩) (λ_ R s=>s.heap.get? l=some { cls:=.type "tuple",dict:=f,data:=.seq a n,slots:=k }/\
  R (.ok (.ret (.ref (s.heap.push { cls:=.type "tuple_iterator",data:=.fields #[.ref l,.int 0 0] }).objs.size)))
   { s with heap:=(s.heap.push { cls:=.type "tuple_iterator",data:=.fields #[.ref l,.int 0 0] }).push { cls:=.type "enumerate",data:=.fields #[.none,.bool false,.ref (~~~s),rawInt 0,.none,.none] } }):=
 .of_wp λprog w A R s h=>by
  obtain⟨j,g,d,tk,os⟩:=s;obtain⟨b,h⟩:=h;have i:=sub_enumerate
  have e:Heap.IsTuple (Shared.heap ⟨j,g,d,tk,os⟩) l a:=⟨_,b,rfl,n,rfl⟩
  wp_walk using PySem.AutoSeq1.wpAny_loadPart' b
  refine wpAny_stack_any λst=>wc ?_
  split
  .rename_i c _ _ _ _ _
   cases (c==Value.type "enumerate")
   .wp_walk using PySem.AutoSeq1.wpAny_loadPart' b,wpAny_pyIter_tuple e
    exact⟨_,rfl,h⟩
   .wp_walk using PySem.AutoSeq1.wpAny_loadPart' b,wpAny_pyIter_tuple e
    exact⟨_,rfl,h⟩
  .wp_walk using PySem.AutoSeq1.wpAny_loadPart' b,wpAny_pyIter_tuple e
   exact⟨_,rfl,h⟩
theorem M3(m:s.heap.IsTuple l a)(h:∀h',IsEnum h' (~~~s+1) (~~~s) 0 .none->h'.IsTupleIter (~~~s) l 0->h'.objs.size= ~~~s+2->
  (∀b o,s.heap.get? b=some o->h'.get? b=some o)->Q (.ref (~~~s+1)) { s with heap:=h' }):
 wpAny (mZ prog w) A (call (.type "enumerate") [.ref l]) Q E s:=by
 obtain⟨⟨c,d,q,g⟩,p,j,n,k⟩:=m;subst j k
 refine callType_new F.called_enumerate (by decide) (F.typeCall_enumerate_1 _) (F.newCall_enumerate_1 _) (λe=>F.args_object_init_2 e _) F.entry_enumerate_new
  (M0 l a n d g) ⟨p,?_⟩
 have i:(s.heap.push { cls:=.type "tuple_iterator",data:=.fields #[.ref l,.int 0 0] }).objs.size= ~~~s+1:=wv ..;rw[i]
 have f:IsEnum ((s.heap.push { cls:=.type "tuple_iterator",data:=.fields #[.ref l,.int 0 0] }).push
  { cls:=.type "enumerate",data:=.fields #[.none,.bool false,.ref (~~~s),rawInt 0,.none,.none] }) (~~~s+1) (~~~s) 0 .none:=by
  have:=qp (s.heap.push { cls:=.type "tuple_iterator",data:=.fields #[.ref l,.int 0 0] })
   (o:={ cls:=.type "enumerate",data:=.fields #[.none,.bool false,.ref (~~~s),rawInt 0,.none,.none] }) rfl
  grind
 refine⟨⟨_,f,rfl⟩,h _ f ⟨_,qe _ (qp _ rfl),rfl,rfl⟩ (by simp_all) λb o x=>qe _ (qe _ x)⟩
end
theorem GL{σ:L2.St}{ch:List Addr}{T:Addr}(I:Inv X pins σ H s)(f:∀b∈ch,ck X pins H b)(k:∀b u,b∉ch->s.heap.get? b=some u->h'.get? b=some u)(g:(~~~s)<=T)(p:ObjOk X.prog X.w (upd H T o) h' T o):Inv X pins σ (upd H T o) { s with heap:=h',toks:=t' }:=by
 have d:=I.hok.fresh g
 have j:∀b u,H b=some u->b∉ch:=λb u e z=>by rw[(f b z).1]at e;cases e
 refine I.step    (λb hb=>?_) (λb u _ _ a e _=>k b u a e) (λb u _ _ a e _=>⟨u.slots,k b u a e⟩) (λb u _ e n=>?_)
  (λb u a e=>⟨u,k b u a e⟩) (λb xs e=>?_) (λb u xs e=>?_) (λb ps e=>⟨#[],?_⟩) (λm l=>?_) (λb u e=>?_) I.bare
 .obtain⟨_,B,_,C,y,A⟩:=f b hb
  grind
 .rw[Yi (qm (Qi (ql e) g))];exact n
 .rw[Yi (Yl e d)];exact e
 .rw[Yi (Yl e d)];exact e
 .rw[Yi (Yl e d),e];simp
 .obtain⟨h,t,i,w,r⟩:=l
  exact⟨h,t,i,k _ h (λz=>(f _ z).2.1 rfl) w,r⟩
 .by_cases hb:b=T
  .subst hb;rw[Yk]at e;grind
  .rw[Yi hb]at e
   refine(I.hok b u e).stay (λc v a q=>k c v ?_ q) (λc q=>by rw[Yi (Yl q d)];exact q) λc xs q=>by rw[Yi (Yl q d)];exact q
   grind
def lg(K:W7)(a:Addr):It:=
 ⟨λi H=>∃xs x,SqL K H a xs/\xs[i]?=some x,λi H x H'=>∃y p,(∀xs,SqL K H a xs->xs[i]?=some y)/\H p=none/\x=.ref p/\H'=upd H p (.tup [.int i,y]),λi H=>∃xs,SqL K H a xs/\xs.length<=i⟩
def lh(K:W7)(a:Addr):It:=
 ⟨λi H=>∃xs x,SqT K H a xs/\xs[i]?=some x,λi H x H'=>∃y p,(∀xs,SqT K H a xs->xs[i]?=some y)/\H p=none/\x=.ref p/\H'=upd H p (.tup [.int i,y]),λi H=>∃xs,SqT K H a xs/\xs.length<=i⟩
section
variable {elts:AL}{x1:Nat}{pt:Pos}
theorem M4(a j e:Addr)(n:e≠j):dt P w K (.Tuple elts x1 pt) (lg K a) [e,j] e (λi h=>(∃g,IsEnum h e j i g)/\h.IsListIter j a i) where
 mem:=by simp
 obj:=λi h st b hb=>by
  obtain⟨⟨g,l⟩,f⟩:=st;rcases qu hb with rfl|hb
  .grind
  .have z:b=j:=by grind
   obtain⟨o,q,c,d⟩:=f;grind
 keep:=λi h h' st k=>by
  obtain⟨⟨g,l⟩,f⟩:=st;exact⟨⟨g,k e (by simp) _ l⟩,f.at λo q=>k j (by simp) o q⟩
 item:=by
  intro X J A F M i pins s σ H E I y st G;subst J A F;obtain⟨xs,x,v,C⟩:=G;obtain⟨its,B,p,hz⟩:=I.list v;obtain⟨u,hu,T⟩:=B.get C;obtain⟨⟨g,l⟩,f⟩:=st;refine wpAny_pyNext_enum_item l f p.isList (x:=u) (by grind) n λh' ho r N hsz O=>?_;refine⟨_,rfl,wpAny_letOwnedTupleGo_enum ho λh2 D m=>?_⟩;have U:=I.fresh
  have t:∀b∈[e,j],b≠(~~~s):=λb hb z=>by
   rcases qu hb with rfl|hb
   .grind
   .have z2:b=j:=by grind
    obtain⟨o,q,_⟩:=f;exact absurd (ql q) (by grind)
  have Q:∀b o,b∉[e,j]->s.heap.get? b=some o->h2.get? b=some o:=λb o hb q=>by
   have L:b≠e:=λz=>hb (by simp[z]);have S:b≠j:=λz=>hb (by simp[z]);exact(m.2 b L).trans (O b o L S q)
  have W:=(m.2 _ (Ne.symm (t e (by simp)))).trans N;refine⟨.ref (~~~s),upd H (~~~s) (.tup [.int i,x]),( GL (s:=s) (t':=s.toks+1) I y Q (qv _) ?_),rfl,⟨x,~~~s,λys R=>by rw[I.list_inj R v];exact C,U,rfl,rfl⟩,⟨⟨_,by simpa using D⟩,r.at λo q=>(m.2 j (Ne.symm n)).trans q⟩,λb hb=>?_⟩
  .exact⟨by rw[jf];grind,[.int i s.toks,u],.cons ⟨_,rfl⟩ (.cons T .nil),_,W,rfl,0,rfl⟩
  .rw[Yi (t b hb)];exact(y b hb).1
 done:=by
  intro X J A F M i pins s σ H E I y st G;subst J A F;obtain⟨xs,v,C⟩:=G;obtain⟨its,B,p,hz⟩:=I.list v;obtain⟨⟨g,l⟩,f⟩:=st;obtain⟨f0,f1,f2,V,Z,f5⟩:=y j (by simp);have hl:=B.length
  exact wpAny_pyNext_enum_end (I.ok.hd M) l f p.isList (by simp;lia) λh' Y=>⟨rfl,I.turned  (λb o hb e=>Y b o hb e) f0 f1 V Z f5⟩
 self:=λ_ _ _ _ _ st h=>let ⟨⟨_,l⟩,_⟩:=st;wpAny_pyIter_enum l h
theorem M5(a j e:Addr)(n:e≠j):dt P w K (.Tuple elts x1 pt) (lh K a) [e,j] e (λi h=>(∃g,IsEnum h e j i g)/\h.IsTupleIter j a i) where
 mem:=by simp
 obj:=λi h st b hb=>by
  obtain⟨⟨g,l⟩,f⟩:=st;rcases qu hb with rfl|hb
  .grind
  .have z:b=j:=by grind
   obtain⟨o,q,c,d⟩:=f;grind
 keep:=λi h h' st k=>by
  obtain⟨⟨g,l⟩,f⟩:=st;exact⟨⟨g,k e (by simp) _ l⟩,f.at λo q=>k j (by simp) o q⟩
 item:=by
  intro X J A F M i pins s σ H E I y st G;subst J A F;obtain⟨xs,x,v,C⟩:=G;obtain⟨its,B,p,hz⟩:=I.tuple v;obtain⟨u,hu,T⟩:=B.get C;obtain⟨⟨g,l⟩,f⟩:=st;refine MY l f ( p) (x:=u) (by grind) n λh' ho r N hsz O=>?_;refine⟨_,rfl,wpAny_letOwnedTupleGo_enum ho λh2 D m=>?_⟩;have U:=I.fresh
  have t:∀b∈[e,j],b≠(~~~s):=λb hb z=>by
   rcases qu hb with rfl|hb
   .grind
   .have z2:b=j:=by grind
    obtain⟨o,q,_⟩:=f;exact absurd (ql q) (by grind)
  have Q:∀b o,b∉[e,j]->s.heap.get? b=some o->h2.get? b=some o:=λb o hb q=>by
   have L:b≠e:=λz=>hb (by simp[z]);have S:b≠j:=λz=>hb (by simp[z]);exact(m.2 b L).trans (O b o L S q)
  have W:=(m.2 _ (Ne.symm (t e (by simp)))).trans N;refine⟨.ref (~~~s),upd H (~~~s) (.tup [.int i,x]),( GL (s:=s) (t':=s.toks+1) I y Q (qv _) ?_),rfl,⟨x,~~~s,λys R=>by rw[I.tuple_inj R v];exact C,U,rfl,rfl⟩,⟨⟨_,by simpa using D⟩,r.at λo q=>(m.2 j (Ne.symm n)).trans q⟩,λb hb=>?_⟩
  .exact⟨by rw[jf];grind,[.int i s.toks,u],.cons ⟨_,rfl⟩ (.cons T .nil),_,W,rfl,0,rfl⟩
  .rw[Yi (t b hb)];exact(y b hb).1
 done:=by
  intro X J A F M i pins s σ H E I y st G;subst J A F;obtain⟨xs,v,C⟩:=G;obtain⟨its,B,p,hz⟩:=I.tuple v;obtain⟨⟨g,l⟩,f⟩:=st;obtain⟨f0,f1,f2,V,Z,f5⟩:=y j (by simp);have hl:=B.length
  exact MZ (I.ok.hd M) l f ( p) (by simp;lia) λh' Y=>⟨rfl,I.turned  (λb o hb e=>Y b o hb e) f0 f1 V Z f5⟩
 self:=λ_ _ _ _ _ st h=>let ⟨⟨_,l⟩,_⟩:=st;wpAny_pyIter_enum l h
variable {X:Cx}{pos:Pos}
def xW(K:W7)(c:TA):TI:=λσ H R=>c σ H λvs b=>∃a xs,vs=[.ref a]/\((SqL K b a xs/\(xs.length<=sizeLine->R (lg K a) b))\/(SqT K b a xs/\(xs.length<=sizeLine->R (lh K a) b)))
theorem xX(B:Gl X "enumerate")(w:X.mg "enumerate"=none)(y:PA X [l] A)(hs:starEach [l] X.env=[(false,eval l X.env)]:=by rfl):PI X (.Tuple elts x1 pt) (.Call (.Name "enumerate" p) [l] [] pos) (xW X.K A):=by
 intro pins s σ H R I h;refine Call_ (gX I B w boot_enumerate (PyProof.Rows.callWith_type1 (aI (y pos pins s σ H _ I h) λus c t=>?_) hs rfl));obtain⟨vs,v,f,x,z⟩:=t;obtain⟨a,xs,rfl,q⟩:=z;obtain⟨u,rfl,D⟩:=dM x;cases D
 have j:∀(h':Heap),h'.objs.size=c.heap.objs.size+2->(∀b o,c.heap.get? b=some o->h'.get? b=some o)->∀b∈[c.heap.objs.size+1,c.heap.objs.size],ck X pins v b:=λh' n g b hb=>by
  have i:c.heap.objs.size<=b:=by
   grind
  exact f.fpOk i (f.hok.fresh i)
 rcases q with⟨r,q⟩|⟨r,q⟩
 .obtain⟨its,C,pl,n⟩:=f.list r
  exact call_enumerate_list pl.isList λh' m d e g=>wpAny_pyIter_enum  m (⟨_,[c.heap.objs.size+1,c.heap.objs.size],_,_,v,rfl,f.kept  g,M4 a c.heap.objs.size _ (Nat.succ_ne_self _),⟨⟨_,m⟩,d⟩,j h' e g,q n⟩)
 .obtain⟨its,C,pl,n⟩:=f.tuple r
  exact M3 ( pl) λh' m d e g=>wpAny_pyIter_enum  m (⟨_,[c.heap.objs.size+1,c.heap.objs.size],_,_,v,rfl,f.kept  g,M5 a c.heap.objs.size _ (Nat.succ_ne_self _),⟨⟨_,m⟩,d⟩,j h' e g,q n⟩)
def fm(l:AQ):AQ:=(List.range l.length).map λi:Nat=>.tup [.int i,l.getD i .non]
def pk(c:D):Option AQ:=(Yc c).map fm
theorem xY{i:Nat}(h:(fm l)[i]?=some d):∃e,l[i]?=some e/\d=.tup [.int i,e]:=by
 unfold fm at h;grind
def jz(l:AQ):(fm l).length=l.length:=by simp[fm]
theorem Gr.newTup(s:Same G H)(a:H p=none)(i:Nat)(r:Rp K G d x):∃b,Gr H G (upd H p (.tup [.int i,x])) b/\Rp K b (.tup [.int i,d]) (.ref p):=by
 exact⟨_,Gr.new s a (.tup [.int i,x]),(⟨p,_,rfl,Yk,.cons (by rw[Rp]) (.one (r.mono (Gr.new s a _).g))⟩)⟩
end
end
section
variable {K:W7}
def fq(k:Int):Value->Bool
 | .int i _=>i==k
 | .bool b=>(if b then 1 else 0)==k
 | _=>false
theorem jA(h:fq k v=true):(∃t,v=.int k t)\/∃b:Bool,v=.bool b/\k=if b then 1 else 0:=by
 cases v with
 | int i t=>
   have e:=by simpa [fq]using h
   grind
 | bool b=>
   have e:=by simpa [fq]using h
   grind
 | _=>simp[fq]at h
theorem M6(h:Q (hashInt (if b then 1 else 0)) { s with toks:=s.toks+1 }):
 wpAny (mZ prog w) A (pyHash (.bool b)) Q E s:=by
 have d:=rawHash_range (if b then 1 else 0);have a:s.TypeIs (.bool b) "bool":=rfl;have c:[Value.bool b].any Value.onHeap=false:=rfl;refine wa ?_;refine wc ?_;refine wa (wpAny_specialOf a F.slot_bool_hash.lookup ?_);refine wa (wpAny_specialOf a F.slot_bool_hash.lookup ?_)
 refine wa (wpAny_callSpecialIfBoundUnlessNone?_slot a F.slot_bool_hash
  (we F.slot_bool_hash a entry_int_hash
   ( wpAny_ret_mkInt ?_) (args_int_hash _)))
 show wpAny _ _ (if (decide (-2^63<=rawHash (if b then 1 else 0))&&decide (rawHash (if b then 1 else 0)<2^63))=true then _ else _) Q E _;rw[if_pos (by grind)];exact wc h
def xZ(prog:P7)(w:World):KeyKind prog w Int where
 is:=fq
 hash:=hashInt
 inj:=λv a b j hb=>by
  rcases jA j with⟨t,rfl⟩|⟨c,rfl,rfl⟩
  .have e:a=b:=by simpa [fq]using hb
   exact e
  .have e:=by simpa [fq]using hb
   exact e
 byValue:=λk v h=>by
  rcases jA h with⟨t,rfl⟩|⟨c,rfl,rfl⟩<;>rfl
 pyHash:=λg h=>by
  rcases jA g with⟨t,rfl⟩|⟨c,rfl,rfl⟩
  .exact wpAny_pyHash_int h
  .exact M6 h
 eqBool:=λ{A E s a b u v Q} i g h=>by
  rcases jA i with⟨t,rfl⟩|⟨c,rfl,rfl⟩
  .rcases jA g with⟨t',rfl⟩|⟨f,rfl,rfl⟩
   .exact wpAny_eqBool_int (by grind)
   .exact SeqAt.EqAt.int_bool a t f _ _ _ _ (by grind)
  .rcases jA g with⟨t',rfl⟩|⟨f,rfl,rfl⟩
   .exact SeqAt.EqAt.bool_int c b t' _ _ _ _ (by grind)
   .refine SeqAt.EqAt.bool_bool c f _ _ _ _ ?_
    have e:(c==f)=decide ((if c=true then (1:Int)else 0)=if f=true then 1 else 0):=by grind
    grind
 «strs»:=λk x t v h=>by simp[fq]at h
def bP{a b:Type}[DecidableEq a]:List a->List b->a->Option b
 | k::ks,v::vs,x=>if k=x then some v else bP ks vs x
 | _,_,_=>none
theorem pq[DecidableEq a](x:a):∀{ks:List a}{vs:AQ}{vxs:AN},RpL K G vs vxs->(∀d,bP ks vs x=some d->∃v,bP ks vxs x=some v/\Rp K G d v)/\(bP ks vs x=none->bP ks vxs x=none)
 | [],_,_,_=>⟨λd h=>by simp[bP]at h,λ_=>by simp[bP]⟩
 | k::ks,[],_,r=>by
   subst r;exact⟨λd h=>by simp[bP]at h,λ_=>by simp[bP]⟩
 | k::ks,d::vs,_,r=>by
   obtain⟨y,f,rfl,c,b⟩:=r;by_cases e:k=x
   .simp  [bP]
    grind
   .simp  [bP,if_neg e]
    exact pq x b
def cu{a b:Type}[DecidableEq a]:List a->List b->a->b->List b
 | k::ks,v::vs,x,y=>if k=x then y::vs else v::cu ks vs x y
 | _,vs,_,_=>vs
theorem GM[DecidableEq a](x:a)(y:b):∀(ks:List a) (vs:List b),(cu ks vs x y).length=vs.length
 | [],vs=>by cases vs<;>simp[cu]
 | k::ks,[]=>by simp[cu]
 | k::ks,v::vs=>by
   simp  [cu]
   split
   .simp
   .simp[GM x y ks vs]
theorem GN[DecidableEq f](x:f)(c:Rp K G d y):∀{ks:List f}{vs:AQ}{vxs:AN},RpL K G vs vxs->RpL K G (cu ks vs x d) (cu ks vxs x y)
 | [],[],_,r=>by simpa [cu]using r
 | [],_::_,_,r=>by
   obtain⟨z,g,rfl,b,a⟩:=r;exact .cons b a
 | k::ks,[],_,r=>by
   subst r;exact .nil
 | k::ks,e::vs,_,r=>by
   obtain⟨z,g,rfl,b,a⟩:=r;simp  [cu]
   split
   .exact .cons c a
   .exact .cons b (GN x c a)
theorem x3[DecidableEq a]:∀{ks:List a}{vs:List c},vs.length=ks.length->(bP ks vs x=none↔x∉ks)
 | [],_,_=>by simp[bP]
 | k::ks,[],h=>by simp at h
 | k::ks,v::vs,h=>by
   by_cases e:k=x
   .simp[bP,e]
   .have b:¬x=k:=λz=>e z.symm
    simp  [bP,e,b];exact x3 (by simpa using h)
end
section
open Sem (wp)
variable {K:W7}
section
variable {X:Cx}{e:Expr}{ta:TA}{p p2 pos pos2:Pos}
def M7{σ:L2.St}(I:Inv X pins σ H s)(g:Gl X "reversed")(i:X.mg "reversed"=none)(m:PA X [e] ta)(h:ta σ H q)(hs:starEach [e] X.env=[(false,eval e X.env)])(k:∀vs c b,Inv X pins σ c b->q vs c->∃a xs its,vs=[.ref a]/\SqL X.K c a xs/\Vals xs its/\b.heap.IsList a its.toArray/\Q (.ref b.heap.objs.size) { b with heap:=b.heap.push (revObj a ((its.toArray.size:Int)-1)) }):
 wpAny (mZ X.prog X.w) X.A (eval (.Call (.Name "reversed" p2) [e] [] pos2) X.env) Q X.xe s:=by
 refine Call_ (gX I g i boot_reversed (PyProof.Rows.callWith_type1 (aI (m pos2 pins s σ H _ I h) λus b f=>?_) hs rfl));obtain⟨vs,c,o,l,n⟩:=f;obtain⟨a,xs,its,rfl,t,v,pl,z⟩:=k vs c b o n;obtain⟨u,rfl,j⟩:=dM l;cases j;exact call_reversed_list pl z
variable {f:AV}
end
end
section
variable {K:W7}
section
variable {X:Cx}{e ie:Expr}{f fb:AV}{pos:Pos}
def x4:V->AN->Hp->VK->Prop:=λx vs H Q=>∃l b xs a,x=.ref l/\vs=[.ref b]/\H l=some (.lst xs)/\Rd H b (.lst a)/\xs.length+a.length<=sizeLine/\Q .non (upd H l (.lst (xs++a)))
theorem x5:vX X "list.extend" x4:=by
 intro pins s σ H x vs v us Q I p w h;obtain⟨l,b,xs,B,rfl,rfl,j,m,C,q⟩:=h;cases p;obtain⟨u,rfl,o⟩:=w.one;cases o;obtain⟨z,its,n,r,A,e⟩:=I.lstM j;obtain⟨y,a,k,i,e2⟩:=m.ok I.hok;have t:=i.length
 have g:its.toArray.size+a.toArray.size<=sizeLine:=by grind
 have c:¬(!its.toArray.isEmpty&&Builtin.List.listTooLong (its.toArray.size+a.toArray.size))=true:=by
  rw[L4 g];grind
 refine call_meets F.slot_list_extend ⟨_,e,rfl⟩ F.entry_list_extend (F.args_list_extend_2 _ _)
  (AutoSeq1.list_extend_list_list_0 l its.toArray n b a.toArray k c (by grind) (by lia)) ⟨e,e2,(⟨.non,_,I.lset  j e (by simp) (r.append i) ?_,rfl,q⟩)⟩
 grind
def fR(l:AQ)(d:D):Option AQ:=match d with
 | .lst m=>if l.length+m.length<=a_ then some (l++m)else none
 | _=>none
end
end
section
variable {K:W7}
def SE(w:World):List DictEntry->List (Str×Str)->Prop:=Paired λe p=>e.hash=PyData.keyHash w.params p.1/\(∃t,e.key=.str p.1 t)/\(∃t,e.val=.str p.2 t)/\PyData.strOk p.2=true
def GD(K:W7)(w:World)(c:AE)(x:Str)(a:List (Str×Str)):Prop:=∃p o b d,c x=some (.ref p)/\K.lookup p=some o/\o.ExactDict/\o.data=.dict b d/\SE w b.toList a
def GI(a:AE)(x:Str)(i:Int):Prop:=∃t,a x=some (.int i t)
theorem GO:∀{l:List DictEntry}{c:List (Str×Str)},SE w l c->c.lookup k=some v->∃e t,l.find? (λe=>(PySem.strKind P w).is k e.key)=some e/\e.val=.str v t
 | _,_,.nil,h=>by simp at h
 | _,_,.cons (a:=e) (b:=p) r t,h=>by
   obtain⟨_,⟨j,d⟩,⟨i,f⟩,_⟩:=r;obtain⟨a,b⟩:=p;by_cases q:a=k
   .subst q
    simp at h;subst h;exact⟨e,i,by simp[d,PySem.strKind,Value.isStrOf],f⟩
   .have g:(k==a)=false:=by grind
    obtain⟨o,t',m,n⟩:=GO (P:=P) t (by simpa [List.lookup_cons,g]using h)
    have:(PySem.strKind P w).is k e.key=false:=by
     rw[d];show(a==k)=false;simpa using q
    grind
theorem GP:∀{l:List DictEntry}{a:List (Str×Str)},SE w l a->∀e∈l,∃k,(PySem.strKind P w).is k e.key=true/\e.hash=(PySem.strKind P w).hash k
 | _,_,.nil,e,h=>by cases h
 | _,_,.cons (b:=p) r t,e,h=>by
   rcases qu h with rfl|h
   .obtain⟨h0,⟨c,b⟩,_⟩:=r
    exact⟨p.1,by rw[b];simp[PySem.strKind,Value.isStrOf],h0⟩
   .exact GP t e h
theorem lj:∀{l:List DictEntry}{c:List (Str×Str)},SE w l c->c.lookup k=some v->PyData.strOk v=true
 | _,_,.nil,h=>by simp at h
 | _,_,.cons (b:=p) r t,h=>by
   obtain⟨a,b⟩:=p;by_cases q:k=a
   .grind
   .have d:(k==a)=false:=by simpa using q
    exact lj t (by simpa [List.lookup_cons,d]using h)
section
variable {X:Cx}{ke:Expr}{fk:AV}{pos px:Pos}{x:Str}
def pv(a:List (Str×Str)):D->Option D
 | .str k=>(a.lookup k).map D.str
 | _=>none
end
def tK(x:Str):TE:=λ_ H Q=>Q (.str x) H
structure MP(X:Cx)(pos:Pos)(keys:List (Option Expr))(values:AL)(ks:AK)(fs:List AV):Prop where
 len:ks.length=fs.length
 pps:LQ X pos keys values ((ks.zip fs).map λp=>(tK p.1,tOf X.K p.2))
 all:keys.all (·.isSome)=true
 kv:keys.length=values.length
 kk:keys.length=ks.length
end
section
variable {K:W7}
structure WA(H:Hp)(a:Addr)(nks:List (List Int×Addr))(vxs:AN):Prop where
 aB:∃ep,H a=some (Gm a nks vxs ep)
 len:nks.length=vxs.length
 nd:(nks.map (·.1)).Nodup
 keys:∀p∈nks,∃ys,H p.2=some (.tup ys)/\hX ys=some p.1
section
variable {X:Cx}{a b e:Expr}{fa fb f:AV}{pos:Pos}
theorem RpL.snoc(r:Rp K G d y):∀{l:AQ}{xs:AN},RpL K G l xs->RpL K G (l++[d]) (xs++[y])
 | [],_,h=>by
   subst h;exact .cons r .nil
 | e::l,_,h=>by
   obtain⟨x,q,rfl,c,g⟩:=h;exact .cons c (RpL.snoc r g)
end
end
section
end
section
section
variable {X:Cx}{a b c e:Expr}{fa fb fc:AV}{pos:Pos}{st:Stmt}
def nS:AS:=λ_=>none
def M8:MS X st nS:=λ_ _ _ _ _ _ ⟨_,_,_,_,_,h,_⟩=>nomatch h
end
end
section
section
variable {X:Cx}{e:Expr}{f:AV}{fc:AU}{gl:AW}{K:W7}
def pz:D->Bool
 | .non|.bl _|.int _|.str _=>true
 | _=>false
def scal(d:D):Option D:=if pz d=true then some d else none
def Rp.scal(h:pz d=true)(r:Rp K G d v):Rp K G' d v:=by
 cases d<;>first|(exact r)|cases h
def Gr.back(s:Same G H)(g:Gr H a H' G'):Gr H G H' G:=⟨g.h,Same.refl _,s.trans g.h,λ_ h h'=>absurd h h'⟩
mutual
def b7:D->Bool
 | .non=>true
 | .bl _=>true
 | .int _=>true
 | .str _=>true
 | .tup l=>aP l
 | .lst _=>false
 | .scr _=>false
 | .dct _ _ _=>false
 | .obj _ _ _=>false
 | .adr _=>false
def aP:AQ->Bool
 | []=>true
 | d::l=>b7 d&&aP l
end
mutual
theorem Rp.plain{G G':Hp}(c:∀b ys,G b=some (HO.tup ys)->G' b=some (HO.tup ys)):∀{d:D}{v:V},b7 d=true->Rp K G d v->Rp K G' d v
 | .non,_,_,r=>r
 | .bl _,_,_,r=>r
 | .int _,_,_,r=>r
 | .str _,_,_,r=>r
 | .tup l,_,h,r=>by
   obtain⟨a,xs,e,g,q⟩:=r;exact⟨a,xs,e,c _ _ g,RpL.plain c h q⟩
 | .lst _,_,h,_=>by cases h
 | .scr _,_,h,_=>by cases h
 | .dct _ _ _,_,h,_=>by cases h
 | .obj _ _ _,_,h,_=>by cases h
 | .adr _,_,h,_=>by cases h
theorem RpL.plain{G G':Hp}(c:∀b ys,G b=some (HO.tup ys)->G' b=some (HO.tup ys)):∀{l:AQ}{xs:AN},aP l=true->RpL K G l xs->RpL K G' l xs
 | [],_,_,r=>r
 | d::l,_,h,r=>by
   rw[aP,Qe]at h;obtain⟨x,xs,e,g,q⟩:=r;exact⟨x,xs,e,Rp.plain c h.1 g,RpL.plain c h.2 q⟩
end
end
end
section
def zK(ns:AG)(vxs:AN):List (bD×V):=(ns.zip vxs).map λp=>(Sum.inl p.1,p.2)
def il(n:Int)(v:V)(ns:AG)(vxs:AN):zK (n::ns) (v::vxs)=(Sum.inl n,v)::zK ns vxs:=rfl
theorem lk:∀{a:List (bD×V)}{ns:AG},a.map (λp=>kV p.1)=ns.map V.int->a=zK ns (a.map (·.2))
 | [],ns,h=>by
   cases ns with
   | nil=>rfl
   | cons n ns=>cases h
 | (k,v)::a,[],h=>by cases h
 | (k,v)::a,n::ns,h=>by
   injection h with b c
   cases k with
   | inl i=>
     have:=by simp[kV]at b;exact b
     subst this;rw[Qd,il,<-lk c]
   | inr x=>cases b
theorem pA(i:Int):∀(ns:AG) (vxs:AN),cn (zK ns vxs) (Sum.inl i)=bP ns vxs i
 | [],vxs=>by simp[zK,bP,cn]
 | n::ns,[]=>by simp[zK,bP,cn]
 | n::ns,v::vxs=>by
   rw[il,bP];by_cases h:n=i
   .rw[if_pos h,vC (by simp[h])]
   .rw[if_neg h,vD (by simpa using h)]
    exact pA i ns vxs
theorem jB:∀(ns:AG) (vxs:AN),ns.length=vxs.length->(zK ns vxs).map (·.1)=ns.map Sum.inl
 | [],vxs,_=>rfl
 | n::ns,[],h=>by simp at h
 | n::ns,v::vxs,h=>by
   rw[il,Qd,Qd,jB ns vxs (by simpa using h)]
theorem lp(i:Int):∀(ns:AG) (vxs:AN),ns.length=vxs.length->((zK ns vxs).any λa=>decide (a.1=Sum.inl i))=decide (i∈ns)
 | [],vxs,_=>by simp[zK]
 | n::ns,[],h=>by simp at h
 | n::ns,v::vxs,h=>by
   rw[il,List.any_cons,lp i ns vxs (by simpa using h)];grind
theorem lq(i:Int)(y:V):∀(ns:AG) (vxs:AN),ns.length=vxs.length->ns.Nodup->(zK ns vxs).map (λa=>if a.1=Sum.inl i then (a.1,y)else a)=zK ns (cu ns vxs i y)
 | [],vxs,_,_=>by simp[zK]
 | n::ns,[],h,_=>by simp at h
 | n::ns,v::vxs,h,d=>by
   obtain⟨g,f⟩:=List.nodup_cons.mp d
   have c:=by simpa using h
   rw[il,Qd,cu];by_cases e:n=i
   .subst e
    rw[if_pos rfl,if_pos rfl,il]
    have:(zK ns vxs).map (λa=>if a.1=Sum.inl n then (a.1,y)else a)=zK ns vxs:=by
     refine(Qq λa b=>?_).trans (List.map_id _);rw[if_neg]
     .rfl
     .have:a.1∈(zK ns vxs).map (·.1):=List.mem_map_of_mem b
      rw[jB ns vxs c]at this;grind
    rw[this]
   .rw[if_neg (by simpa using e),if_neg e,il,lq i y ns vxs c f]
def x6(i:Int)(y:V):∀(ns:AG) (vxs:AN),ns.length=vxs.length->zK (ns++[i]) (vxs++[y])=zK ns vxs++[(Sum.inl i,y)]:=λns vxs h=>by
 unfold zK;rw[List.zip_append h,Qk];rfl
def ef(ns:AG)(vxs:AN)(i:Int)(y:V):List Int×AN:=if i∈ns then (ns,cu ns vxs i y)else (ns++[i],vxs++[y])
theorem x8(h:ns.length=vxs.length)(a:ns.Nodup)(i:Int)(y:V):du (zK ns vxs) (Sum.inl i) y=zK (ef ns vxs i y).1 (ef ns vxs i y).2:=by
 unfold du ef;rw[lp i ns vxs h];by_cases e:i∈ns
 .rw[if_pos (wj e),if_pos e]
  exact lq i y ns vxs h a
 .rw[if_neg (by simpa using e),if_neg e,x6 i y ns vxs h]
variable {K:W7}
theorem lr(g:b0 ks=some ns)(d:Dc false G H a b vxs)(r:RpL K G ks b):H a=some (.dK (zK ns vxs))/\ns.Nodup/\ns.length=vxs.length/\b=ns.map V.int:=by
 cases ih g;have e:=ij r;rcases d with⟨_,k,m,j,c,i⟩|⟨h,_⟩
 .rw[e]at c
  have f:=lk c.symm;rw[<-i]at f
  have l:ns.length=vxs.length:=by
   have:=congrArg List.length c;grind
  rw[f,jB ns vxs l]at j;grind
 .cases h
theorem x9(h:H a=some (.dK (zK ns vxs)))(c:ns.Nodup)(b:ns.length=vxs.length):Dc false G H a (ns.map V.int) vxs:=by
 refine .inl ⟨rfl,zK ns vxs,h,by rw[jB ns vxs b];grind,?_,?_⟩
 .have:=congrArg (List.map kV) (jB ns vxs b)
  rw[Qf,Qf]at this;exact(this.trans (Qq λ_ _=>rfl)).symm
 .unfold zK
  rw[Qf];have:(λp:Int×V=>((Sum.inl p.1,p.2):bD×V).2)=λp=>p.2:=rfl;clear h c this
  induction ns generalizing vxs with
  | nil=>cases vxs with
    | nil=>rfl
    | cons=>simp at b
  | cons n ns d=>cases vxs with
    | nil=>simp at b
    | cons v vxs=>simp;grind
def ej:D->D->Option D
 | .dct false ks vs,.int i=>(b0 ks).bind λns=>bP ns vs i
 | _,_=>none
def ip(a:Bool):D->D->Option Bool
 | .int i,.dct false ks _=>(b0 ks).map λns=>decide (i∈ns)!=a
 | _,_=>none
def lu:R2:=λx y H Q=>∃a z,x=.ref a/\DGet H a y (some z)/\Q z H
def iq(b:Bool):R2:=λx y H Q=>∃a o,y=.ref a/\DGet H a x o/\Q (.bl (o.isSome != b)) H
def M9:dR K lu ej:=by
 intro x y o p d H G Q h s k b q;unfold ej at h
 split at h
 .rename_i ks vs i
  obtain⟨ns,j,h⟩:=qa h;subst b;obtain⟨a,g,vxs,rfl,e,f,l⟩:=k;obtain⟨e1,e2,r,n⟩:=lr j e f;obtain⟨v,m,c⟩:=(pq i l).1 d h;refine⟨a,v,rfl,?_,q v H G (.refl s) c⟩;have:=DGet.k (k:=Sum.inl i) e1;rw[pA,m]at this;exact this
 .cases h
theorem M_{vxs:AN}{i:Int}(b:ns.length=vxs.length):(bP ns vxs i).isSome=decide (i∈ns):=by
 cases h:bP ns vxs i with
 | none=>
   have:=(x3    b.symm).mp h;simp[this]
 | some v=>
   have:=Classical.byContradiction λz=>by
    rw[(x3    b.symm).mpr z]at h;cases h
   simp[this]
def Na:eA K (iq c) (ip c):=by
 intro x y m o b H G Q h s j d q;unfold ip at h
 split at h
 .rename_i i ks vs
  obtain⟨ns,l,rfl⟩:=qc h;subst j;obtain⟨a,e,vxs,rfl,k,f,n⟩:=d;obtain⟨e1,e2,g,p⟩:=lr l k f;refine⟨a,bP ns vxs i,rfl,?_,?_⟩
  .have:=DGet.k (k:=Sum.inl i) e1
   rw[pA]at this;exact this
  .rw[M_ g]
   exact q
 .cases h
section
variable {X:Cx}
theorem x_(l:X.A.units+64<cLine):IxR X lu:=by
 intro c b pins s σ H x y v u Q I f e h hs;obtain⟨a,z,rfl,g,q⟩:=h;cases f;exact tail_any (LP I g) PySem.F.slot_dict_getitem.lookup (LO (by lia) I g e λj k i d=>⟨z,H,i,d,q⟩) hs
theorem Nb(f:X.A.units+64<cLine):bU X (compareOp .NotIn) (iq true):=by
 intro pins s σ H x y v u Q I c b h;obtain⟨a,o,rfl,g,q⟩:=h;cases b
 exact vF (by lia) I g c λe d=>⟨.bl (o.isSome != true),H,d,by simp;rfl,q⟩
variable {a b e f':Expr}{fa fb f fz:AV}{pos:Pos}
def jC:D->D->D->Option D
 | .dct false ks vs,.int i,z=>(b0 ks).map λns=>(bP ns vs i).getD z
 | _,_,_=>none
def b3{c:Type}(fa fb fc:AV)(g:D->D->D->Option c):Ro->Option c:=λρ=>(fa ρ).bind λx=>(fb ρ).bind λy=>(fc ρ).bind λz=>g x y z
theorem Nc(h:jC x y z=some d):∃ks vs i ns,x=.dct false ks vs/\y=.int i/\b0 ks=some ns/\d=(bP ns vs i).getD z:=by
 unfold jC at h
 split at h
 .obtain⟨ns,c,g⟩:=qc h
  grind
 .cases h
end
section
variable {X:Cx}{e:Expr}{f:AV}{p pos:Pos}
def jD{c:Sort _}{a b:c}(h:a=b):a=b:=h
@[simp] theorem GQ(a fb fc:AV)(g:D->D->D->Option b):b3 a fb fc g ρ=(a ρ).bind λx=>(fb ρ).bind λy=>(fc ρ).bind λz=>g x y z:=jD rfl
@[simp] theorem Nd(ks vs:AQ)(i:Int):ej (.dct false ks vs) (.int i)=(b0 ks).bind λns=>bP ns vs i:=jD rfl
@[simp] theorem Nf(ks vs:AQ)(i:Int)(z:D):jC (.dct false ks vs) (.int i) z=(b0 ks).map λns=>(bP ns vs i).getD z:=jD rfl
end
end
section
section
variable {X:Cx}{a b e:Expr}{fa fb f:AV}{pos:Pos}{K:W7}
def Ng{M:Model}{A:Around}{E:AB}{s:Shared}{Q:AB}{v:Value}{k:Bool}(hb:∀id,v≠.builtin id)(h:Q (.bool (v==.bool k)) s):wpAny M A (compareOp .Is v (.bool k)) Q E s:=by
 cases v<;>first|exact wc h|exact absurd rfl (hb _)
def Nh{M:Model}{A:Around}{E:AB}{s:Shared}{Q:AB}{v:Value}{k:Bool}(hb:∀id,v≠.builtin id)(h:Q (.bool (!(v==.bool k))) s):wpAny M A (compareOp .IsNot v (.bool k)) Q E s:=by
 cases v<;>first|exact wc h|exact absurd rfl (hb _)
def bQ(k:Bool):D->Bool
 | .bl j=>j==k
 | _=>false
def eD(c:Bool):D->D->Option Bool
 | d,.bl k=>some (bQ k d != c)
 | _,_=>none
def GR{x:V}{v:Value}(r:RelV x v)(k:Bool):(v==.bool k)=decide (x=.bl k):=by
 cases x with
 | bl j=>
   cases ( r);by_cases h:j=k
   .subst h;simp
   .simp[h]
 | non=>cases ( r);rfl
 | int i=>obtain⟨t,rfl⟩:=r;rfl
 | str i=>obtain⟨t,rfl⟩:=r;rfl
 | ref i=>cases ( r);rfl
 | _=>first|(obtain⟨t,rfl⟩:=r;rfl)|(rfl)
def ly{x:V}{v:Value}(r:RelV x v):∀id,v≠.builtin id:=λid z=>by
 subst z
 cases x<;>first|(obtain⟨t,h⟩:=r;cases h)|(cases r)
def ya:bU X (compareOp .Is) (λx y H Q=>∃k,y=.bl k/\Q (.bl (decide (x=.bl k)!=false)) H):=by
 intro pins s σ H x y v u Q I c d h;obtain⟨k,rfl,q⟩:=h;cases d;refine Ng (ly c) ⟨_,H,I,?_,q⟩;rw[GR c];simp;rfl
def yb:bU X (compareOp .IsNot) (λx y H Q=>∃k,y=.bl k/\Q (.bl (decide (x=.bl k)!=true)) H):=by
 intro pins s σ H x y v u Q I c d h;obtain⟨k,rfl,q⟩:=h;cases d;refine Nh (ly c) ⟨_,H,I,?_,q⟩;rw[GR c];simp;rfl
def yc{G H:Hp}{d:D}{v:V}(r:Ct K G H d v)(k:Bool):decide (v=.bl k)=bQ k d:=by
 cases d with
 | bl j=>
   subst r;by_cases h:j=k
   .subst h;simp[bQ]
   .simp[bQ,h]
 | non=>subst r;simp[bQ]
 | int i=>subst r;simp[bQ]
 | str i=>obtain⟨rfl,_⟩:=r;simp[bQ]
 | tup l=>obtain⟨a,xs,rfl,_⟩:=r;simp[bQ]
 | lst l=>obtain⟨a,xs,rfl,_⟩:=r;simp[bQ]
 | scr l=>obtain⟨a,rfl,_⟩:=r;simp[bQ]
 | dct t l m=>obtain⟨a,xs,ys,rfl,_⟩:=r;simp[bQ]
 | obj t l m=>obtain⟨a,C,c,xs,rfl,_⟩:=r;simp[bQ]
 | adr a=>subst r;simp[bQ]
theorem GS{d:Bool}:eA K (λx y H Q=>∃k,y=.bl k/\Q (.bl (decide (x=.bl k)!=d)) H) (eD d):=by
 intro x y j l c H G Q h s i g q;unfold eD at h
 split at h
 .rename_i k
  cases h;subst g;exact⟨k,rfl,by rw[(yc i k)];exact q⟩
 .cases h
def GU{c:Sort _}{a b:c}(h:a=b):a=b:=h
@[simp] theorem yd(c:Bool)(d:D)(k:Bool):eD c d (.bl k)=some (bQ k d != c):=GU rfl
@[simp] theorem pB(k j:Bool):bQ k (.bl j)=(j==k):=GU rfl
end
end
section
section
variable {prog:P7}{w:World}{A:Around}{E:AB}{s:Shared}
def Ni:typeLookup (.type "list") "keys"=pure none:=by kernel_rfl
theorem ye(i:s.heap.get? a=some o)(m:o.cls=.type "list")(j:o.dict=none)(p:o.data=.seq its n)(q:A.handled=none)(x:∀h' tk,(∀b k,s.heap.get? b=some k->h'.get? b=some k)->Q none { s with heap:=h',toks:=tk }):
 wpAny (mZ prog w) A (getAttr? (.ref a) "keys") Q E s:=by
 obtain⟨c,z,v,r⟩:=o;simp only at m j p;subst m j p;obtain⟨y,g,d,tk,os⟩:=s
 have l:∀f,(⟨y,g,d,f,os⟩:Shared).TypeIs (.ref a) "list":=λ_=>⟨_,i,rfl⟩
 have I:=sub_AttributeError;have H:=F.slot_list_getattribute.lookup;have G:=F.slot_list_getattribute.bind (.ref a);have D:=am_list_getattr_none;have u:∀t,Meets (Builtin.«object.__getattribute__» ⟨[.ref a,.str "keys" t],[]⟩) _:=λt=>meets_getattribute_miss_list a its n r "keys" t Ni (by decide);unfold getAttr? getAttrBy? getAttrBy
 repeat (any_goals (first
  | assumption
  | exact l _
  | ((with_reducible show wpAny _ _ (call (.builtin "list.__getattribute__") _ _) _ _ _)
     refine call_meets F.slot_list_getattribute (l _) am_entry_list_getattribute (F.args_list_getattribute_2 _ _) (u _) ⟨i,q,λh' f e h=>?_⟩)
  | wp_step))
 obtain⟨t',C,B⟩:=h.there;show wpAny _ _ (getattributeRaised _ _ _ _ _ _ _) _ _ _;unfold getattributeRaised
 repeat (any_goals (first
  | assumption
  | wp_step))
 exact x _ _ h.keeps
def yf(h:Heap)(u:Value)(p:Int×Value):Prop:=∃t tk o n,u=.ref t/\h.get? t=some o/\o.cls=.type "tuple"/\o.data=.seq #[.int p.1 tk,p.2] n
def pC(h:Heap):AD->List (Int×Value)->Prop
 | [],[]=>True
 | u::us,p::ps=>yf h u p/\pC h us ps
 | _,_=>False
def lz(a:List (bD×Value)):List (Int×Value)->List (bD×Value)
 | []=>a
 | p::ps=>lz (stored a (Sum.inl p.1) p.2) ps
theorem Nj(a:List (bD×Value))(k:bD)(v:Value):(stored a k v).length<=a.length+1:=by
 unfold stored;grind
def GV:entryFor table "dict.update.loop"=some Builtin.«dict.update.loop»:=entryFor_of_tree (by kernel_rfl)
def GW:plainId "dict.update.loop"=true:=by decide +kernel
def OldH(h0 h:Heap):Prop:=∀b o,h0.get? b=some o->h.get? b=some o
theorem OldH.but(c:h0.get? d=none)(o:OldH h0 h)(e:Heap.SameBut d h h'):OldH h0 h':=λb a q=>by
 rw[e.2 b λz=>by grind];exact o b a q
theorem IsListIter.but(x:h.IsListIter a L i)(e:Heap.SameBut d h h')(c:a≠d):h'.IsListIter a L i:=by
 obtain⟨o,b,r⟩:=x;exact⟨o,by rw[e.2 a c];exact b,r⟩
theorem Nk{a:AD}(T:A.handled=none)(O:h0.get? d=none)(N:h0.get? H=none)(m:d≠H)(S:h0.IsList L a.toArray):
 ∀(ps:List (Int×Value)) (i:Nat) (c:Int) (g:List (bD×Value)) (s:Shared),pC h0 (a.drop i) ps->g.length+ps.length<=sizeLine->s.heap.IsListIter H L i->OldH h0 s.heap->s.heap.DictOf (y6 prog w) d g->
 (∀h' tk,OldH h0 h'->h'.DictOf (y6 prog w) d (lz g ps)->R (.ok (.ret .none)) { s with heap:=h',toks:=tk })->
 codeAny (mZ prog w) A (.builtin "dict.update.loop" ⟨[.ref d,.ref H,.int c 0,.none],[]⟩) R s:=by
 intro ps
 induction ps with
 | nil=>
   intro i c g s h U k y I P;have l:s.heap.IsList L a.toArray:=let ⟨o,e,r⟩:=S;⟨o,y _ _ e,r⟩
   have Q:a.toArray[i]?=none:=by
    cases f:a.drop i with
    | nil=>simpa using f
    | cons u us=>rw[f]at h;exact h.elim
   refine wx GV ?_;refine wa (wpAny_pyNext_list_end (A:=A.in1) T k l Q λh' hs=>?_);refine wa (wc (wc (P h' s.toks (λb F q=>hs b F (λz=>by grind) (y b F q)) (I.extBut hs m))))
 | cons p ps Z=>
   intro i c g s h U k y I P;have l:s.heap.IsList L a.toArray:=let ⟨o,e,r⟩:=S;⟨o,y _ _ e,r⟩
   cases f:a.drop i with
   | nil=>rw[f]at h;exact h.elim
   | cons u us=>
     rw[f]at h;obtain⟨⟨t,tk,F,n,rfl,W,X,x⟩,h⟩:=h
     have Q:a.toArray[i]?=some (.ref t):=by
      have:=congrArg List.head? f;simpa [List.head?_drop]using this
     have hus:=by
      have:=congrArg List.tail f;simpa using this.symm
     refine wx GV ?_;refine wa (wpAny_pyNext_list_item k l Q λV G B=>?_);have v:=OldH.but N y B;have J:=I.sameBut B m;have D:=v _ _ W
     have hT:(Shared.TypeIs { s with heap:=V } (.ref t) "tuple"):=⟨F,D,X⟩
     refine wa (wd (wa (wpAny_tryCatch ?_)));refine wa (wpAny_typeOf hT ?_);refine wa (wpAny_seqItems D x (wc ?_));refine wd (wpAny_dictSet_pairs    (kz (k:=.inl p.1)  ⟨tk,rfl⟩) J (λh2 M C=>?_) (by grind));refine wc ⟨ja GW _,?_⟩;refine Z (i+1) (c+1) _ _ (by grind) ?_ (IsListIter.but G C (Ne.symm m)) (OldH.but O v C) M λh' K Y d'=>P h' K Y d';have:=Nj g (Sum.inl p.1) p.2;grind
theorem Nl(z:A.handled=none)(H:PlainL s.heap L its.toArray)(P:pC s.heap its ps)(N:ps.length<=sizeLine)(O:∀h' tk,OldH s.heap h'->h'.DictOf (y6 prog w) (~~~s) (lz [] ps)->Q (.ref (~~~s)) { s with heap:=h',toks:=tk }):
 wpAny (mZ prog w) A (call (.type "dict") [.ref L]) Q E s:=by
 generalize v:({ cls:=.type "dict",data:=.dict #[] }:Obj)=k;refine callType_codes (Q₁:=λj d=>j=.ref (~~~s)/\d={ s with heap:=s.heap.push k }) F.kt_called_dict (F.kt_typeCall_dict_1 _) F.entry_dict_init (kt_code_dict_new _ ⟨rfl,by rw[v]⟩) ?_;rintro j d ⟨rfl,rfl⟩
 have a:(s.heap.push k).DictOf (y6 prog w) (~~~s) []:=by rw[<-v];exact Heap.DictOf.new s.heap
 refine⟨a.typeIs,F.args_dict_init_2 _ _,?_⟩;refine wa ?_;refine wa (wpAny_notOrdered_dict a.typeIs ?_);refine wc ?_;obtain⟨o,n,e,l,y,r⟩:=H;have t:(s.heap.push k).get? L=some o:=qe _ e
 have D:Shared.TypeIs { s with heap:=s.heap.push k } (.ref L) "list":=⟨o,t,l⟩
 refine wa (wpAny_typeOf D ?_);refine wa (ye   t l y r (by simp[z]) λh' tk c=>?_);refine wa (wpAny_rule (wa ?_))
 have m:h'.IsList L its.toArray:=⟨o,c _ _ t,l,n,r⟩
 refine wpAny_pyIter_list (s:={ s with heap:=h',toks:=tk }) m ?_;have i:OldH s.heap h':=λb u q=>c _ _ (qe _ q);obtain⟨B,I,J,p,f⟩:=id a;have g:=c _ _ p;have h:=ql g;generalize x:({ cls:=.type "list_iterator",data:=.fields #[.ref L,.int 0 0] }:Obj)=C;refine wc ⟨ja GW _,?_⟩;refine Nk  (by simp[z]) (Heap.get?_none_of_le (qv _)) (Heap.get?_none_of_le (Nat.le_of_lt h)) (qm h) ⟨o,e,l,n,r⟩ ps 0 0 [] _ (by grind) (by grind) ?_ (λb u q=>qe _ (i b u q)) ⟨B,I,J,qe _ g,f⟩ λy G K M=>?_
 .exact⟨C,qp _ (by rw[<-x];rfl),by rw[<-x],by grind⟩
 grind
end
def pD(H:Hp):AN->List (Int×V)->Prop
 | [],[]=>True
 | x::xs,q::a=>(∃b,x=.ref b/\H b=some (.tup [.int q.1,q.2]))/\pD H xs a
 | _,_=>False
def fu(a:List (bD×V)):List (Int×V)->List (bD×V)
 | []=>a
 | q::b=>fu (du a (Sum.inl q.1) q.2) b
def QP:List (Int×V)->List (Int×Value)->Prop
 | [],[]=>True
 | q::a,p::ps=>(q.1=p.1/\RelV q.2 p.2)/\QP a ps
 | _,_=>False
theorem QP.length:∀{a:List (Int×V)}{ps:List (Int×Value)},QP a ps->ps.length=a.length
 | [],[],_=>rfl
 | q::a,p::ps,h=>by rw[qt,qt,QP.length h.2]
 | [],_::_,h=>h.elim
 | _::_,[],h=>h.elim
theorem GX:∀{b:List (Int×V)}{ps:List (Int×Value)}{a:List (bD×V)}{vs:List (bD×Value)},QP b ps->KV a vs->KV (fu a b) (lz vs ps)
 | [],[],_,_,_,r=>r
 | q::b,p::ps,a,vs,h,r=>by
   obtain⟨⟨d,c⟩,h⟩:=h;rw[fu,lz,<-d];exact GX h (r.put (Sum.inl q.1) c)
 | [],_::_,_,_,h,_=>h.elim
 | _::_,[],_,_,h,_=>h.elim
theorem GY:∀(b:List (Int×V)) (a:List (bD×V)),(fu a b).length<=a.length+b.length
 | [],a=>by rw[fu];simp
 | q::b,a=>by
   rw[fu,qt];have d:=GY b (du a (Sum.inl q.1) q.2);have c:=LN a (Sum.inl q.1) q.2;lia
section
variable {X:Cx}
theorem GZ{σ:L2.St}(I:Inv X pins σ H s):∀{ys:AN}{its:AD}{a:List (Int×V)},pD H ys a->Vals ys its->∃ps,pC s.heap its ps/\QP a ps
 | [],its,[],_,r=>by
   cases r;exact⟨[],trivial,trivial⟩
 | y::ys,its,q::a,h,r=>by
   obtain⟨⟨b,rfl,hb⟩,h⟩:=h
   cases r with
   | cons p i=>
     cases p;obtain⟨ps,d,m⟩:=GZ I h i;obtain⟨c,g,⟨o,e,k,n,f⟩,_⟩:=I.tuple  (.of hb)
     cases g with
     | cons l u=>
       cases u with
       | cons v j=>
         cases j;obtain⟨t,rfl⟩:=l;exact⟨(q.1,_)::ps,⟨⟨b,t,o,n,rfl,e,k,f⟩,d⟩,⟨⟨rfl,v⟩,m⟩⟩
 | [],_,_::_,h,_=>h.elim
 | _::_,_,[],h,_=>h.elim
def yg(K:W7):AN->Hp->VK->Prop:=λxs H Q=>∃a ys c,xs=[.ref a]/\SqL K H a ys/\pD H ys c/\c.length<a_/\∀p,H p=none->Q (.ref p) (upd H p (.dK (fu [] c)))
theorem Nm(p:X.calm=true):c6 X (.type "dict") (yg X.K):=by
 intro pins s σ H xs us Q I r h;obtain⟨a,ys,n,rfl,i,j,w,q⟩:=h;obtain⟨u,rfl,k⟩:=dM r;cases k;obtain⟨its,m,pl,v⟩:=I.list i;obtain⟨ps,t,g⟩:=GZ I j m;have f:a_=1000000:=rfl
 have d:ps.length<=sizeLine:=by rw[g.length,jf];lia
 refine Nl (I.ok.hd p) pl t d λh' tk c l=>(⟨.ref (~~~s),_,I.laid  (λb o e=>c b o e) (qv _) (vG ?_ (beq_eq_false_iff_ne.mpr (Ne.symm (qm I.big))) (GX g .nil) l),rfl,q _ (I.hok.fresh (qv _))⟩)
 have:=GY n [];rw[jf];grind
end
def gz:AQ->Option (List (Int×D))
 | []=>some []
 | .tup [.int i,v]::l=>(gz l).map ((i,v)::·)
 | _=>none
def pairsOf:D->Option (List (Int×D))
 | .lst l=>gz l
 | _=>none
def cG{a:Type}(ns:AG)(vs:List a)(i:Int)(y:a):List Int×List a:=if i∈ns then (ns,cu ns vs i y)else (ns++[i],vs++[y])
def bR{a:Type}(ns:AG)(vs:List a):List (Int×a)->List Int×List a
 | []=>(ns,vs)
 | p::ps=>bR (cG ns vs p.1 p.2).1 (cG ns vs p.1 p.2).2 ps
theorem Nn(h:ns.Nodup):(cG ns vs i y).1.Nodup:=by
 unfold cG;grind
def Np(h:ns.length=vs.length):(cG ns vs i y).1.length=(cG ns vs i y).2.length:=by
 unfold cG
 split
 .rw[GM];exact h
 .simp[h]
variable {K:W7}
def DQ(K:W7)(G:Hp):List (Int×D)->List (Int×V)->Prop
 | [],[]=>True
 | d::ds,q::a=>(d.1=q.1/\Rp K G d.2 q.2)/\DQ K G ds a
 | _,_=>False
theorem DQ.length:∀{ds:List (Int×D)}{a:List (Int×V)},DQ K G ds a->a.length=ds.length
 | [],[],_=>rfl
 | q::a,p::ps,h=>by rw[qt,qt,DQ.length h.2]
 | [],_::_,h=>h.elim
 | _::_,[],h=>h.elim
theorem G6(s:Same G H):∀{l:AQ}{ps:List (Int×D)}{xs:AN},gz l=some ps->RpL K G l xs->∃c,pD H xs c/\DQ K G ps c
 | [],ps,xs,e,r=>by
   cases e;subst r;exact⟨[],trivial,trivial⟩
 | d::l,ps,xs,e,r=>by
   unfold gz at e
   split at e
   case h_1 he=>cases he
   case h_2 i v l' he=>
    injection he with f g;subst f g;obtain⟨h,u,rfl⟩:=qc e;obtain⟨x,v,rfl,p,m⟩:=r;obtain⟨c,q,j⟩:=G6 s u m;obtain⟨b,ys,rfl,hb,a⟩:=p;obtain⟨w,n,rfl,o,a⟩:=a;obtain⟨t,n,rfl,k,a⟩:=a;subst a;subst o;exact⟨(i,t)::c,⟨⟨b,rfl,s _ _ hb⟩,q⟩,⟨⟨rfl,k⟩,j⟩⟩
   grind
theorem G7:∀{ps:List (Int×D)}{g:List (Int×V)}{ns:AG}{ds:AQ}{vxs:AN},DQ K G ps g->ns.Nodup->ns.length=vxs.length->RpL K G ds vxs->
 ∃a,fu (zK ns vxs) g=zK (bR ns ds ps).1 a/\(bR ns ds ps).1.Nodup/\(bR ns ds ps).1.length=a.length/\RpL K G (bR ns ds ps).2 a
 | [],[],ns,ds,vxs,_,b,c,f=>⟨vxs,rfl,b,c,f⟩
 | d::ps,q::g,ns,ds,vxs,h,b,c,f=>by
   obtain⟨⟨e,r⟩,h⟩:=h;rw[fu,x8 c b]
   have e1:(ef ns vxs q.1 q.2).1=(cG ns ds d.1 d.2).1:=by
    unfold ef cG;grind
   rw[e1];refine G7 h (Nn b) ?_ ?_
   .rw[<-e1]
    exact Np  c
   .unfold ef cG
    rw[e]
    split
    .exact GN q.1 r f
    .exact RpL.snoc r f
 | [],_::_,_,_,_,h,_,_,_=>h.elim
 | _::_,[],_,_,_,h,_,_,_=>h.elim
section
variable {prog:P7}{w:World}{A:Around}{E:AB}{s:Shared}
def lA:Int:=4238894112
def Nr(h:Q lA { s with toks:=s.toks+1 }):wpAny (mZ prog w) A (pyHash .none) Q E s:=by
 have a:s.TypeIs .none "NoneType":=rfl
 exact wa (wc (wa (wpAny_specialOf a F.slot_NoneType_hash.lookup (wa (wpAny_specialOf a F.slot_NoneType_hash.lookup (wa (wpAny_callSpecialIfBoundUnlessNone?_slot a F.slot_NoneType_hash
  (we F.slot_NoneType_hash a F.entry_NoneType_hash
   ( wpAny_ret_mkInt (wc h)) (F.args_NoneType_hash_1 _)))))))))
theorem Nt(f:s.heap.get? d=some o)(c:o.data=.dict b j)(g:∀e∈b,e.hash≠lA)(h:Q none { s with toks:=s.toks+1 }):
 wpAny (mZ prog w) A (dictGet d .none) Q E s:=by
 have a:placesWithHash b.size (λi=>b[i]?.map (·.hash)) lA=[]:=by
  unfold placesWithHash
  simp_all
 refine wd (wa (Nr (wa (wd (wa (wpAny_dictEntries  f c ?_))))));rw[a];exact wc (wc h)
def pE(ns:AG):Bool:=ns.all λn=>decide (-1000000000<n/\n<1000000000)
theorem Nu:∀{b:List DictEntry},Pairs (y6 prog w) b a->∀e∈b,∃c∈a,(y6 prog w).is c.1 e.key=true:=by
 intro b h
 induction h with
 | nil=>grind
 | cons f _ _ d=>
   grind
theorem yh{ns:AG}(y:s.heap.DictOf (y6 prog w) d b)(r:b.map (·.1)=ns.map Sum.inl)(hs:pE ns=true)(h:Q none { s with toks:=s.toks+1 }):
 wpAny (mZ prog w) A (dictGet d .none) Q E s:=by
 obtain⟨o,D,C,v,_,j,c,x,_⟩:=y;refine Nt v j (λe u=>?_) h;obtain⟨k,p,m⟩:=c e u;obtain⟨q,g,i⟩:=Nu x e (by grind);have a:q.1∈b.map (·.1):=List.mem_map_of_mem g;rw[r]at a;obtain⟨n,l,f⟩:=qy a;have t:=List.all_eq_true.mp hs n l;rw[m,((y6 prog w).inj _ _ _ p i),<-f];show hashInt n≠lA;intro z
 have:hashInt n=n\/hashInt n=-2:=by
  have B:rawHash n=if (n==-1)=true then -2 else n:=by
   unfold rawHash;grind
  unfold hashInt;grind
 unfold lA at z;lia
def Nv{ns:AG}(f:(d==sysModules)=false)(c:s.heap.DictOf (y6 prog w) d a)(e:a.map (·.1)=ns.map Sum.inl)(hs:pE ns=true)(h:Q false { s with toks:=s.toks+1 }):wpAny (mZ prog w) A (contains (.ref d) .none) Q E s:=by
 have b:=c.typeIs;refine wd (wa (wpAny_specialOf b slot_dict_contains.lookup (wa (wpAny_callSpecialUnlessNone?_slot  b slot_dict_contains (we slot_dict_contains b entry_dict_contains ?_ (args_dict_contains _ _))))));show wpAny _ _ (dictGet d .none>>=_) _ _ s;exact wa (yh c e hs (wa (wpAny_pendingKey_other f (wc ⟨_,rfl,wpAny_truthy_bool h⟩))))
end
def ek(a:Bool):D->D->Option Bool
 | .int i,.dct false ks vs=>ip a (.int i) (.dct false ks vs)
 | .non,.dct false ks _=>(b0 ks).bind λns=>if pE ns=true then some (false != a)else none
 | _,_=>none
def lB(b:Bool):R2:=λx y H Q=>iq b x y H Q\/(x=.non/\∃a c ns,y=.ref a/\H a=some (.dK c)/\c.map (·.1)=ns.map Sum.inl/\pE ns=true/\Q (.bl (false != b)) H)
def Nw:eA K (lB c) (ek c):=by
 intro x y n o b H G Q h s f e q;unfold ek at h
 split at h
 .exact .inl (Na x y _ _ b H G Q h s f e q)
 .obtain⟨ns,j,h⟩:=qa h
  split at h
  case isFalse=>cases h
  rename_i d;injection h with h;subst h;subst f;obtain⟨a,i,vxs,rfl,g,k,p⟩:=e;obtain⟨e1,e2,l,m⟩:=lr j g k;exact .inr ⟨rfl,a,_,ns,rfl,e1,jB ns vxs l,d,q⟩
 .cases h
section
variable {X:Cx}
theorem yi{vs:List (bD×Value)}(b:KV a vs):vs.map (·.1)=a.map (·.1):=by
 induction b with
 | nil=>rfl
 | cons r _ c=>grind
def yj(i:X.A.units+64<cLine):bU X (compareOp .NotIn) (lB true):=by
 intro pins s σ H x y v u Q I c d h;rcases h with h|⟨rfl,a,f,ns,rfl,e,g,hs,q⟩
 .exact Nb i pins s σ H x y v u Q I c d h
 .cases c
  cases d;obtain⟨z,j,vs,b,k⟩:=vE I.hok e;exact wa (Nv j k ((yi b).trans g) hs (wc (⟨.bl (false != true),H,I.tok _,rfl,q⟩)))
variable {a b e f':Expr}{fa fb f fz:AV}{pos:Pos}
@[simp] theorem Nx(c:Bool)(ks vs:AQ)(i:Int):ek c (.int i) (.dct false ks vs)=(b0 ks).map λns=>decide (i∈ns)!=c:=jD rfl
end
end
section
def ir:AD->AK->Prop:=Paired λv k=>(∃t,v=.str k t)/\PyData.strOk k=true
def GT(K:W7)(b:AE)(x:Str)(ks:AK):Prop:=∃p o its n,b x=some (.ref p)/\K.lookup p=some o/\o.cls=.type "tuple"/\o.data=.seq its n/\ir its.toList ks
theorem G8{h:Heap}:∀{vs:AD}{ks:AK},ir vs ks->∃a,ReadsAll h vs (ks.map PyData.str) a/\PyData.canLayAll0 (ks.map PyData.str)=true
 | _,_,.nil=>⟨_,.nil,by simp[PyData.canLayAll0]⟩
 | _,_,.cons r t=>by
   obtain⟨⟨tk,rfl⟩,b⟩:=r;obtain⟨a,d,c⟩:=G8  t;exact⟨_,.cons (.str _ tk) d,by simp[PyData.canLayAll0,PyData.canLay0,c,b]⟩
def yk(a:Bool)(ks:AK):D->Option Bool
 | .str k=>some (decide (k∈ks)!=a)
 | _=>none
def ym(p:Addr)(ks:AK)(a:Bool):R2:=λx y H Q=>∃k,x=.str k/\PyData.strOk k=true/\y=.ref p/\Q (.bl (decide (k∈ks)!=a)) H
theorem G9(k:Str):∀ks:AK,((ks.map PyData.str).any λy=>PyData.eqv y (.str k))=decide (k∈ks)
 | []=>rfl
 | a::ks=>by
   rw[Qd,List.any_cons,G9 k ks];have e:PyData.eqv (.str a) (.str k)=decide (k=a):=decide_eq_decide.mpr ⟨λh=>h.symm,λh=>h.symm⟩;rw[e];by_cases h:k=a<;>simp[h]
end
section
end
section
section
variable {prog:P7}{w:World}{A:Around}{E:AB}{s:Shared}
def pF:isSubtype (.type "set") (.type "set")=pure true:=by kernel_rfl
theorem yn:∀{a:AD},a.length=b.length->(∀(j:Nat) v,a[j]?=some v->hV b j v)->IntsAre a b:=by
 induction b with
 | nil=>
   intro a h _;rw[List.length_eq_zero_iff.mp h];exact .nil
 | cons k r e=>
   intro a h c
   match a,h with
   | v::a,h=>
     obtain⟨d,t,e1,e2⟩:=c 0 v rfl;simp at e1;subst e1;subst e2;refine .cons _ t (e (by simpa using h) λj v f=>?_);obtain⟨d,t,e1,e2⟩:=c (j+1) v (by grind);exact⟨d,t,by grind,e2⟩
theorem Ny(T:A.handled=none)(G:SetI prog w s.heap a ns)(hQ:∀(h':Heap) (d':Drawn) (tk:Nat) (q:AD) (d:AG),~~~s<=h'.objs.size->(∀b o,s.heap.get? b=some o->h'.get? b=some o)->IntsAre q d->d.Perm ns->Q q { s with heap:=h',drawn:=d',toks:=tk }):
 wpAny (mZ prog w) A (collect (.ref a)) Q E s:=by
 obtain⟨o,es,ep,t,O,u,hd,_⟩:=id G;have hlt:a< ~~~s:=ql O;have B:=G.len;unfold collect;refine wa (wpAny_runValue (wx F.entry_proto_collect ?_));rw[jb F.plain_proto_collect _];refine wa (wf ?_);refine wc ⟨ja F.plain_list_iadd _,wx F.entry_list_iadd ?_⟩;rw[jb F.plain_list_iadd _];generalize L:s.heap.push { cls:=.type "list",data:=.seq ([]:AD).toArray }=H
 have Z:H.objs.size= ~~~s+1:=by rw[<-L,wv]
 have c:∀b o,s.heap.get? b=some o->H.get? b=some o:=λb o e=>by rw[<-L];exact qe _ e
 have hL:H.get? (~~~s)=some { cls:=.type "list",data:=.seq ([]:AD).toArray }:=by rw[<-L];exact qp _ rfl
 have x:=c a o O
 have V:Shared.TypeIs { s with heap:=H } (.ref a) "set":=⟨o,x,u.1⟩
 have M:(~~~s)≠a:=λz=>by grind
 have h1:Builtin.List.listSameRef (.ref (~~~s)) (.ref a)=false:=by simp[Builtin.List.listSameRef,M]
 show wpAny _ A.in1 (Builtin.List.listExtendWith (.ref (~~~s)) (.ref a) (.ref (~~~s))) _ _ _;unfold Builtin.List.listExtendWith;refine wa (wpAny_typeOf V ?_)
 have h2:(Value.type "set"==Value.type "list")=false:=by decide
 have U:(Value.type "set"==Value.type "tuple")=false:=by decide
 simp only[h1,h2,U,Bool.or_false,Qo,if_false];refine wa (Mm (s:={ s with heap:=H }) (G.at λo e=>c a o e) λh' d' I Y d St i hI R hfp ua S N hty=>?_);have K:=i a o x
 have m:Shared.TypeIs { s with heap:=h',drawn:=d' } (.ref a) "set":=⟨o,K,u.1⟩
 refine wa (wd ?_);unfold Builtin.List.listLengthHint;refine wa (wpAny_specialOf m F.slot_set_len.lookup ?_);refine wa (wpAny_isInstance (b:=true) m pF ?_);show wpAny _ A.in1 (typeOf (Value.ref a)>>=_) _ _ _;refine wa (wpAny_typeOf m ?_);refine wc ?_;rw[if_pos (by decide)];refine wa (wpAny_rule ?_)
 have C:(~~~s)∉Y:=λp=>by
  grind
 have f:=i _ _ hL;refine wa ?_;refine wa (wpAny_updateSeq f rfl ?_);have g:=ww (Obj.mapSeq (·.push Value.none)) f rfl;refine wpAny_updateSeq g rfl ?_;have l:=ww (Obj.mapSeq (·.pop)) g rfl
 have y:∀b o,b≠(~~~s)->h'.get? b=some o->
  ((h'.update (~~~s) (Obj.mapSeq (·.push Value.none))).update (~~~s) (Obj.mapSeq (·.pop))).get? b=some o:=
  λb o hb e=>(Heap.get?_update_other _ _ (Ne.symm hb)).trans ((Heap.get?_update_other _ _ (Ne.symm hb)).trans e)
 have W:=(S A.in1 T).toS
 refine wc ⟨ja F.plain_extend_loop _,codeAny_extend_loopS W (fits_of_scanBound B) _ C _ ns.length 0 _ _ _ rfl (Qh _)
  (W.frame 0 ({ s with heap:=h',drawn:=d' }:Shared) _ s.toks N (qv _) λb hb o e=>y b o (λh=>C (h ▸ hb)) e) l (ItemsOf.nil _) λs' n c' p r k=>?_⟩
 show wpAny _ A (load (~~~s)>>=_) _ _ s';refine wa (wpAny_load r ?_);have eg:s'.gens=s.gens:=p.gens;have ed:s'.drawn=d':=p.drawn;have eo:s'.os=s.os:=p.os
 have J:s'={ s with heap:=s'.heap,drawn:=d',toks:=s'.toks }:=by
  obtain⟨a1,a2,a3,a4,a5⟩:=s';grind
 rw[J];refine wc (hQ s'.heap d' s'.toks n.toList d (Nat.le_of_lt (ql r)) (λb D e=>?_) (yn (by rw[qj,k.1,ua.length_eq]) λj v hj=>k.2 j v (by grind)) ua);have hb:b< ~~~s:=ql e;refine p.heap b D (λX=>?_) (y b D (qm hb) (i b D (c b D e)));grind
theorem Nz(r:A.handled=none)(y:SetI prog w s.heap a ns)(i:ns.length<64)(v:∀(h':Heap) (d':Drawn) (tk e:Nat) (p:Addr) (out:Array Value) (c:AG),(∀b o,s.heap.get? b=some o->h'.get? b=some o)->(~~~s)<=p->h'.get? p=some (seqObj "list" out e)->IntsAre out.toList c->c.Perm ns->c.Pairwise (·<=·)->
  Q (.ref p) { s with heap:=h',drawn:=d',toks:=tk }):wpAny (mZ prog w) A (call (.builtin "sorted") [.ref a]) Q E s:=by
 refine Calls.call_function_entry kind_sorted plain_sorted entry_sorted (args_sorted1 _) (wa  (wc (wa (Ny  r y λh' d' tk f q j d m n=>?_))))
 have h:f.length<64:=by rw[(IntsAre.length m),n.length_eq];exact i
 refine wa (wpAny_newList ?_ (by rw[jf];lia));have g:(h'.push (seqObj "list" f.toArray 0)).get? h'.objs.size=some (seqObj "list" f.toArray 0):=qp _ rfl;refine wa (wd (we slot_list_sort ⟨_,g,rfl⟩ entry_list_sort (list_sort_tree  g m h λout c z u t=>⟨_,rfl,?_⟩) (args_list_sort _)));obtain⟨e,x⟩:=sortedHeap_at   g;refine wc ⟨_,rfl,v _ d' tk e h'.objs.size out c (λb o l=>?_) j x z (u.trans n) t⟩;have hb:=ql (d b o l);rw[sortedHeap_old (qm hb) (by rw[size_push'];grind)];exact qe _ (d b o l)
end
def cX(P:P7)(w:World)(p:Addr)(a:AG):HO:=.ext λh=>SetI P w h p a
theorem yo(x:SetI P w h p a):ObjOk P w H h p (cX P w p a):=by
 refine⟨x,?_,λd c e k=>e.at k⟩;obtain⟨o,_,_,_,b,_⟩:=x;grind
section
variable {X:Cx}{pins:AC}{σ:L2.St}{H:Hp}{s:Shared}{e:Expr}{f:AV}{p p2 pos pos2:Pos}
def _root_.L2.Inv.dr(I:Inv X pins σ H s)(d':Drawn):Inv X pins σ H { s with drawn:=d' }:=⟨I.ok,I.os,I.bare,I.base,I.loc,I.cell,I.free,I.freeC,I.pin,I.hok,I.len⟩
def G_(r:Vals (ns.map V.int) us):IntsAre us ns:=oS r
def yp(K:W7)(P:P7)(w:World):AN->Hp->VK->Prop:=λxs H Q=>∃a ns,xs=[.ref a]/\(SqL K H a (ns.map V.int)\/SqT K H a (ns.map V.int))/\ns.length<4000/\∀p c,H p=none->c.Perm (aY [] ns)->Q (.ref p) (upd H p (cX P w p c))
theorem yq(v:X.calm=true):c6 X (.type "set") (yp X.K X.prog X.w):=by
 intro pins s σ H xs us Q I r h;obtain⟨a,ns,rfl,c,x,q⟩:=h;obtain⟨u,rfl,w⟩:=dM r;cases w;have m:=I.ok.hd v;have n:scanBound=4096:=rfl;rcases c with c|c
 .obtain⟨its,d,pl,t⟩:=I.list c
  have g:=d.length
  exact Mg m pl.isList (by simpa using G_ d) (by grind) λh' tk j i l k=>(⟨.ref (~~~s),_,I.laid  (λb o e=>k b o (ql e) e) (qv _) (yo i),rfl,q _ j (I.hok.fresh (qv _)) l⟩)
 .obtain⟨its,d,pl,t⟩:=I.tuple c
  have g:=d.length
  exact Mh m pl (by simpa using G_ d) (by grind) λh' tk j i l k=>(⟨.ref (~~~s),_,I.laid  (λb o e=>k b o (ql e) e) (qv _) (yo i),rfl,q _ j (I.hok.fresh (qv _)) l⟩)
def yr(P:P7)(w:World):AN->Hp->VK->Prop:=λxs H Q=>∃a b,xs=[.ref a]/\H a=some (cX P w a b)/\b.length<64/\∀p,H p=none->Q (.ref p) (upd H p (.lst ((dz b).map V.int)))
theorem Hc(j:X.calm=true):c6 X (.builtin "sorted") (yr X.prog X.w):=by
 intro pins s σ H xs us Q I r h;obtain⟨a,c,rfl,l,n,q⟩:=h;obtain⟨u,rfl,k⟩:=dM r;cases k;refine Nz (I.ok.hd j) (( I.hok a _ l).1) n λh' d' tk e p out m b i v t d hs=>?_;have o:=W.ksm_same (d.trans (eR c).symm) hs (gy c);subst o;have w:=(eR c).length_eq;refine⟨.ref p,_,Inv.laid  (I.dr d') b i (show ObjOk X.prog X.w _ _ _ (.lst ((dz c).map V.int)) from⟨by rw[qf,jf];lia,out.toList,e,oV t,by simp_all⟩),rfl,q _ (I.hok.fresh i)⟩
def gA(l:AQ):Option AQ:=match b0 l with
 | some ns=>if ns.length<4000/\(aY [] ns).length<64 then some ((dz (aY [] ns)).map D.int)else none
 | none=>none
def Hd(h:a.Perm b):dz a=dz b:=W.ksm_same (((eR a).trans h).trans (eR b).symm) (gy a) (gy b)
def lC(f:AV):AW:=λρ=>(b1 f Yc ρ).bind gA
def lD{c:Sort _}{a b:c}(h:a=b):a=b:=h
@[simp] theorem gB{ρ:Ro}:lC f ρ=((f ρ).bind Yc).bind gA:=lD rfl
end
end
section
def cY(m:Nat):Nat->Nat->Nat
 | 0,i=>i
 | k+1,i=>cY m k ((i*5+1)%m)
theorem pG(m:Nat):∀(a b i:Nat),cY m (a+b) i=cY m b (cY m a i)
 | 0,b,i=>by rw[Nat.zero_add];rfl
 | a+1,b,i=>by rw[Nat.succ_add];exact pG m a b _
def iu(m:Nat):Nat->Nat->AF
 | 0,_=>[]
 | k+1,i=>i::iu m k ((i*5+1)%m)
theorem Hg:∀{k i:Nat},j∈iu m k i->∃a,a<k/\cY m a i=j
 | 0,_,h=>(nomatch h)
 | k+1,i,h=>by
   rcases qu h with rfl|h
   .exact⟨0,by lia,rfl⟩
   .obtain⟨a,b,e⟩:=Hg h
    exact⟨a+1,by lia,e⟩
def lE(m:Nat):Bool:=(List.range m).all (λj=>(iu m m 0).contains j)&&cY m m 0==0
def sizes:AF:=[8,16,32,64,128]
def yt:sizes.all lE=true:=by decide +kernel
theorem yu(o:m∈sizes)(l:i<m)(n:j<m):∃k,k<m/\cY m k i=j:=by
 have h:=List.all_eq_true.mp yt m o;unfold lE at h;rw[Qe]at h;obtain⟨g,q⟩:=h
 have e:cY m m 0=0:=by grind
 have c:∀x,x<m->∃a,a<m/\cY m a 0=x:=λx f=>by
  have:=List.all_eq_true.mp g x (List.mem_range.mpr f);exact Hg (by grind)
 obtain⟨a,p,rfl⟩:=c i l;obtain⟨b,hb,rfl⟩:=c j n;by_cases d:a<=b
 .refine⟨b-a,by lia,?_⟩
  rw[<-pG,Nat.add_sub_cancel' d]
 .refine⟨m-a+b,by lia,?_⟩
  rw[<-pG,show a+(m-a+b)=m+b by lia,pG,e]
section
variable {mask:Nat}{owner:Array AM}
theorem yv(a i p:Nat):(∃j,SetTable.layClean.free mask owner (a+1) i p=some j/\owner.getD j (some 0)=none)\/
 (owner.getD i (some 0)≠none/\SetTable.layClean.free mask owner (a+1) i p=SetTable.layClean.free mask owner a ((i*5+1+p/32)%(mask+1)) (p/32)):=by
 rw[SetTable.layClean.free]
 cases e:(List.range (SetTable.runEnd mask i+1-i)).find? (λk=>(owner.getD (i+k) (some 0)).isNone)with
 | some k=>
   simp_all
 | none=>
   right;refine⟨λz=>?_,rfl⟩;have:=List.find?_eq_none.mp e 0 (List.mem_range.mpr (by unfold SetTable.runEnd;split<;>lia));grind
theorem Hh:∀(k a i:Nat),k<a->owner.getD (cY (mask+1) k i) (some 0)=none->∃j,SetTable.layClean.free mask owner a i 0=some j/\owner.getD j (some 0)=none
 | k,0,_,h,_=>absurd h (Nat.not_lt_zero _)
 | k,a+1,i,h,c=>by
   rcases yv   a i 0 with b|⟨b,d⟩
   .exact b
   .cases k with
    | zero=>exact absurd c b
    | succ k=>
      rw[d];exact Hh k a _ (by lia) c
theorem NA(h:mask+1∈sizes)(n:i<mask+1)(o:p<1024)(g:∃j,j<mask+1/\owner.getD j (some 0)=none):∃j,SetTable.layClean.free mask owner (SetTable.turns mask) i p=some j/\owner.getD j (some 0)=none:=by
 obtain⟨j,f,l⟩:=g;have e:SetTable.turns mask=mask+13+1+1:=rfl;rw[e];rcases yv   (mask+13+1) i p with a|⟨_,d⟩
 .exact a
 .rw[d]
  generalize (i*5+1+p/32)%(mask+1)=b;rcases yv   (mask+13) b (p/32)with a|⟨_,c⟩
  .exact a
  .rw[c,show p/32/32=0 by lia]
   obtain⟨k,m,e2⟩:=yu h (i:=(b*5+1+0)%(mask+1)) (Nat.mod_lt _ (by lia)) f;exact Hh k _ _ (by lia) (by grind)
end
theorem pI{a c:Type}{f g:a->Option c}:∀{l:List a},(∀x∈l,f x=g x)->l.filterMap f=l.filterMap g
 | [],_=>rfl
 | x::l,h=>by
   have d:=pI  λy b=>h y (qg _ b);grind
theorem lG{f g:Nat->AM}(n:f j=none)(m:g j=some k):∀{l:AF},l.Nodup->j∈l->(∀x∈l,x≠j->g x=f x)->(l.filterMap g).Perm (k::l.filterMap f)
 | [],_,h,_=>(nomatch h)
 | x::l,b,h,d=>by
   obtain⟨i,b⟩:=List.nodup_cons.mp b;by_cases e:x=j
   .subst e
    have:=pI λy a=>d y (qg _ a) λz=>i (z ▸ a);grind
   .have c:j∈l:=by
     grind
    have o:=lG n m b c λy a=>d y (qg _ a);grind
theorem Hi(y:mask+1∈sizes):∀(hs:AG) (owner:Array AM) (k:Nat),owner.size=mask+1->((List.range (mask+1)).filterMap λj=>owner.getD j none).Perm (List.range k)->k+hs.length<=mask->(∀h∈hs,0<=h/\h<1024)->
 ∃c,(hs.foldl (init:=some (owner,k)) λm h=>do
  let (owner,k) <-m
  let j <-SetTable.layClean.free mask owner (SetTable.turns mask) (SetTable.bits h%(mask+1)) (SetTable.bits h)
  pure (owner.setIfInBounds j (some k),k+1))=some (c,k+hs.length)/\c.size=mask+1/\((List.range (mask+1)).filterMap λj=>c.getD j none).Perm (List.range (k+hs.length))
 | [],owner,k,u,s,_,_=>⟨owner,rfl,u,s⟩
 | h::hs,owner,k,u,s,G,w=>by
   have hb:SetTable.bits h<1024:=by
    obtain⟨a,b⟩:=w h qh;unfold SetTable.bits;lia
   have f:∃j,j<mask+1/\owner.getD j (some 0)=none:=Classical.byContradiction λr=>by
    have A:=s.length_eq;rw[List.length_range]at A
    have n:∀j∈List.range (mask+1),(owner.getD j none).isSome=true:=λj v=>by
     have t:=Qb v;have:owner.getD j (some 0)≠none:=λz=>r ⟨j,t,z⟩
     have p:j<owner.size:=by lia
     simp only[Array.getD,p,dif_pos]at this ⊢;exact Option.isSome_iff_ne_none.mpr this
    have:((List.range (mask+1)).filterMap λj=>owner.getD j none).length=(List.range (mask+1)).length:=by
     generalize List.range (mask+1)=l at n
     simp_all
    grind
   obtain⟨j,v,E⟩:=NA y (owner:=owner) (i:=SetTable.bits h%(mask+1)) (p:=SetTable.bits h) (Nat.mod_lt _ (by lia)) hb f
   have B:j<owner.size:=Classical.byContradiction λz=>by
    grind
   have e:owner.getD j none=none:=by
    grind
   have F:=lG (f:=λx=>owner.getD x none) (g:=λx=>(owner.setIfInBounds j (some k)).getD x none) (j:=j) (k:=k) e (by simp_all) (l:=List.range (mask+1)) List.nodup_range (List.mem_range.mpr (by lia)) λx q i=>by
    have C:=Qb q
    have o:x<owner.size:=by lia
    simp[Array.getD,o,Array.getElem_setIfInBounds,Ne.symm i]
   have g:((List.range (mask+1)).filterMap λx=>(owner.setIfInBounds j (some k)).getD x none).Perm (List.range (k+1)):=by
    grind
   obtain⟨c,e1,e2,D⟩:=Hi y hs (owner.setIfInBounds j (some k)) (k+1) (by grind) g (by grind) λx q=>w x (qg _ q);refine⟨c,?_,e2,?_⟩
   .grind
   grind
theorem Hj{led plain:Bool}(d:mask+1∈sizes)(hs:Array Int)(g:hs.size<=mask)(b:∀h∈hs.toList,0<=h/\h<1024):∃t o,SetTable.laid mask finger moves led plain hs=some (t,o)/\o.toList.Perm (List.range hs.size)/\t.place.size=hs.size/\t.dummies=#[]/\t.mask=mask/\t.plain=plain:=by
 have a:((List.range (mask+1)).filterMap λj=>(Array.replicate (mask+1) (none:AM)).getD j none)=[]:=by
  simp_all
 obtain⟨owner,e1,e2,e⟩:=Hi d hs.toList (Array.replicate (mask+1) none) 0 (by simp) (by grind) (by grind) b
 have c:SetTable.layClean mask hs=some owner:=by
  unfold SetTable.layClean;grind
 have f:((List.range (mask+1)).filterMap λj=>(owner.getD j none).map (j,·)).map (·.2)=(List.range (mask+1)).filterMap λj=>owner.getD j none:=by
  rw[List.map_filterMap];refine pI λj _=>?_;cases owner.getD j none<;>rfl
 refine⟨_,_,by unfold SetTable.laid;rw[c];rfl,?_,?_,rfl,rfl,rfl⟩
 .grind
 .have:=e.length_eq
  grind
theorem pJ(xs:Array a)(p:Nat):(SetTable.eraseAt xs p).toList=xs.toList.eraseIdx p:=by
 unfold SetTable.eraseAt;rw[List.eraseIdx_eq_take_drop_succ];simp[Array.toList_extract];exact List.take_of_length_le (by simp)
theorem NB(h:bN xs)(p:Nat):bN (SetTable.eraseAt xs p):=by
 unfold bN at h ⊢;rw[pJ];grind
theorem yw(h:p<xs.size):(SetTable.eraseAt xs p).size=xs.size-1:=by
 rw[<-qj,pJ,List.length_eraseIdx_of_lt (by simpa using h)];simp
theorem NC(xs:Array a)(p:Nat)(x:a):(SetTable.insertAt xs p x).size=xs.size+1:=by
 rw[<-qj,Yx,qz];simp;lia
section
variable {prog:P7}{w:World}{A:Around}{E:AB}{s:Shared}
theorem ND(M:SetI prog w s.heap a ns)(h:∀h' q,Heap.SameBut a s.heap h'->SetI prog w h' a q->q.Perm (ns.erase k)->Q (decide (k∈ns)) { s with heap:=h' }):
 wpAny (mZ prog w) A (setDiscardHashed a (.int k u) (hashInt k)) Q E s:=by
 have B:=M;obtain⟨o,d,V,t,i,D,n,c,g,C,hb,x,O⟩:=M;have p:(intKind prog w).is k (.int k u)=true:=intKind_is _ _ _ _;have J:(Value.int k u).scannable=true:=rfl;refine wa ?_;refine wa (wg i n x ?_);dsimp only;rw[byScan_of J hb c];simp only[↓reduceIte];refine wa (wpAny_rule ?_);refine wa (wpAny_setScan_of (knd:=intKind prog w) (k:=k) p i n x c ?_)
 cases N:List.findIdx? (λe=>(intKind prog w).is k e.2) d.toList with
 | none=>
   dsimp only
   have y:k∉ns:=λy=>by
    rw[<-g]at y;obtain⟨e,l,F⟩:=qy y;have S:=List.findIdx?_eq_none_iff.mp N e l;obtain⟨t',L⟩:=jo c l;rw[L,F]at S;have X:(intKind prog w).is k (.int k t')=true:=intKind_is _ _ _ _;grind
   refine wc (wc ?_);have:=h s.heap ns (Heap.SameBut.refl a s.heap) B (by grind)
   simp_all
 | some j=>
   dsimp only;obtain⟨W,H,_⟩:=List.findIdx?_eq_some_iff_getElem.mp N
   have r:j<d.size:=by grind
   have T:cB d.toList[j]=k:=wI H
   have y:k∈ns:=by
    grind
   refine wc ?_;dsimp only;refine wa (wg i n x ?_);dsimp only;rw[Nat.zero_add]
   have m:(SetTable.eraseAt d j).size<scanBound:=by rw[yw r];lia
   refine wa (wpAny_storeSet_of i n ?_ (fits_of_scanBound m));have K:=gq i n (SetTable.eraseAt d j) (t.drop j);have R:=wu s.heap a (Obj.putSet (SetTable.eraseAt d j) (t.drop j));refine wa (wpAny_point (wc ?_));have f:=x;unfold SetTable.fits at f
   have I:j<t.place.size:=by lia
   have b:t.drop j={ t with place:=SetTable.eraseAt t.place j,dummies:=SetTable.insertAt t.dummies (SetTable.below t.dummies t.place[j]) t.place[j] }:=by
    unfold SetTable.drop;grind
   have v:j<ns.length:=by grind
   have G:(ns.eraseIdx j).Perm (ns.erase k):=by
    have U:=wL v;grind
   have P:SetI prog w (s.heap.update a (Obj.putSet (SetTable.eraseAt d j) (t.drop j))) a (ns.eraseIdx j):=by
    refine⟨_,SetTable.eraseAt d j,_,t.drop j,K,D,rfl,λe l=>?_,?_,C.sublist (List.eraseIdx_sublist _ _),m,?_,?_⟩
    .rw[pJ]at l
     exact c e (List.mem_of_mem_eraseIdx l)
    .rw[pJ,<-g,List.eraseIdx_eq_take_drop_succ,List.eraseIdx_eq_take_drop_succ,Qk,List.map_take,List.map_drop]
    .rw[b]
     unfold SetTable.fits;unfold SetTable.fill at f ⊢;simp only[Qe,beq_iff_eq,wh,yw I,yw r,NC]at f ⊢;lia
    .rw[b]
     exact⟨O.1,λz=>NB (O.2 z) j⟩
   grind
theorem NF(g:s.heap.get? a=some o)(f:o.data=.set b j t)(e:t.fits b.size=true)(i:Tab (da w) t)(h:∀(r:Array (Int×Value)) (d':Drawn),r.toList.Perm b.toList->Q r { s with drawn:=d' }):wpAny (mZ prog w) A (setWalk a) Q E s:=by
 refine wa (wg g f e (wa (gu ?_)));by_cases hb:da w=true
 .rw[if_pos hb]
  exact wa (wpAny_askSetting (wc (h _ s.drawn (wM _ _))))
 .rw[if_neg hb]
  have d:da w=false:=by grind
  show wpAny _ _ (if (!t.plain&&decide (b.size > 1))=true then _ else _) _ _ _;by_cases c:(!t.plain&&decide (b.size > 1))=true
  .rw[if_pos c]
   refine wa (oY _ _ _ _ (by simp) λys d' k=>wc ?_);grind
  .rw[if_neg c]
   show wpAny _ _ ((if (!t.led&&decide (b.size > 1))=true then unsupported "set:maker-not-led" else pure ())>>=_) _ _ _;rw[if_neg (by rw[i.1 d];simp)];exact wa (wc (wc (h b s.drawn (.refl _))))
def NG(h:∀a∈q,∃ns,SetI prog w s.heap a ns)(C:Q true s):wpAny (mZ prog w) A (setsQuiet q) Q E s:=by
 refine wa (wpAny_forIn_list _ (λc b s'=>b.1=none/\s'=s/\∀a∈c,∃ns,SetI prog w s.heap a ns) _ ?_ ?_ q _ ⟨rfl,rfl,h⟩)
 .rintro a c b s' ⟨hb,rfl,p⟩
  obtain⟨ns,o,r,I,t,v,D,z,i,_,_,_,y,_⟩:=p a qh;refine wa  (wa (wg v z y (wc (wa (MeetsSeq2.wpAny_forIn_array _ (λc b l=>b.1=none/\l=s'/\∀e∈c,e∈r.toList) _ ?_ ?_ r _ ⟨rfl,rfl,λe m=>m⟩)))))
  .rintro⟨K,x⟩ j b2 F ⟨f,rfl,g⟩
   obtain⟨t',k⟩:=jo i (g _ qh);have n:=congrArg Prod.snd k;dsimp only at n;rw[n];exact wc ⟨rfl,rfl,λe m=>g e (qg _ m)⟩
  .rintro b2 F ⟨f,rfl,_⟩
   obtain⟨G,B⟩:=b2;subst f;exact wc ⟨rfl,rfl,λa u=>p a (qg _ u)⟩
 .rintro b s' ⟨hb,rfl,_⟩
  obtain⟨J,H⟩:=b;subst hb;exact wc C
theorem NH(v:SetI prog w s.heap o ns)(q:SetI prog w s.heap f H)(h:∀(r:Array (Int×Value)) (h':Heap) (d':Drawn),Heap.SameBut f s.heap h'->SetI prog w h' f H->ElemsOf (intKind prog w) r.toList->(r.toList.map cB).Perm ns->Q r { s with heap:=h',drawn:=d' }):
 wpAny (mZ prog w) A (setWalkUnseen o [f] (some f)) Q E s:=by
 have K:=v;obtain⟨O,G,R,t,x,I,y,d,k,J,hb,F,D⟩:=v;refine wa (wg x y F (wa (gu ?_)))
 split
 .exact(NF x y F D λr d' M=>h r s.heap d' (Heap.SameBut.refl f s.heap) q (d.perm M) (by grind))
 .refine wa (NG (λa N=>?_) ?_)
  .grind
  .refine wa (wpAny_rule ?_)
   have p:=q;obtain⟨P,B,L,u,c,i,b,l,j,n,m,e,g⟩:=q;refine wa (wg c b e ?_);dsimp only
   split
   .refine wa (wpAny_storeSet_of c b (wc (h G _ s.drawn (wu s.heap f _) ⟨_,B,_,_,(gq c b B { u with led:=u.led&&t.led,plain:=u.plain&&t.plain }),i,rfl,l,j,n,m,e,⟨λz=>?_,λz=>?_⟩⟩ d (by rw[k]))) (fits_of_scanBound m))
    .rw[g.1 z,D.1 z]
     rfl
    .have C:=z
     rw[Qe]at C;exact g.2 C.1
   .exact wc (h G s.heap s.drawn (Heap.SameBut.refl f s.heap) p d (by rw[k]))
def SetI.nodup(x:SetI prog w h a ns):ns.Nodup:=by
 obtain⟨_,_,_,_,_,_,_,_,_,b,_⟩:=x;exact b
def SetI.type(x:SetI prog w s.heap a ns):s.TypeIs (.ref a) "set":=by
 obtain⟨o,_,_,_,c,b,_⟩:=x;exact⟨o,c,b.1⟩
def SetI.but(x:SetI prog w h a ns)(b:a≠f)(c:Heap.SameBut f h h'):SetI prog w h' a ns:=x.at λo e=>(c.2 a b).trans e
theorem NI(p:SetI prog w s.heap f i)(b:i.length+1<scanBound)(h:∀h' c,Heap.SameBut f s.heap h'->SetI prog w h' f c->(∀x,x∈c↔¬(x∈i↔x=k))->c.length<=i.length+1->Q () { s with heap:=h' }):
 wpAny (mZ prog w) A (holding [.int k u] (do
  if !(<-setDiscardHashed f (.int k u) (hashInt k))then
   let _ <-setAddHashed f (.int k u) (hashInt k))) Q E s:=by
 have q:=p.nodup;refine wd (wa (ND p λr l g e a=>?_));by_cases j:k∈i
 .rw[wj j]
  refine wc (h r l g e (λx=>?_) ?_)
  .grind
  .rw[a.length_eq]
   grind
 .rw[wm j]
  rw[List.erase_of_not_mem j]at a;refine wa (Ga  e (by rw[a.length_eq];exact b) λt o m n d=>?_);rw[if_neg (λz=>j (a.mem_iff.mp z))]at d;refine wc (h t o (g.trans m) n (λx=>?_) ?_)
  .grind
  .rw[d.length_eq,qz,a.length_eq]
   grind
def pK(a:SetI prog w s.heap o ns)(h:Q true s):wpAny (mZ prog w) A (Builtin.Frozenset.isAnySet (.ref o)) Q E s:=wa (wpAny_isInstance  a.type pF (wc h))
theorem yx{id:String}(I:o≠f)(v:SetI prog w s.heap o ns)(hF:SetI prog w s.heap f k)(K:k.length+ns.length+1<scanBound)(h:∀h' d' n,Heap.SameBut f s.heap h'->SetI prog w h' f n->(∀x,x∈n↔¬(x∈k↔x∈ns))->Q () { s with heap:=h',drawn:=d' }):
 wpAny (mZ prog w) A (Builtin.Frozenset.symmetricDifferenceUpdate id f (.ref o)) Q E s:=by
 unfold Builtin.Frozenset.symmetricDifferenceUpdate;rw[if_neg (by grind)];refine wa (wpAny_typeOf v.type ?_)
 have c:(Value.type "set"==Value.type "dict")=false:=by decide
 refine wa (pK v ?_);refine wa (wc ?_);have J:=v;obtain⟨oo,es,ep,t,N,Z,M,X,S,Y,hb,L,ht⟩:=J;refine wa (m:=setEpoch o) ?_;refine wa (wg N M L (wc ?_));dsimp only;refine wd ?_;refine wa (NH v hF λr h' d' U F p C=>?_)
 refine wa (wy (MeetsSeq2.wpAny_forIn_array _ (λd _ s'=>∃b c a,s'={ s with heap:=c,drawn:=d' }/\Heap.SameBut f s.heap c/\SetI prog w c f a/\(∀x,x∈a↔¬(x∈k↔x∈b))/\r.toList.map cB=b++d.map cB/\a.length<=k.length+b.length/\∀e∈d,e∈r.toList)
  (λ_ s'=>∃c a,s'={ s with heap:=c,drawn:=d' }/\Heap.SameBut f s.heap c/\SetI prog w c f a/\(∀x,x∈a↔¬(x∈k↔x∈ns))) ?_ ?_ r _ ⟨[],h',k,rfl,U,F,by simp,by simp,by simp,λe H=>H⟩) (λ_ s' hs=>?_) λ_ _ e=>e)
 .rintro x d _ s' ⟨b,c,a,rfl,g,i,l,R,T,u⟩
  have W:=u x qh;obtain⟨tk,D⟩:=jo p W
  have q:a.length+1<scanBound:=by
   have e2:=C.length_eq;grind
  rw[D];refine wa (NI  i q λP z m B O V=>?_);have G:=((g.trans m).2 o I).trans N;refine wa  ?_;refine wa (wa (wg  G M L (wc ?_)));rw[if_neg (by simp)];refine wc (wc ⟨b++[cB x],P,z,rfl,g.trans m,B,λy=>?_,?_,?_,λe H=>u e (qg _ H)⟩)
  .grind
  .grind
  grind
 .grind
 .obtain⟨c,a,rfl,g,i,l⟩:=hs
  exact wc (h c d' a g i l)
theorem NJ(h:0<=k/\k<1024):0<=hashInt k/\hashInt k<1024:=by
 have e:rawHash k=k:=by
  unfold rawHash;grind
 unfold hashInt;grind
def yy:(List.range 64).all (λn=>decide (SetTable.sizeAbove (n*2)∈sizes)&&decide (n<SetTable.sizeAbove (n*2))&&decide (SetTable.sizeAbove (n*2)<=128))=true:=by decide +kernel
theorem NK{a:Array (Int×Value)}{o:Array Nat}(d:o.toList.Perm (List.range a.size)):(o.filterMap (a[·]?)).toList.Perm a.toList:=by
 have c:(o.filterMap (a[·]?)).toList=o.toList.filterMap (a.toList[·]?):=by simp
 have b:(List.range a.size).filterMap (a.toList[·]?)=a.toList:=by
  have:∀l:List (Int×Value),(List.range l.length).filterMap (l[·]?)=l:=λl=>by
   rw[pI  λi e=>?_]
   .show List.filterMap (some ∘ λi=>l.getD i (0,.none)) _=_
    refine List.ext_getElem (by simp) λi c b=>?_;simp[b]
   grind
  grind
 grind
abbrev Hk(a:Nat)(t:SetTable):Obj:={ cls:=.type "set",dict:=none,data:=.set #[] a t }
theorem NL(b:s.heap.get? f=some (Hk p (.fresh 0 0 led)))(m:n<64)(h:∀h' i t',Heap.SameBut f s.heap h'->h'.get? f=some (Hk i t')->t'.mask+1∈sizes->n<=t'.mask->t'.place=#[]->t'.dummies=#[]->t'.led=led->t'.plain=true->Q () { s with heap:=h' }):wpAny (mZ prog w) A (setRoomFor f n) Q E s:=by
 have a:(SetTable.fresh 0 0 led).fits (#[]:Array (Int×Value)).size=true:=rfl;refine wa (wg b rfl a ?_);by_cases t:21<=n*5
 .have e:(SetTable.fresh 0 0 led).roomFor n=some (n*2):=by
   unfold SetTable.roomFor SetTable.fresh SetTable.fill;grind
  rw[e];have c:=List.all_eq_true.mp yy n (List.mem_range.mpr m);simp only[Qe]at c;refine wa (wg b rfl a ?_);dsimp only;rw[if_neg (by rw[jf];lia)];obtain⟨t',j,e1,e2,v,o,u,q⟩:=Hj (mask:=SetTable.sizeAbove (n*2)-1)    (plain:=true) (by grind) #[] (Qh _) (λh k=>by simp at k)
  have g:(SetTable.fresh 0 0 led).relaid ((#[]:Array (Int×Value)).map (·.1)) (n*2)=some (t',j):=by
   rw[show(#[]:Array (Int×Value)).map (·.1)=#[] by simp];exact e1
  rw[g]
  have d:j=#[]:=by
   simp_all
  subst d;have r:=wH e1;refine wpAny_storeSet_of b rfl ?_ (by simp);have l:=gq b rfl (#[]) t';exact h _ _ t' (wu s.heap f _) l (by grind) (by lia) (by grind) o r.2.1 q
 .have e:(SetTable.fresh 0 0 led).roomFor n=none:=by
   unfold SetTable.roomFor SetTable.fresh SetTable.fill;grind
  rw[e];refine wc ?_
  have e:s={ s with heap:=s.heap }:=by rfl
  exact h s.heap p _ (Heap.SameBut.refl f s.heap) b (show 8∈sizes by decide) (show n<=7 by lia) rfl rfl rfl rfl
theorem yz{id:String}(T:SetI prog w s.heap o ns)(hk:∀k∈ns,0<=k/\k<1024)(hl:ns.length<64)(h:∀h' V,(∀b x,s.heap.get? b=some x->h'.get? b=some x)->SetI prog w h' (~~~s) V->V.Perm ns->Q (.ref (~~~s)) { s with heap:=h' }):
 wpAny (mZ prog w) A (Builtin.Frozenset.newFrom id (.type "set") (.ref o)) Q E s:=by
 unfold Builtin.Frozenset.newFrom newSet;refine wa (wa (gu ?_));dsimp only;simp only[newObj];refine wa (wpAny_alloc (wc ?_))
 have J:o< ~~~s:=by
  obtain⟨oo,_,_,_,G,_⟩:=T;exact ql G
 generalize W:s.heap.push _=H
 have c:∀b x,s.heap.get? b=some x->H.get? b=some x:=λb x e=>by rw[<-W];exact qe _ e
 have D:H.get? (~~~s)=some { cls:=.type "set",dict:=none,data:=.set #[] 0 (.fresh 0 0 (!da w)) }:=by rw[<-W];exact qp _ rfl
 generalize hf:(~~~s)=f at *;have hne:o≠f:=qm J;have C:SetI prog w H o ns:=T.at λx e=>c o x e;refine wa (m:=Builtin.Frozenset.addrOf (.ref f)) (wc ?_);refine wa (wd ?_);unfold Builtin.Frozenset.updateFrom;refine wa (pK (s:={ s with heap:=H }) C ?_);rw[if_pos rfl];unfold Builtin.Frozenset.merge;have O:=C;obtain⟨oo,a,ep,t,G,hex,U,p,K,r,hb,l,R⟩:=O
 have hsz:a.size=ns.length:=by grind
 refine wa (m:=setEpoch o) ?_;unfold setEpoch;refine wa (wg (s:={ s with heap:=H }) G U l (wc ?_));dsimp only;unfold setMerge
 have h1:(f==o)=false:=by grind
 rw[if_neg (by grind)];refine wa (wg (s:={ s with heap:=H }) G U l ?_);dsimp only;by_cases i:a.isEmpty=true
 .rw[if_pos i]
  refine wc (wc (h H [] c ⟨_,#[],_,_,D,⟨rfl,rfl,rfl⟩,rfl,λe P=>by simp at P,rfl,.nil,by decide,rfl,.fresh⟩ ?_));grind
 .rw[if_neg i]
  refine wa (NL (s:={ s with heap:=H }) D (by lia) λh' ep' t' sb g m1 m2 p1 p2 l1 l2=>?_)
  have j:t'.fits (#[]:Array (Int×Value)).size=true:=by
   unfold SetTable.fits SetTable.fill;grind
  refine wa (wg (s:={ s with heap:=h' }) g rfl j ?_);dsimp only
  have m:∀b x,s.heap.get? b=some x->h'.get? b=some x:=λb x e=>by
   have hb:b≠f:=λz=>by
    have:=ql e;grind
   exact(sb.2 b hb).trans (c b x e)
  have d:∀(y:Array (Int×Value)) (B:SetTable) b x,s.heap.get? b=some x->(h'.update f (Obj.putSet y B)).get? b=some x:=λy B b x e=>by
   have hb:b≠f:=λz=>by
    have:=ql e;grind
   exact((wu h' f _).2 b hb).trans (m b x e)
  have n:t'.fill=0:=by
   unfold SetTable.fill;grind
  unfold SetTable.road;rw[n,if_neg (by simp)]
  have v:da w=false->(t'.led&&t.led)=true:=λz=>by
   rw[l1,R.1 z,z];rfl
  by_cases Y:(t'.mask==t.mask&&t.dummies.isEmpty)=true
  .rw[if_pos Y]
   dsimp only;refine wpAny_storeSet_of (s:={ s with heap:=h' }) g rfl ?_ (fits_of_scanBound hb);have M:=gq g rfl a { t with finger:=t'.finger,led:=t'.led&&t.led,moves:=t'.moves,plain:=t'.plain&&t.plain };refine wc (h _ ns (d _ _) ⟨_,a,_,_,M,⟨rfl,rfl,rfl⟩,rfl,p,K,r,hb,l,v,λz=>?_⟩ (.refl _));have X:(t'.plain&&t.plain)=true:=z;rw[Qe]at X;exact R.2 X.2
  .rw[if_neg Y]
   dsimp only
   obtain⟨B,q,e1,e2,e3,e4,e5,e6⟩:=Hj (mask:=t'.mask) (finger:=t'.finger) (moves:=t'.moves) (led:=t'.led&&t.led) (plain:=t'.plain&&t.plain) m1 (a.map (·.1)) (by grind) (λx S=>by
    rw[Array.toList_map]at S;obtain⟨e,P,rfl⟩:=qy S;obtain⟨tk,het⟩:=jo p P
    have I:cB e∈ns:=by grind
    have:=NJ (hk _ I)
    grind)
   rw[e1];have L:=wH e1
   have N:q.toList.Perm (List.range a.size):=by grind
   have Z:=NK N
   have hsz2:(q.filterMap (a[·]?)).size=a.size:=by rw[<-qj,Z.length_eq,qj]
   refine wa ?_;show wpAny _ _ (if ((q.filterMap (a[·]?)).size != a.size)=true then _ else _) _ _ _;rw[if_neg (by grind)];refine wc ?_;dsimp only
   have u:(q.filterMap (a[·]?)).size<scanBound:=by grind
   refine wpAny_storeSet_of (s:={ s with heap:=h' }) g rfl ?_ (fits_of_scanBound u);have M:=gq g rfl (q.filterMap (a[·]?)) B
   have F:((q.filterMap (a[·]?)).toList.map cB).Perm ns:=by grind
   refine wc (h _ _ (d _ _) ⟨_,_,_,B,M,⟨rfl,rfl,rfl⟩,rfl,p.perm Z,rfl,F.nodup_iff.mpr r,u,?_,⟨λz=>by grind,λ_=>L.1⟩⟩ F);unfold SetTable.fits SetTable.fill;grind
theorem NM:entryFor table "set.__xor__"=some Builtin.«frozenset.__xor__»:=
 entryFor_alias (id':="frozenset.__xor__") (by kernel_rfl) (by first|rfl|decide +kernel|(unfold String.splitOn)) (by decide +kernel) (by kernel_rfl)
theorem NN(hA:SetI prog w s.heap a ns)(j:SetI prog w s.heap b g)(q:∀k∈g,0<=k/\k<1024)(t:g.length<64)(u:ns.length<64)(h:∀h' d' f,(∀c x,s.heap.get? c=some x->h'.get? c=some x)->SetI prog w h' (~~~s) f->(∀x,x∈f↔¬(x∈g↔x∈ns))->Q (.ref (~~~s)) { s with heap:=h',drawn:=d' }):
 wpAny (mZ prog w) A (binaryOp .BitXor (.ref a) (.ref b)) Q E s:=by
 refine wpAny_binaryOp_same   hA.type j.type F.fills_set_xor F.slot_set_xor (we F.slot_set_xor hA.type NM (wa  (wpAny_of_eq  rfl (wa (wa (pK hA (pK j (wa  (wc (wa (wa  (wa (wpAny_isInstance  hA.type pF (wc (wa  (yz j q t λD f m p v=>?_))))))))))))))) (F.args_set_xor_2 _ _))
 have d:a< ~~~s:=by
  obtain⟨C,_,_,_,y,_⟩:=hA;exact ql y
 have r:scanBound=4096:=rfl;refine wa  (wc (wa (wd (yx  (qm d) (hA.at λx e=>m a x e) p (by rw[v.length_eq];lia) λo d' i n l B=>(wc (wc ⟨_,rfl,(λz=>nomatch z),h o d' i (λc x e=>?_) l λx=>?_⟩))))))
 .exact(n.2 c (qm (ql e))).trans (m c x e)
 grind
end
end
section
section
variable {X:Cx}{pins:AC}{σ:L2.St}{H:Hp}{s:Shared}
def yA(P:P7)(w:World):V->V->Hp->VK->Prop:=λx y H Q=>∃a b ns c,x=.ref a/\y=.ref b/\H a=some (cX P w a ns)/\H b=some (cX P w b c)/\(∀k∈c,0<=k/\k<1024)/\c.length<64/\ns.length<64/\
 ∀p d,H p=none->d.Nodup->(∀x,x∈d↔¬(x∈c↔x∈ns))->Q (.ref p) (upd H p (cX P w p d))
def op_xor:bU X (binaryOp .BitXor) (yA X.prog X.w):=by
 intro pins s σ H x y v u Q I j m h;obtain⟨a,b,ns,n,rfl,rfl,hA,g,f,k,d,q⟩:=h;cases j;cases m
 exact NN (( I.hok a _ hA).1) (( I.hok b _ g).1) f k d λh' d' i c e l=>(⟨.ref (~~~s),_,Inv.laid  (I.dr d') c (qv _) (yo e),rfl,q _ i (I.hok.fresh (qv _)) e.nodup l⟩)
end
theorem dV:∀(l a:AG) (x:Int),x∈aY a l↔x∈a\/x∈l
 | [],a,x=>by simp[aY]
 | k::l,a,x=>by
   rw[aY,dV];grind
theorem iv:∀(l a:AG),a.Nodup->(aY a l).Nodup
 | [],_,h=>h
 | k::l,a,h=>by
   refine iv l _ ?_;grind
def de(a b:AG):AG:=(aY [] b).filter (λx=>!(a.contains x))++(aY [] a).filter (λx=>!(b.contains x))
theorem Hl:x∈de a b↔¬(x∈b↔x∈a):=by
 unfold de;rw[List.mem_append,Ql,Ql,dV,dV];grind
theorem yB(a b:AG):(de a b).Nodup:=by
 unfold de;rw[List.nodup_append];refine⟨(iv b [] .nil).filter _,(iv a [] .nil).filter _,λx e y d z=>?_⟩
 have c:=(Qc d)
 rw[dV]at c;grind
def pL(l m:AQ):Option AQ:=(b0 l).bind λa=>(b0 m).bind λb=>
 if a.length<4000/\b.length<4000/\(aY [] a).length<64/\(aY [] b).length<64/\(b.all λk=>decide (0<=k/\k<1024))=true/\(de a b).length<64 then some ((dz (de a b)).map D.int)else none
section
variable {X:Cx}{e e2:Expr}{f f2:AV}{p p2 p3 pos pos2 pos3 pos4:Pos}
def yC(f f2:AV):AW:=λρ=>(b1 f Yc ρ).bind λl=>(b1 f2 Yc ρ).bind λm=>pL l m
@[simp] theorem iw:yC f f2 ρ=((f ρ).bind Yc).bind λl=>((f2 ρ).bind Yc).bind λm=>pL l m:=lD rfl
end
end
section
def Hn{t:SetTable}(a:t.place=#[])(b:t.dummies=#[])(j:Nat):t.slot j=.empty:=by
 unfold SetTable.slot SetTable.has;rw[a,b];rfl
def NO(a j:Nat):SetTable.below #[a] j=if a<j then 1 else 0:=by
 show SetTable.below.go #[a] j 1 0 1=_;rfl
theorem lH{t:SetTable}{a:Nat}(c:t.place=#[a])(e:t.dummies=#[])(j:Nat):t.slot j=if j=a then .live 0 else .empty:=by
 unfold SetTable.slot SetTable.has;rw[c,e,NO];by_cases h:a<j
 .have b:¬j=a:=by lia
  simp[h,b]
 .by_cases b:j=a
  .subst b
   simp
  .have d:¬a=j:=λz=>b z.symm
   simp[h,b,d]
theorem Ho{t:SetTable}(a:t.mask=7){p:SetTable.Probe}(h0:p.more=0):t.advance p={ p with j:=(p.i*5+1+p.perturb/32)%8,more:=0,i:=(p.i*5+1+p.perturb/32)%8,perturb:=p.perturb/32 }:=by
 unfold SetTable.advance;rw[if_neg (by lia),a];show({ p with j:=(p.i*5+1+p.perturb/32)%8,more:=SetTable.runEnd 7 ((p.i*5+1+p.perturb/32)%8)-(p.i*5+1+p.perturb/32)%8,i:=(p.i*5+1+p.perturb/32)%8,perturb:=p.perturb/32 })=_
 have:SetTable.runEnd 7 ((p.i*5+1+p.perturb/32)%8)-(p.i*5+1+p.perturb/32)%8=0:=by
  unfold SetTable.runEnd
  split<;>lia
 rw[this]
theorem lI{t:SetTable}{c:Nat}{hA:Nat->Int}{h:Int}(l:t.mask=7)(g:t.place=#[c])(f:t.dummies=#[])(r:c<8)(b:(hA 0==h)=false):∀(k a:Nat) (p:SetTable.Probe),p.perturb<32^k->k+2<=a->p.more=0->p.i=p.j->p.dummy=none->p.j<8->
 ∃j,SetTable.probe.go t hA h a p=some (.empty j none)/\j≠c/\j<8
 | 0,a+2,p,o,_,i,q,d,m=>by
   rw[SetTable.probe.go,lH g f];by_cases e:p.j=c
   .rw[if_pos e]
    dsimp only;rw[b,if_neg qi,SetTable.probe.go,lH g f,Ho l i]
    have n:(p.i*5+1+p.perturb/32)%8≠c:=by lia
    rw[if_neg n];exact⟨_,by rw[d],n,by lia⟩
   .rw[if_neg e]
    exact⟨_,by rw[d],e,m⟩
 | k+1,a+1,p,o,s,i,q,d,m=>by
   rw[SetTable.probe.go,lH g f];by_cases e:p.j=c
   .rw[if_pos e]
    dsimp only;rw[b,Ho l i];refine lI l g f r b k a _ ?_ (by lia) rfl rfl d (by lia);rw[Nat.div_lt_iff_lt_mul (by decide)];exact o
   .rw[if_neg e]
    exact⟨_,by rw[d],e,m⟩
 | 0,0,_,_,h,_,_,_,_=>by lia
 | 0,1,_,_,h,_,_,_,_=>by lia
 | _+1,0,_,_,h,_,_,_,_=>by lia
theorem yD{t:SetTable}(a:t.mask=7)(h:Int):t.probeStart h={ j:=SetTable.bits h%8,more:=0,i:=SetTable.bits h%8,perturb:=SetTable.bits h,dummy:=none }:=by
 unfold SetTable.probeStart;rw[a]
 have:SetTable.runEnd 7 (SetTable.bits h%(7+1))-SetTable.bits h%(7+1)=0:=by
  unfold SetTable.runEnd
  split<;>lia
 dsimp only;rw[this]
def NP{t:SetTable}(a:t.mask=7)(c:t.place=#[])(b:t.dummies=#[])(hA:Nat->Int)(h:Int):t.probe hA h (t.probeStart h)=some (.empty (SetTable.bits h%8) none):=by
 unfold SetTable.probe;rw[a,yD a];show SetTable.probe.go t hA h (219+1) _=_;rw[SetTable.probe.go,Hn c b]
theorem NQ{t:SetTable}{c:Nat}(a:t.mask=7)(f:t.place=#[c])(e:t.dummies=#[])(d:c<8){hA:Nat->Int}{h:Int}(b:(hA 0==h)=false):∃j,t.probe hA h (t.probeStart h)=some (.empty j none)/\j≠c/\j<8:=by
 unfold SetTable.probe;rw[a,yD a];refine lI a f e d b 13 _ _ ?_ (by decide) rfl rfl rfl (by lia)
 have:(h%(2^64)).toNat<2^64:=by lia
 exact Qi this (by decide)
section
variable {prog:P7}{w:World}{A:Around}{E:AB}{s:Shared}
def NR{u:Addr}{o:Obj}{i:Int}{tk:Tok}{b:Bool}{n:Nat}{Q:Bool->Shared->Prop}(a:s.heap.get? u=some o)(c:o.cls=.type "tuple")(d:o.data=.seq #[.int i tk,.bool b] n)(h:Q true s):wpAny (mZ prog w) A (hashByValue 8 (.ref u)) Q E s:=by
 exact wa (wpAny_specialOf (⟨o,a,c⟩) F.slot_tuple_hash.lookup (wa (wpAny_seqItems a d (wc h))))
def lJ(a:Array (Int×Value))(i:Nat):Int:=(a[i]?.map (·.1)).getD 0
theorem NS{S:Addr}{x:Value}{h:Int}{o:Obj}{b:Array (Int×Value)}{l:Nat}{t:SetTable}{j:Nat}{Q:SetFound->Shared->Prop}(d:s.heap.get? S=some o)(f:o.data=.set b l t)(k:t.fits b.size=true)(n:t.mask=7)(c:t.probe (lJ b) h (t.probeStart h)=some (.empty j none))(g:Q (.free j false) s):wpAny (mZ prog w) A (setSearch S x h true) Q E s:=by
 refine wa (wg d f k ?_);dsimp only
 have e:t.gaveWay=false:=by unfold SetTable.gaveWay;rw[n];rfl
 rw[e];have a:t.probe (λi=>(b[i]?.map (·.1)).getD 0) h (t.probeStart h)=some (.empty j none):=c;show wpAny _ _ (match t.probe (λi=>(b[i]?.map (·.1)).getD 0) h (t.probeStart h)with|some m=>_|_=>_) _ _ _;rw[a];exact wc g
theorem yE{S u:Addr}{h:Int}{o:Obj}{d:Array (Int×Value)}{x:Nat}{t:SetTable}{j:Nat}{q:Obj}{i:Int}{tk:Tok}{b:Bool}{n:Nat}{Q:Bool->Shared->Prop}(e:s.heap.get? S=some o)(g:o.data=.set d x t)(m:t.fits d.size=true)(C:t.mask=7)(k:t.dummies=#[])(z:d.size<=1)(r:t.probe (lJ d) h (t.probeStart h)=some (.empty j none))(y:s.heap.get? u=some q)(B:q.cls=.type "tuple")(v:q.data=.seq #[.int i tk,.bool b] n)(p:Q true { s with heap:=s.heap.update S (Obj.putSet (SetTable.insertAt d (SetTable.below t.place j) (h,.ref u)) { t with place:=SetTable.insertAt t.place (SetTable.below t.place j) j }) }):
 wpAny (mZ prog w) A (setAddHashed S (.ref u) h) Q E s:=by
 refine wd (wa (wg e g m ?_));dsimp only;refine wa (NS e g m C r (wa (wg e g m ?_)))
 have l:t.put j=({ t with place:=SetTable.insertAt t.place (SetTable.below t.place j) j },SetTable.below t.place j):=by
  unfold SetTable.put;rw[k];have:SetTable.has #[] j=false:=rfl;rw[this,if_neg qi]
 rw[l];dsimp only
 have a:({ t with place:=SetTable.insertAt t.place (SetTable.below t.place j) j }).tooFull=false:=by
  have F:=by
   simp only[SetTable.fits,Qe]at m;exact m.1
  have D:(SetTable.insertAt t.place (SetTable.below t.place j) j).size<=2:=by
   rw[<-qj,Yx];simp;lia
  unfold SetTable.tooFull SetTable.fill;rw[k];simp;lia
 have c:(SetTable.insertAt d (SetTable.below t.place j) (h,Value.ref u)).size<=sizeLine:=by
  rw[<-qj,Yx,jf];simp;lia
 cases f:t.plain with
 | true=>
   refine wa (NR y B v ?_);rw[if_pos rfl];refine wa (wpAny_storeSet_of e g ?_ c);rw[f]at a p;rw[a];exact wc p
 | false=>
   refine wa (wc ?_);rw[if_pos rfl];refine wa (wpAny_storeSet_of e g ?_ c);rw[f]at a p;rw[a];exact wc p
def PairV(h:Heap)(u:Addr)(p:Int×Bool):Prop:=∃o tk n,h.get? u=some o/\o.cls=.type "tuple"/\o.data=.seq #[.int p.1 tk,.bool p.2] n
def pH(p:Int×Bool):Int:=hY [p.1,if p.2 then 1 else 0]
def PairV.keep{h h':Heap}{u:Addr}{p:Int×Bool}(x:PairV h u p)(k:∀o,h.get? u=some o->h'.get? u=some o):PairV h' u p:=by
 obtain⟨o,tk,n,a,r⟩:=x;exact⟨o,tk,n,k o a,r⟩
theorem PairV.key{h:Heap}{u:Addr}{p:Int×Bool}(x:PairV h u p):IsTupleKey (xZ prog w) h [p.1,if p.2 then 1 else 0] u:=by
 obtain⟨o,tk,n,a,c,b⟩:=x;exact⟨o,_,n,a,c,b,(.cons (by simp[xZ,fq]) (.cons (by simp[xZ,fq]) .nil))⟩
theorem yF{l I S u:Addr}{a:Array Value}{i:Nat}{p:Int×Bool}{R:Result->Shared->Prop}(q:A.units+2<cLine)(h:s.heap.IsListIter I l i)(n:s.heap.IsList l a)(m:a[i]?=some (.ref u))(j:PairV s.heap u p)(f:u≠I)(k:∀d tk,d.IsListIter I l (i+1)->Heap.SameBut I s.heap d->wpAny (mZ prog w) A.in1 (setAddHashed S (.ref u) (pH p)) (λ_ s'=>codeAny (mZ prog w) A (.builtin "set.update.loop" ⟨[.ref S,.ref I],[]⟩) R s') (λe s'=>R (.error e) s') { s with heap:=d,toks:=tk }):
 codeAny (mZ prog w) A (.builtin "set.update.loop" ⟨[.ref S,.ref I],[]⟩) R s:=by
 exact wx F.entry_set_update_loop (wa (wpAny_pyNext_list_item h n m λd g c=>(wa (wd (wd (wa (wpAny_pyHash_tuple   (by show A.units+1<cLine;lia) (j.keep λo e=>by rw[c.2 u f];exact e).key (wy (k d _ g c) (λb s' hb=>(wc ⟨ja F.plain_set_update_loop _,hb⟩)) λ_ _ x=>x))))))))
def pM{l I S:Addr}{a:Array Value}{i:Nat}{R:Result->Shared->Prop}(f:A.handled=none)(d:s.heap.IsListIter I l i)(e:s.heap.IsList l a)(g:a[i]?=none)(k:∀b,Heap.ExtBut I s.heap b->R (.ok (.ret .none)) { s with heap:=b }):
 codeAny (mZ prog w) A (.builtin "set.update.loop" ⟨[.ref S,.ref I],[]⟩) R s:=by
 exact wx F.entry_set_update_loop (wa (wpAny_pyNext_list_end  f d e g λb c=>(wc (k b c))))
end
end
section
def d6(e:Int×Value):Value:=e.2
def SetV(w:World)(h:Heap)(a:Addr)(vs:AD):Prop:=
 ∃o b c t,h.get? a=some o/\o.ExactSet/\o.data=.set b c t/\b.toList.map d6=vs/\b.size<scanBound/\t.fits b.size=true/\Tab (da w) t
def SetV.at{w:World}{h h':Heap}{a:Addr}{ns:AD}(x:SetV w h a ns)(e:∀o,h.get? a=some o->h'.get? a=some o):SetV w h' a ns:=
 let ⟨o,c,d,t,b,r⟩:=x
 ⟨o,c,d,t,e o b,r⟩
def SetV.len{w:World}{h:Heap}{a:Addr}{ns:AD}(x:SetV w h a ns):ns.length<scanBound:=by
 obtain⟨o,d,f,t,e,c,g,b,hb,_⟩:=x;rw[<-b,qf];exact hb
def lK(a:AD)(i:Nat)(v:Value):Prop:=a[i]?=some v
section
variable {prog:P7}{w:World}{A:Around}{E:AB}{s:Shared}
theorem NT{a:Addr}{ns:AD}(hS:SetV w s.heap a ns){Q:AB}(hQ:∀(h':Heap) (d':Drawn) (I:Addr) (fp:List Addr) (f:AD) (St:Nat->Heap->Prop),(∀b o,s.heap.get? b=some o->h'.get? b=some o)->(~~~s)<=I->I∈fp->
  (∀b∈fp,b<h'.objs.size/\(b=a\/(~~~s)<=b))->f.Perm ns->(∀y:Around,y.handled=none->Walks prog w y I fp [I] ns.length (lK f) St)->St 0 h'->
  (∀(i:Nat) (s':Shared),St i s'.heap->s'.TypeIs (.ref I) "set_iterator")->Q (.ref I) { s with heap:=h',drawn:=d' }):
 wpAny (mZ prog w) A (pyIter (.ref a)) Q E s:=by
 obtain⟨o,d,u,t,Y,X,hd,M,hb,P,ht⟩:=hS
 have hT:s.TypeIs (.ref a) "set":=⟨o,Y,X.1⟩
 have O:ns.length=d.size:=by rw[<-M,qf,qj]
 have C:a< ~~~s:=ql Y
 have hsa:SAt s.heap a d u t:=⟨o,Y,X,hd,P⟩
 have hps:t.place.size=d.size:=by
  simp only[SetTable.fits,Qe,beq_iff_eq]at P;exact P.1
 refine wpAny_pyIter_slot hT F.slot_set_iter (we F.slot_set_iter hT Gg ?_ (F.args_set_iter_1 _));unfold Builtin.«frozenset.__iter__»;show wpAny _ _ (Builtin.Frozenset.sizeOf a>>=_) _ _ s;unfold Builtin.Frozenset.sizeOf;refine wa (wa (wpAny_setEntries_of Y hd P (wc ?_)));refine wa ?_;unfold setDrawn;refine wa (wg Y hd P ?_);dsimp only;refine wa (gu (wc ?_))
 have plain:∀(f:AD) (st:Nat->Nat) (xv:Nat->Value),f.Perm ns->st 0=0->(∀i,i<d.size->lK f i (xv i))->
  (∀(s':Shared) (y:Around) (i:Nat) (q:AB),SAt s'.heap a d u t->i<d.size->∀l:Option (Value×Nat)->Shared->Prop,l (some (xv i,st (i+1))) s'->wpAny (mZ prog w) y (setNext a (st i) i u) l q s')->
  (∀(s':Shared) (y:Around) (q:AB),SAt s'.heap a d u t->∀l:Option (Value×Nat)->Shared->Prop,l none s'->wpAny (mZ prog w) y (setNext a (st d.size) d.size u) l q s')->
  wpAny (mZ prog w) A.in1 (do
   let x <-newFields "set_iterator" [rawInt 0,rawInt 0,.ref a,rawInt d.size,rawInt (<-setEpoch a)]
   ret x) (λU s'=>∃v,U=.done (.ret v)/\∃T' r,s'.TypeIs v T'/\typeLookup (.type T') "__next__"=pure (some r)/\Q v s') E s:=by
  intro f st xv hp h0 hx m hn;refine wa (wpAny_setEpoch_of Y hd P ?_);refine wa (wf ?_);refine wc ⟨_,rfl,"set_iterator",_,⟨_,qp _ rfl,rfl⟩,slot_si_next.lookup,?_⟩
  have key:=hQ (s.heap.push { cls:=.type "set_iterator",data:=.fields #[rawInt 0,rawInt 0,.ref a,rawInt d.size,rawInt u] }) s.drawn (~~~s) [~~~s,a] f
   (λi h=>SIt h (~~~s) (.int (st i) 0) i a d.size u/\SAt h a d u t) (λb o e=>qe _ e) (qv _) (by simp) (λb hb=>by
    rw[wv];rcases qu hb with rfl|hb
    .exact⟨Qa _,.inr (qv _)⟩
    .rw[List.mem_singleton]at hb
     subst hb
     exact⟨qx C,.inl rfl⟩) hp (λy W=>{
    sub:=λb hb=>by simp at hb;simp[hb]
    frame:=λi h h' c hk=>⟨c.1.at λo e=>hk _ (by simp) o e,c.2.at λo e=>hk a (by simp) o e⟩
    item:=λi s' l q hlt' c g=>by
     refine Gh c.1 c.2 (x:=xv i) (nx:=st (i+1)) (λA2 Q2 E2 n=>m s' A2 i E2 c.2 (by lia) Q2 n) λh' J p=>?_;exact g _ h' s'.toks (hx i (by lia)) ⟨J,c.2.at λo e=>p.extBut a o (λz=>by subst z;exact absurd C (Nat.lt_irrefl _)) e⟩ λb o hb e=>p.extBut b o (λz=>hb (by simp[z])) e
    done:=λs' l q c g=>by
     rw[O]at c;exact Gi W c.1 c.2 (λA2 Q2 E2 n=>hn s' A2 E2 c.2 Q2 n) λh' T=>g h' s'.toks λb o hb e=>T b o (λz=>hb (by simp[z])) e
    self:=λi s' l q c g=>o6 c.1 g }) ⟨⟨_,qp _ rfl,rfl,by rw[h0];rfl⟩,hsa.at λo e=>qe _ e⟩ (λi s' c=>c.1.typeIs)
  exact key
 have hdr:∀b:Bool,(!t.plain&&decide (d.size > 1))=b->wpAny (mZ prog w) A.in1 (if (!da w&&b)=true then do
  let first <-newTuple ((<-drawOrder d.size (List.range d.size)).map fun(i:Nat)=>rawInt i)
  let x <-newFields "set_iterator" [first,rawInt 0,.ref a,rawInt d.size,rawInt (<-setEpoch a)]
  ret x
  else do
   let x <-newFields "set_iterator" [rawInt 0,rawInt 0,.ref a,rawInt d.size,rawInt (<-setEpoch a)]
   ret x) (λU s'=>∃v,U=.done (.ret v)/\∃T' r,s'.TypeIs v T'/\typeLookup (.type T') "__next__"=pure (some r)/\Q v s') E s:=by
  intro b K
  cases D:da w with
  | true=>
    rw[if_neg (by simp)];generalize V:pickOrder (w.params.setOrder a u) d=k
    have hpm:k.toList.Perm d.toList:=by rw[<-V];exact wM _ _
    have hos:k.size=d.size:=by
     have:=hpm.length_eq;simpa using this
    refine plain (k.toList.map d6) (λ_=>0) (λi=>(k.getD i (0,.none)).2) (by rw[<-M];exact hpm.map d6) rfl (λi m=>?_) (λs' y i q R m l n=>?_) (λs' y q R l n=>?_)
    .have L:i<k.size:=by lia
     show(k.toList.map d6)[i]?=some _;simp[L,d6,Array.getD]
    .have L:i<k.size:=by lia
     refine o7 D R ?_;rw[V,Array.getElem?_eq_getElem L];simp only[Array.getD,L,dite_true]at n;exact n
    .refine o7 D R ?_
     rw[V,Array.getElem?_eq_none (by lia)];exact n
  | false=>
    have N:=ht.1 D
    cases b with
    | false=>
      rw[if_neg (by simp)]
      have G:bN t.place:=by
       cases hpl:t.plain with
       | true=>exact ht.2 hpl
       | false=>
         rw[hpl]at K
         have h1:t.place.toList.length<=1:=by
          simp at K;rw[qj];lia
         unfold bN
         match t.place.toList,h1 with
         | [],_=>exact .nil
         | [x],_=>simp
      refine plain ns (ez t.place) (λi=>(d.getD i (0,.none)).2) .rfl rfl (λi m=>?_) (λs' y i q R m l n=>?_) (λs' y q R l n=>?_)
      .show ns[i]?=some _
       rw[<-M];simp[m,d6,Array.getD]
      .refine o8 D K N R (o9 G (by lia)) ?_
       have hi2:i<t.place.size:=by lia
       rw[Array.getElem?_eq_getElem m,Array.getElem?_eq_getElem hi2];simp only[Array.getD,m,hi2,dite_true,ez]at n;exact n
      .refine o8 D K N R (o9 G (by lia)) ?_
       rw[Array.getElem?_eq_none (qv _)];exact n
    | true=>
      rw[if_pos (by simp)];refine wa (oY d.size (List.range d.size) s _ (by simp) λys d' hp=>?_);simp only[newTuple]
      have hyl:ys.length=d.size:=by rw[hp.length_eq];simp
      refine wa (wf ?_ (by show(ys.map fun(i:Nat)=>rawInt i).toArray.size<=sizeLine;rw[qk,qf,hyl];exact fits_of_scanBound hb));have S:((s.heap.push { cls:=.type "tuple",data:=.seq (ys.map fun(i:Nat)=>rawInt i).toArray })).get? a=some o:=qe _ Y;refine wa (wpAny_setEpoch_of (s:={ s with heap:=s.heap.push { cls:=.type "tuple",data:=.seq (ys.map fun(i:Nat)=>rawInt i).toArray },drawn:=d' }) S hd P ?_);refine wa (wf ?_);refine wc ⟨_,rfl,"set_iterator",_,⟨_,qp _ rfl,rfl⟩,slot_si_next.lookup,?_⟩
      have hmem:∀j∈ys,j<d.size:=λj hj=>by simpa using hp.mem_iff.mp hj
      have hvp:(ys.map λj=>d6 (d.getD j (0,.none))).Perm ns:=by
       rw[<-M];refine(hp.map _).trans ?_
       have:(List.range d.size).map (λj=>d6 (d.getD j (0,.none)))=d.toList.map d6:=by
        refine List.ext_getElem (by simp) λi h1 h2=>?_
        have m:i<d.size:=by simpa using h1
        simp[Array.getD,m]
       rw[this]
      generalize hH:s.heap.push { cls:=.type "tuple",data:=.seq (ys.map fun(i:Nat)=>rawInt i).toArray }=H at S ⊢
      have B:H.objs.size= ~~~s+1:=by rw[<-hH,wv]
      have hT0:H.IsTuple (~~~s) (ys.map fun(i:Nat)=>rawInt i).toArray:=⟨_,by rw[<-hH];exact qp _ rfl,rfl,_,rfl⟩
      have Z:∀b o,s.heap.get? b=some o->H.get? b=some o:=λb o e=>by rw[<-hH];exact qe _ e
      have haI:a≠H.objs.size:=λz=>by rw[z,B]at C;exact absurd C (Nat.not_lt.mpr (Nat.le_succ _))
      have hTI:(~~~s)≠H.objs.size:=by rw[B];exact qm (Qa _)
      exact hQ (H.push { cls:=.type "set_iterator",data:=.fields #[.ref (~~~s),rawInt 0,.ref a,rawInt d.size,rawInt u] }) d' H.objs.size [H.objs.size,a,~~~s] (ys.map λj=>d6 (d.getD j (0,.none)))
       (λi h=>SIt h H.objs.size (.ref (~~~s)) i a d.size u/\SAt h a d u t/\h.IsTuple (~~~s) (ys.map fun(i:Nat)=>rawInt i).toArray) (λb o e=>qe _ (Z b o e)) (by lia) (by simp) (λb hb=>by
        rw[wv];simp only[List.mem_cons,List.not_mem_nil,or_false]at hb;rcases hb with rfl|rfl|rfl
        .exact⟨Qa _,.inr (by rw[B];exact Nat.le_succ _)⟩
        .exact⟨qx (by rw[B];exact qx C),.inl rfl⟩
        .exact⟨qx (by rw[B];exact Qa _),.inr (qv _)⟩) hvp (λy W=>{
        sub:=λb hb=>by simp at hb;simp[hb]
        frame:=λi h h' c hk=>⟨c.1.at λo e=>hk _ (by simp) o e,c.2.1.at λo e=>hk a (by simp) o e,c.2.2.at λo e=>hk _ (by simp) o e⟩
        item:=λi s' l q hlt' c g=>by
         have m:i<ys.length:=by lia
         have hj:=hmem ys[i] (List.getElem_mem m);refine Gj c.1 c.2.1 c.2.2 (j:=ys[i]) (tk:=0) (e:=d[ys[i]]) (by simp[m,rawInt]) (Array.getElem?_eq_getElem hj) λh' J p=>?_;refine g _ h' s'.toks ?_ ⟨J,c.2.1.at λo e=>p.extBut a o haI e,c.2.2.at λo e=>p.extBut _ o hTI e⟩ λb o hb e=>p.extBut b o (λz=>hb (by simp[z])) e;show(ys.map λj=>d6 (d.getD j (0,.none)))[i]?=some d[ys[i]].2;simp[m,Array.getD,hj,d6]
        done:=λs' l q c g=>by
         rw[O]at c;exact Gk W c.1 c.2.1 c.2.2 (by simp[hyl]) λh' T=>g h' s'.toks λb o hb e=>T b o (λz=>hb (by simp[z])) e
        self:=λi s' l q c g=>o6 c.1 g }) ⟨⟨_,qp _ rfl,rfl,rfl⟩,⟨o,qe _ S,X,hd,P⟩,hT0.push _⟩ (λi s' c=>c.1.typeIs)
 exact hdr _ rfl
theorem NU{a:Addr}{ns:AD}(hh:A.handled=none)(S:SetV w s.heap a ns){Q:AD->Shared->Prop}(hQ:∀(h':Heap) (d':Drawn) (tk:Nat) (B:AD),~~~s<=h'.objs.size->(∀b o,s.heap.get? b=some o->h'.get? b=some o)->B.Perm ns->Q B { s with heap:=h',drawn:=d',toks:=tk }):
 wpAny (mZ prog w) A (collect (.ref a)) Q E s:=by
 obtain⟨o,es,ep,t,ho,v,hd,_⟩:=id S;have x:a< ~~~s:=ql ho;have J:=S.len;unfold collect;refine wa (wpAny_runValue (wx F.entry_proto_collect ?_));rw[jb F.plain_proto_collect _];show wpAny _ A.in1 (newList []>>=λl=>again (.builtin "list.__iadd__" ⟨[l,.ref a],[]⟩)) _ _ s;refine wa (wf ?_);refine wc ⟨ja F.plain_list_iadd _,wx F.entry_list_iadd ?_⟩;rw[jb F.plain_list_iadd _];generalize V:s.heap.push { cls:=.type "list",data:=.seq ([]:AD).toArray }=H
 have r:H.objs.size= ~~~s+1:=by rw[<-V,wv]
 have c:∀b o,s.heap.get? b=some o->H.get? b=some o:=λb o e=>by rw[<-V];exact qe _ e
 have hL:H.get? (~~~s)=some { cls:=.type "list",data:=.seq ([]:AD).toArray }:=by rw[<-V];exact qp _ rfl
 have y:=c a o ho
 have hT:Shared.TypeIs { s with heap:=H } (.ref a) "set":=⟨o,y,v.1⟩
 have D:(~~~s)≠a:=λz=>by rw[<-z]at x;exact absurd x (Nat.lt_irrefl _)
 have N:Builtin.List.listSameRef (.ref (~~~s)) (.ref a)=false:=by simp[Builtin.List.listSameRef,D]
 show wpAny _ A.in1 (Builtin.List.listExtendWith (.ref (~~~s)) (.ref a) (.ref (~~~s))) _ _ _;unfold Builtin.List.listExtendWith;refine wa (wpAny_typeOf hT ?_)
 have T:(Value.type "set"==Value.type "list")=false:=by decide
 have K:(Value.type "set"==Value.type "tuple")=false:=by decide
 simp only[N,T,K,Bool.or_false,Qo,if_false];refine wa (NT (s:={ s with heap:=H }) (S.at λo e=>c a o e) λh' d' I fp k St f hI hIf X hp hW U hty=>?_);have P:=f a o y
 have n:Shared.TypeIs { s with heap:=h',drawn:=d' } (.ref a) "set":=⟨o,P,v.1⟩
 refine wa (wd ?_);unfold Builtin.List.listLengthHint;refine wa (wpAny_specialOf n F.slot_set_len.lookup ?_);refine wa (wpAny_isInstance (b:=true) n pF ?_);show wpAny _ A.in1 (typeOf (Value.ref a)>>=_) _ _ _;refine wa (wpAny_typeOf n ?_);refine wc ?_;rw[if_pos (by decide)];refine wa (wpAny_rule ?_)
 have G:(~~~s)∉fp:=λq=>by
  rcases(X _ q).2 with z|z
  .exact D z
  .rw[show({ s with heap:=H }:Shared).heap.objs.size=H.objs.size from rfl,r]at z
   exact absurd z (Nat.not_le.mpr (Qa _))
 have g:h'.get? (~~~s)=some { cls:=.type "list",data:=.seq ([]:AD).toArray }:=f _ _ hL;refine wa ?_;refine wa (wpAny_updateSeq g rfl ?_);have i:=ww (Obj.mapSeq (·.push Value.none)) g rfl;refine wpAny_updateSeq i rfl ?_;have p:=ww (Obj.mapSeq (·.pop)) i rfl
 have C:∀b o,b≠(~~~s)->h'.get? b=some o->
  ((h'.update (~~~s) (Obj.mapSeq (·.push Value.none))).update (~~~s) (Obj.mapSeq (·.pop))).get? b=some o:=
  λb o hb e=>(Heap.get?_update_other _ _ (Ne.symm hb)).trans ((Heap.get?_update_other _ _ (Ne.symm hb)).trans e)
 have W:=(hW A.in1 hh).toS
 refine wc ⟨ja F.plain_extend_loop _,codeAny_extend_loopS W (fits_of_scanBound J) _ G _ ns.length 0 _ _ _ rfl (Qh _)
  (W.frame 0 ({ s with heap:=h',drawn:=d' }:Shared) _ s.toks U (qv _) λb hb o e=>C b o (λh=>G (h ▸ hb)) e) p (ItemsOf.nil _) λs' d c' q u m=>?_⟩
 show wpAny _ A (load (~~~s)>>=_) _ _ s';refine wa (wpAny_load u ?_);have Y:s'.gens=s.gens:=q.gens;have ed:s'.drawn=d':=q.drawn;have Z:s'.os=s.os:=q.os
 have O:s'={ s with heap:=s'.heap,drawn:=d',toks:=s'.toks }:=by
  obtain⟨a1,a2,a3,a4,a5⟩:=s';simp only at Y ed Z;subst Y;subst ed;subst Z;rfl
 rw[O]
 have M:d.toList=k:=by
  refine List.ext_getElem (by rw[qj,m.1,hp.length_eq]) λj N T=>?_;have:=m.2 j d.toList[j] (by rw[<-Array.getElem?_toList,qr N]);have K:k[j]?=some d.toList[j]:=this;rw[qr T]at K;exact(wz K).symm
 refine wc (hQ s'.heap d' s'.toks d.toList (Nat.le_of_lt (ql u)) (λb L e=>?_) (by rw[M];exact hp));have hb:b< ~~~s:=ql e;refine q.heap b L (λR=>?_) (C b L (qm hb) (f b L (c b L e)));rcases qu R with z|z
 .rw[z]at hb;exact absurd hb (Nat.lt_irrefl _)
 .rw[List.mem_singleton.mp z]at hb
  have:H.objs.size<=I:=hI;rw[r]at this;exact absurd (Qi hb (Qg (Nat.le_succ _) this)) (Nat.lt_irrefl _)
structure SetQ(w:World)(h:Heap)(a:Addr)(us:List (Int×Addr)):Prop where
 ex:∃o es ep t,h.get? a=some o/\o.ExactSet/\o.data=.set es ep t/\es.toList=us.map (λu=>(u.1,Value.ref u.2))/\t.fits es.size=true/\t.mask=7/\t.dummies=#[]/\t.place.toList=us.map (λu=>SetTable.bits u.1%8)/\Tab (da w) t
def SetQ.keep{h h':Heap}{a:Addr}{us:List (Int×Addr)}(x:SetQ w h a us)(k:∀o,h.get? a=some o->h'.get? a=some o):SetQ w h' a us:=by
 obtain⟨o,c,b,t,d,r⟩:=x.ex;exact⟨o,c,b,t,k o d,r⟩
theorem SetQ.vals{h:Heap}{a:Addr}{us:List (Int×Addr)}(x:SetQ w h a us)(n:us.length<=1):SetV w h a (us.map λu=>Value.ref u.2):=by
 obtain⟨o,i,f,t,j,e,g,b,c,k,m,l,d⟩:=x.ex;refine⟨o,i,f,t,j,e,g,?_,?_,c,d⟩
 .rw[b,Qf]
  rfl
 .rw[<-qj,b,qf]
  have:scanBound=4096:=rfl;lia
theorem yG{S u:Addr}{us:List (Int×Addr)}{p:Int×Bool}{Q:Bool->Shared->Prop}(Y:SetQ w s.heap S us)(W:us.length<=1)(y:PairV s.heap u p)(x:∀q∈us,q.1≠pH p)(T:∀h' vs,Heap.SameBut S s.heap h'->SetV w h' S vs->vs.Perm ((us.map λu=>Value.ref u.2)++[.ref u])->(us=[]->SetQ w h' S [(pH p,u)])->Q true { s with heap:=h' }):wpAny (mZ prog w) A (setAddHashed S (.ref u) (pH p)) Q E s:=by
 obtain⟨o,a,ep,t,J,k,K,D,F,l,f,Z,I⟩:=Y.ex;obtain⟨ou,tk,n,N,P,O⟩:=y
 have e:a.size=us.length:=by rw[<-qj,D,qf]
 have v:t.place.size=a.size:=by
  simp only[SetTable.fits,Qe,beq_iff_eq]at F;exact F.1
 obtain⟨j,G,V,h,B⟩:∃j,t.probe (lJ a) (pH p) (t.probeStart (pH p))=some (.empty j none)/\j<8/\(∀i,t.slot j≠.live i)/\(us=[]->j=SetTable.bits (pH p)%8):=by
  generalize pH p=y at x ⊢;rcases us with _|⟨q,_|⟨q2,r⟩⟩
  .have b:t.place=#[]:=Array.size_eq_zero_iff.mp (by rw[v,e];rfl)
   refine⟨_,NP l b f _ _,by lia,λi z=>?_,λ_=>rfl⟩;rw[Hn b f]at z;cases z
  .have b:t.place=#[SetTable.bits q.1%8]:=by
    apply Array.toList_inj.mp;rw[Z];rfl
   have g:a=#[(q.1,.ref q.2)]:=by
    apply Array.toList_inj.mp;rw[D];rfl
   have M:=x q qh
   obtain⟨j,U,L,R⟩:=NQ l b f (by lia) (hA:=lJ a) (h:=y) (by
    rw[g]
    simpa [lJ]using M)
   refine⟨j,U,R,λi z=>?_,λz=>by cases z⟩;rw[lH b f,if_neg L]at z;cases z
  .simp at W
 refine yE J K F l f (by lia) G N P O ?_;have H:=gq J K (SetTable.insertAt a (SetTable.below t.place j) (pH p,.ref u)) { t with place:=SetTable.insertAt t.place (SetTable.below t.place j) j }
 have e1:(SetTable.insertAt a (SetTable.below t.place j) (pH p,Value.ref u)).size=us.length+1:=by
  rw[<-qj,Yx];simp;lia
 have e2:(SetTable.insertAt t.place (SetTable.below t.place j) j).size=us.length+1:=by
  rw[<-qj,Yx];simp;lia
 have d:({ t with place:=SetTable.insertAt t.place (SetTable.below t.place j) j }).fits (us.length+1)=true:=by
  unfold SetTable.fits SetTable.fill;simp only[e2,l,f,Qe,beq_iff_eq,wh];exact⟨trivial,by simp;lia⟩
 have c:Tab (da w) { t with place:=SetTable.insertAt t.place (SetTable.below t.place j) j }:=⟨I.1,λz=>F8 (I.2 z) j (F9 h)⟩
 have X:scanBound=4096:=rfl;refine T _ _ (wu ..) ⟨_,_,_,_,H,⟨k.1,k.2.1,k.2.2⟩,rfl,rfl,by rw[e1];lia,by rw[e1];exact d,c⟩ ?_ λb=>?_
 .have C:(a.toList.map d6).Perm (us.map λu=>Value.ref u.2):=by
   rw[D,Qf];exact .refl _
  have m:((SetTable.insertAt a (SetTable.below t.place j) (pH p,Value.ref u)).toList).Perm (a.toList++[(pH p,Value.ref u)]):=by
   rw[Yx];refine List.perm_middle.trans ?_;rw[List.take_append_drop];exact List.perm_append_comm (l₁:=[_])
  have:=m.map d6;rw[Qk]at this;exact this.trans (C.append_right _)
 .subst b
  have b:t.place=#[]:=Array.size_eq_zero_iff.mp (by rw[v,e];rfl);have g:a=#[]:=Array.size_eq_zero_iff.mp (by rw[e];rfl);refine⟨_,_,_,_,H,⟨k.1,k.2.1,k.2.2⟩,rfl,?_,by rw[e1];exact d,l,f,?_,c⟩
  .rw[Yx,g]
   simp
  .rw[Yx,b,B rfl]
   simp
def Hq{u:Addr}{p:Int×Bool}{Q:Bool->Shared->Prop}(b:PairV s.heap u p)(h:Q false s):wpAny (mZ prog w) A (ofAClassStatement 8 (.ref u)) Q E s:=by
 obtain⟨o,tk,n,a,c,d⟩:=b;unfold ofAClassStatement;exact wa (wpAny_typeOf (⟨o,a,c⟩) (wa (wc (wa (wpAny_seqItems a d (wc h))))))
def NV{u v:Addr}{p q:Int×Bool}{Q:Bool->Shared->Prop}(b:PairV s.heap u p)(a:PairV s.heap v q)(h:Q false s):wpAny (mZ prog w) A (searchCouldBeSeen (.ref u) [.ref v]) Q E s:=by
 unfold searchCouldBeSeen;simp[carriedByValue];by_cases e:u=v
 .rw[if_pos e]
  exact wa (wc (wa (wc (wc h))))
 .rw[if_neg e]
  exact wa (wa (wpAny_eqIsQuiet_tuple  b.key (wa (wpAny_eqIsQuiet_tuple  a.key (wa (Hq b (wa (Hq a (wc (wa (wc (wc h))))))))))))
theorem NW{t:SetTable}{h:Int}(a:t.mask=7)(d:t.place=#[SetTable.bits h%8])(c:t.dummies=#[]){hA:Nat->Int}(b:hA 0=h):∃nx,t.probe hA h (t.probeStart h)=some (.candidate (SetTable.bits h%8) 0 nx):=by
 unfold SetTable.probe;rw[a,yD a];show ∃nx,SetTable.probe.go t hA h (219+1) _=_;rw[SetTable.probe.go,lH d c,if_pos rfl];dsimp only;rw[b,if_pos (by simp)];exact⟨_,rfl⟩
theorem NX{S u v:Addr}{p:Int×Bool}{h:Int}{o:Obj}{a:Array (Int×Value)}{x:Nat}{t:SetTable}{nx:SetTable.Probe}{j:Nat}{Q:SetFound->Shared->Prop}(b:Nat)(q:A.units<cLine)(n:s.heap.get? S=some o)(k:o.data=.set a x t)(f:t.fits a.size=true)(z:t.mask=7)(c:a=#[(h,.ref v)])(e:t.probe (λi=>(a[i]?.map (·.1)).getD 0) h (t.probeStart h)=some (.candidate j 0 nx))(l:PairV s.heap v p)(m:PairV s.heap u p)(r:Q (.there none) s):wpAny (mZ prog w) A (setSearchFrom S (.ref u) h true (b+1) none) Q E s:=by
 refine wa (wg n k f ?_);dsimp only
 have y:t.gaveWay=false:=by unfold SetTable.gaveWay;rw[z];rfl
 rw[y];show wpAny _ _ (match t.probe (λi=>(a[i]?.map (·.1)).getD 0) h (t.probeStart h)with|some B=>_|_=>_) _ _ _;rw[e];dsimp only
 have g:((a.filter (·.1==h)).toList.map (·.2))=[Value.ref v]:=by
  rw[c];simp
 have d:a[0]?=some (h,.ref v):=by rw[c];rfl
 rw[g,d]
 cases t.led with
 | true=>
   refine wa (wd (wpAny_eqBool_tuple  q l.key m.key ?_));rw[wj rfl];exact wa (wg n k f (wc r))
 | false=>
   refine wa (NV m l (wa (wd (wpAny_eqBool_tuple  q l.key m.key ?_))));rw[wj rfl];exact wa (wg n k f (wc r))
def NY{S u:Addr}{h:Int}{o:Obj}{c:Array (Int×Value)}{f:Nat}{t:SetTable}{Q:Bool->Shared->Prop}(i:s.heap.get? S=some o)(g:o.data=.set c f t)(e:t.fits c.size=true)(a:∀b:SetFound->Shared->Prop,b (.there none) s->wpAny (mZ prog w) A (setSearch S (.ref u) h true) b E s)(d:Q false s):wpAny (mZ prog w) A (setAddHashed S (.ref u) h) Q E s:=by
 exact wd (wa (wg i g e (wa (a _ (wc d)))))
theorem NZ{S u v:Addr}{p:Int×Bool}{d:Int}{Q:Bool->Shared->Prop}(x:A.units<cLine)(l:SetQ w s.heap S [(d,v)])(r:PairV s.heap v p)(C:PairV s.heap u p)(m:Q false s):wpAny (mZ prog w) A (setAddHashed S (.ref u) d) Q E s:=by
 obtain⟨o,g,G,t,j,F,h,z,k,f,y,B,H⟩:=l.ex
 have a:g=#[(d,.ref v)]:=by
  apply Array.toList_inj.mp;rw[z];rfl
 have n:t.place=#[SetTable.bits d%8]:=by
  apply Array.toList_inj.mp;rw[B];rfl
 obtain⟨nx,e⟩:=NW  f n y (hA:=λi=>(g[i]?.map (·.1)).getD 0) (by rw[a];rfl);refine NY j h k (λD q=>?_) m;have b:100000=99999+1:=rfl;unfold setSearch;rw[b];generalize 99999=c;exact NX c x j h k f a e r C q
def bS:List Addr->List (Int×Bool)->List Addr
 | [a,c],[b,d]=>if b=d then [a]else [a,c]
 | us,_=>us
theorem N0{l I S:Addr}{us:List Addr}{ps:List (Int×Bool)}{R:Result->Shared->Prop}(X:A.handled=none)(hu:A.units+2<cLine)(N:s.heap.IsListIter I l 0)(J:s.heap.IsList l (us.map Value.ref).toArray)(h2:us.length<=2)(y:ps.length=us.length)(hp:∀(i:Nat) u p,us[i]?=some u->ps[i]?=some p->PairV s.heap u p)(hd:∀p q,ps=[p,q]->p=q\/pH p≠pH q)(hS:SetQ w s.heap S [])(C:l≠I)(c:S≠I)(v:l≠S)(B:∀u∈us,u≠I)(W:∀u∈us,u≠S)(hR:∀h' tk vs,SetV w h' S vs->vs.Perm ((bS us ps).map Value.ref)->(∀b o,b≠S->b≠I->s.heap.get? b=some o->h'.get? b=some o)->R (.ok (.ret .none)) { s with heap:=h',toks:=tk }):
 codeAny (mZ prog w) A (.builtin "set.update.loop" ⟨[.ref S,.ref I],[]⟩) R s:=by
 have Y:∀{h h':Heap}{its:Array Value},h.IsList l its->(∀o,h.get? l=some o->h'.get? l=some o)->h'.IsList l its:=λx k=>let ⟨o,e,r⟩:=x;⟨o,k o e,r⟩;have ik:∀{h h':Heap}{i:Nat},h.IsListIter I l i->(∀o,h.get? I=some o->h'.get? I=some o)->h'.IsListIter I l i:=λx k=>let ⟨o,e,r⟩:=x;⟨o,k o e,r⟩;rcases us with _|⟨D,_|⟨Q,_|⟨u3,ur⟩⟩⟩
 .refine pM X N J rfl λh1 d=>?_
  exact hR h1 s.toks _ ((hS.keep λo e=>d S o c e).vals (by simp)) (.refl _) λb o _ hb e=>d b o hb e
 .rcases ps with _|⟨P,_|⟨T,pr⟩⟩
  .simp at y
  .have j:=hp 0 D P rfl rfl
   refine yF hu N J rfl j (B D (by simp)) λh1 F H d=>?_;refine yG  (hS.keep λo e=>by rw[d.2 S c];exact e) (by simp) (j.keep λo e=>by rw[d.2 D (B D (by simp))];exact e) (by simp) λO vs2 m hn2 hp2 t=>?_;refine pM X (ik H λo e=>by rw[m.2 I (Ne.symm c)];exact e) (Y J λo e=>by rw[m.2 l v,d.2 l C];exact e) rfl λh3 g=>?_;refine hR h3 F _ (((t rfl).keep λo e=>g S o c e).vals (by simp)) (.refl _) λb o f a e=>g b o a (by rw[m.2 b f,d.2 b a];exact e)
  .simp at y
 .rcases ps with _|⟨P,_|⟨T,_|⟨p3,pr⟩⟩⟩
  .simp at y
  .simp at y
  .have j:=hp 0 D P rfl rfl
   have K:=hp 1 Q T rfl rfl;have n1:=B D (by simp);have Z:=B Q (by simp);have m2:=W Q (by simp);refine yF hu N J rfl j n1 λh1 F H d=>?_;refine yG  (hS.keep λo e=>by rw[d.2 S c];exact e) (by simp) (j.keep λo e=>by rw[d.2 D n1];exact e) (by simp) λO vs2 m hn2 hp2 t=>?_
   have k2:∀b o,b≠S->b≠I->s.heap.get? b=some o->O.get? b=some o:=λb o f a e=>by rw[m.2 b f,d.2 b a];exact e
   refine yF (s:={ s with heap:=O,toks:=F }) hu (ik H λo e=>by rw[m.2 I (Ne.symm c)];exact e) (Y J λo e=>k2 l o v C e) rfl (K.keep λo e=>k2 Q o m2 Z e) Z λh3 V U g=>?_
   have G:∀b o,b≠S->b≠I->s.heap.get? b=some o->h3.get? b=some o:=λb o f a e=>by rw[g.2 b a];exact k2 b o f a e
   by_cases L:P=T
   .subst L
    refine NZ    (by lia) ((t rfl).keep λo e=>by rw[g.2 S c];exact e) (j.keep λo e=>G D o (W D (by simp)) n1 e) (K.keep λo e=>G Q o m2 Z e) ?_;refine pM  X U (Y J λo e=>G l o v C e) rfl λh5 n=>?_;refine hR h5 V _ (((t rfl).keep λo e=>n S o c (by rw[g.2 S c];exact e)).vals (by simp)) ?_ λb o f a e=>n b o a (G b o f a e);rw[bS,if_pos rfl];exact .refl _
   .have hdp:pH P≠pH T:=by
     rcases hd P T rfl with z|z
     .exact absurd z L
     .exact z
    refine yG  ((t rfl).keep λo e=>by rw[g.2 S c];exact e) (by simp) (K.keep λo e=>G Q o m2 Z e) (λq hq=>?_) λh4 vs4 M hn4 hp4 _=>?_
    .simp only[List.mem_singleton]at hq
     rw[hq];exact hdp
    .refine pM  X (ik U λo e=>by rw[M.2 I (Ne.symm c)];exact e) (Y J λo e=>by rw[M.2 l v];exact G l o v C e) rfl λh5 n=>?_
     refine hR h5 V vs4 (hn4.at λo e=>n S o c e) ?_ λb o f a e=>n b o a (by rw[M.2 b f];exact G b o f a e);rw[bS,if_neg L];exact hp4
  .simp at y
 .simp at h2
theorem N1{l:Addr}{us:List Addr}{ps:List (Int×Bool)}{Q:AB}(W:A.handled=none)(hu:A.units+8<cLine)(N:s.heap.IsList l (us.map Value.ref).toArray)(Y:us.length<=2)(I:ps.length=us.length)(S:∀(i:Nat) u p,us[i]?=some u->ps[i]?=some p->PairV s.heap u p)(X:∀p q,ps=[p,q]->p=q\/pH p≠pH q)(h:∀(h':Heap) (tk:Nat) vs,SetV w h' (~~~s) vs->vs.Perm ((bS us ps).map Value.ref)->(∀b o,s.heap.get? b=some o->h'.get? b=some o)->Q (.ref (~~~s)) { s with heap:=h',toks:=tk }):
 wpAny (mZ prog w) A (call (.type "set") [.ref l]) Q E s:=by
 refine wJ (Q₁:=λx f=>x=.ref (~~~s)/\f={ s with heap:=s.heap.push (bM w) }) F.called_set (F.typeCall_set_1 _) F.entry_set_init (wK _ ⟨rfl,rfl⟩) ?_;rintro x f ⟨rfl,rfl⟩;have M:(s.heap.push (bM w)).get? (~~~s)=some (bM w):=qp _ rfl
 have T:Shared.TypeIs { s with heap:=s.heap.push (bM w) } (.ref (~~~s)) "set":=⟨_,M,rfl⟩
 refine⟨T,λA' E' Q' V=>check_set_init_1 T V,?_⟩
 have r:∀u∈us,u< ~~~s:=λu y=>by
  obtain⟨i,C,e⟩:=List.getElem_of_mem y
  have L:i<ps.length:=by lia
  obtain⟨o,_,_,Z,_⟩:=S i u ps[i] (by rw[qr C,e]) (qr L);exact ql Z
 generalize n:(us.map Value.ref).toArray=a at N;obtain⟨ol,t,m,U,v⟩:=N;obtain⟨O,j,H,d⟩:=ol;simp only at m v;subst m;subst v;have B:(s.heap.push (bM w)).get? l=some { cls:=.type "list",dict:=j,data:=.seq a U,slots:=d }:=qe _ t;have P:=F.sub_list_set;have R:=F.sub_list_frozenset
 have hne:(Value.type "list"==Value.type "dict")=false:=by decide
 have z:(s.heap.push (bM w)).IsList l a:=⟨_,B,rfl,U,rfl⟩
 unfold Builtin.«set.__init__» noKeywords Builtin.Frozenset.updateFrom;generalize J:pyIter=PI
 wp_walk
 subst J;refine wpAny_pyIter_list z ?_;refine wa (wpAny_runValue ?_);have k:l< ~~~s:=ql t;have c:(s.heap.push (bM w)).objs.size= ~~~s+1:=wv ..;have g:((s.heap.push (bM w)).push { cls:=.type "list_iterator",data:=.fields #[.ref l,.int 0 0] }).IsList l a:=z.push _;rw[<-n]at g;refine N0 (us:=us) (ps:=ps) (by simp[W]) (by show _+2<cLine;simp;lia) ⟨_,qp _ rfl,rfl,rfl⟩ g Y I (λi u p C D=>(S i u p C D).keep λo e=>qe _ (qe _ e)) X ?_ ?_ ?_ ?_ ?_ ?_ ?_
 .exact⟨bM w,#[],0,_,qe _ M,⟨rfl,rfl,rfl⟩,rfl,rfl,rfl,rfl,rfl,rfl,.fresh⟩
 .rw[c];exact qm (qx k)
 .rw[c];exact qm (Qa _)
 .exact qm k
 .intro u y;rw[c];exact qm (qx (r u y))
 .intro u y;exact qm (r u y)
 .intro h' tk vs hN G K
  show wpAny _ _ _ _ _ _;refine wc ?_;show wpAny _ _ (ret Value.none) _ _ _;refine wc ⟨rfl,h h' tk vs hN G λb o e=>?_⟩;have hb:=ql e;exact K b o (qm hb) (by rw[c];exact qm (qx hb)) (qe _ (qe _ e))
theorem lL{L:Addr}{vs:AD}{Q:Fin->Shared->Prop}(a:s.heap.get? L=some (seqObj "list" vs.toArray 0))(l:vs.length<2)(k:∀h' e,(∀b o,b≠L->s.heap.get? b=some o->h'.get? b=some o)->h'.get? L=some (seqObj "list" vs.toArray e)->Q (.done (.ret .none)) { s with heap:=h' }):
 wpAny (mZ prog w) A (Builtin.«list.sort» ⟨[.ref L],[]⟩) Q E s:=by
 rw[list_sort_plain];have j:=ql a;refine wa (listItems_at a rfl ?_);refine wa (listUpdate_at a rfl ?_ (by rw[qk,jf];lia) (Qh _))
 obtain⟨e1,f⟩:∃e1,(s.heap.update L (Obj.mapSeq λ_=>#[])).get? L=some (seqObj "list" #[] e1):=⟨_,get?_update_seq a (λ_=>#[])⟩
 refine wa (seqEpoch_at f rfl ?_);refine wa (wpAny_newTuple ?_ (by rw[jf];lia));refine wa (wpAny_newList ?_ (Qh _));refine wd ?_
 have c:(((s.heap.update L (Obj.mapSeq λ_=>#[])).push (seqObj "tuple" vs.toArray 0)).push (seqObj "list" #[] 0)).get? L=some (seqObj "list" #[] e1):=by
  rw[Heap.get?_push_ne _ _ _ (by rw[size_push',Heap.size_update];exact qm (qx j)),Heap.get?_push_ne _ _ _ (by rw[Heap.size_update];exact qm j)];exact f
 have d:∀b o,b≠L->s.heap.get? b=some o->(((s.heap.update L (Obj.mapSeq λ_=>#[])).push (seqObj "tuple" vs.toArray 0)).push (seqObj "list" #[] 0)).get? b=some o:=λb o hb q=>by
  refine qe _ (qe _ ?_);rw[Heap.get?_update_ne _ _ _ _ hb];exact q
 have h:vs.toArray.size<2:=by exact l
 rw[if_pos h,if_pos h];refine wa (wc ?_);refine wa (wc ?_);dsimp only;refine wa (seqEpoch_at c rfl ?_);refine wa (listUpdate_at c rfl ?_ (hsz2:=by rw[Array.size_map];show(PyProof.Rows.pairsOf vs).size<=_;rw[pairsOf_size];lia));simp only[bne_self_eq_false,Qo]
 have i:=by
  show(vs.toArray.zip vs.toArray).map (·.2)=vs.toArray;simp[List.map_snd_zip]
 refine wc ?_;rw[i];exact k _ _ (λb o hb q=>by rw[Heap.get?_update_ne _ _ _ _ hb];exact d b o hb q) (get?_update_seq c (λ_=>vs.toArray))
theorem lM{L b c:Addr}{i j:Int}{p q:Bool}{t u:Tok}{Q:Fin->Shared->Prop}(f:s.heap.get? L=some (seqObj "list" #[.ref b,.ref c] 0))(hb:IsTup s.heap b #[.int i t,.bool p])(Z:IsTup s.heap c #[.int j u,.bool q])(J:b≠L)(K:c≠L)(T:∀h' e,(∀b o,b≠L->s.heap.get? b=some o->h'.get? b=some o)->h'.get? L=some (seqObj "list" (if bZ j q i p=true then #[.ref c,.ref b]else #[.ref b,.ref c]) e)->Q (.done (.ret .none)) { s with heap:=h' }):
 wpAny (mZ prog w) A (Builtin.«list.sort» ⟨[.ref L],[]⟩) Q E s:=by
 obtain⟨vs,g⟩:∃vs,[Value.ref b,Value.ref c]=vs:=⟨_,rfl⟩
 have G:vs.length=2:=by rw[<-g];rfl
 have f:s.heap.get? L=some (seqObj "list" vs.toArray 0):=by rw[<-g];exact f
 rw[list_sort_plain];have O:=ql f;refine wa (listItems_at f rfl ?_);refine wa (listUpdate_at f rfl ?_ (by rw[qk,jf];lia) (Qh _))
 obtain⟨e1,C⟩:∃e1,(s.heap.update L (Obj.mapSeq λ_=>#[])).get? L=some (seqObj "list" #[] e1):=⟨_,get?_update_seq f (λ_=>#[])⟩
 refine wa (seqEpoch_at C rfl ?_);refine wa (wpAny_newTuple ?_ (by rw[jf];lia));refine wa (wpAny_newList ?_ (Qh _));refine wd ?_
 have z:(((s.heap.update L (Obj.mapSeq λ_=>#[])).push (seqObj "tuple" vs.toArray 0)).push (seqObj "list" #[] 0)).get? L=some (seqObj "list" #[] e1):=by
  rw[Heap.get?_push_ne _ _ _ (by rw[size_push',Heap.size_update];exact qm (qx O)),Heap.get?_push_ne _ _ _ (by rw[Heap.size_update];exact qm O)];exact C
 have a:∀b o,b≠L->s.heap.get? b=some o->(((s.heap.update L (Obj.mapSeq λ_=>#[])).push (seqObj "tuple" vs.toArray 0)).push (seqObj "list" #[] 0)).get? b=some o:=λb o hb q=>by
  refine qe _ (qe _ ?_);rw[Heap.get?_update_ne _ _ _ _ hb];exact q
 generalize ((s.heap.update L (Obj.mapSeq λ_=>#[])).push (seqObj "tuple" vs.toArray 0)).push (seqObj "list" #[] 0)=h6 at z a ⊢;generalize l:({ s with heap:=h6 })=m
 have r:m.heap.get? L=some (seqObj "list" #[] e1):=by rw[<-l];exact z
 have M:IsTup m.heap b #[.int i t,.bool p]:=by
  obtain⟨o,I,D⟩:=hb;exact⟨o,by rw[<-l];exact a b o J I,D⟩
 have N:IsTup m.heap c #[.int j u,.bool q]:=by
  obtain⟨o,I,D⟩:=Z;exact⟨o,by rw[<-l];exact a c o K I,D⟩
 dsimp only
 have F:¬vs.toArray.size<2:=by rw[qk];lia
 rw[if_neg F,if_neg F]
 have R:W.KatTups m.heap vs [.int i t,.int j u]:=by
  obtain⟨ob,b1,b2,n1,b3⟩:=M;obtain⟨oc,U,c2,n2,S⟩:=N;rw[<-g];exact .cons b1 b2 b3 rfl (.cons U c2 S rfl .nil)
 refine wa (W.kat_kind (T:=.type "int") R (qx (Qa 0)) (λv y=>?_) (by decide) ?_)
 .rcases qu y with rfl|y
  .exact .of_pure rfl
  .rcases qu y with rfl|y
   .exact .of_pure rfl
   .cases y
 have H:wpAny (mZ prog w) A (keyLt' (tuples' true) (vs.getD 1 Value.none) (vs.getD 0 Value.none)) (λk s'=>k=bZ j q i p/\s'=m) (λ_ _=>False) m:=by
  rw[<-g];exact GB M N ⟨rfl,rfl⟩
 refine wa (wy (W.kat_run (ks:=vs) (vs:=vs)  (G:=λP s'=>s'=m/\P=if bZ j q i p=true then #[1,0]else #[0,1])
  (Q:=λh s'=>s'=m/\failedOf h=none/\(arrOf h).map (·.2)=if bZ j q i p=true then #[.ref c,.ref b]else #[.ref b,.ref c]) rfl (by lia) (by lia) (λP h s' I D V X=>?_) ?_) ?_ λ_ _ e=>e)
 .obtain⟨rfl,rfl⟩:=X
  refine⟨rfl,V,?_⟩;rw[W.kat_snds rfl D,<-g];cases bZ j q i p<;>rfl
 .rw[G]
  refine GC ?_;refine wy H (λk s' Y=>?_) λ_ _ x=>x;obtain⟨rfl,rfl⟩:=Y;cases bZ j q i p
  .exact⟨rfl,rfl⟩
  .exact⟨rfl,rfl⟩
 rintro⟨⟨⟩,h⟩ s' ⟨rfl,d,n⟩;dsimp only;refine wa (seqEpoch_at r rfl ?_);refine wa (listUpdate_at r rfl ?_ (Qh _) (by rw[n,jf];cases bZ j q i p<;>exact(by decide:2<=16777216+1)));rw[d];simp only[bne_self_eq_false,Qo,if_false];refine wc ?_;rw[n];have B:=get?_update_seq r (λ_=>if bZ j q i p=true then #[Value.ref c,Value.ref b]else #[Value.ref b,Value.ref c]);subst l;exact T _ _ (λb o hb q=>by rw[Heap.get?_update_ne _ _ _ _ hb];exact a b o hb q) B
def cZ:List Addr->List (Int×Bool)->List Addr
 | [b,c],[a,d]=>if bZ d.1 d.2 a.1 a.2=true then [c,b]else [b,c]
 | us,_=>us
theorem N2{d a:Int×Bool}(h:d≠a):bZ d.1 d.2 a.1 a.2=!bZ a.1 a.2 d.1 d.2:=by
 obtain⟨i,b⟩:=d;obtain⟨j,c⟩:=a;unfold bZ;dsimp only;by_cases e:i=j
 .subst e
  have f:b≠c:=λz=>h (by rw[z]);rw[if_pos rfl,if_pos rfl]
  cases b<;>cases c<;>first|rfl|exact absurd rfl f
 .rw[if_neg e,if_neg (λz=>e z.symm)]
  by_cases k:i<j
  .have g:¬j<i:=by lia
   simp[k,g]
  .have g:j<i:=by lia
   simp[k,g]
def PairV.tup{h:Heap}{u:Addr}{p:Int×Bool}(x:PairV h u p):∃tk,IsTup h u #[.int p.1 tk,.bool p.2]:=by
 obtain⟨o,tk,n,a,c,b⟩:=x;exact⟨tk,o,a,c,n,b⟩
theorem N3{L:Addr}{a:AD}{us:List Addr}{ps:List (Int×Bool)}{Q:Fin->Shared->Prop}(d:s.heap.get? L=some (seqObj "list" a.toArray 0))(c:a.Perm (us.map Value.ref))(K:us.length<=2)(h:ps.length=us.length)(J:∀(i:Nat) u p,us[i]?=some u->ps[i]?=some p->PairV s.heap u p)(D:∀p q,ps=[p,q]->p≠q)(G:∀u∈us,u≠L)(B:∀h' e,(∀b o,b≠L->s.heap.get? b=some o->h'.get? b=some o)->h'.get? L=some (seqObj "list" ((cZ us ps).map Value.ref).toArray e)->Q (.done (.ret .none)) { s with heap:=h' }):
 wpAny (mZ prog w) A (Builtin.«list.sort» ⟨[.ref L],[]⟩) Q E s:=by
 rcases us with _|⟨l,_|⟨m,_|⟨R,M⟩⟩⟩
 .have e:=List.perm_nil.mp c
  subst e;refine lL d (by simp) λh' e f g=>B h' e f ?_;rw[g];rfl
 .have e:=List.perm_singleton.mp c
  subst e;refine lL d (by simp) λh' e f g=>B h' e f ?_;rw[g];rfl
 .rcases ps with _|⟨k,_|⟨j,_|⟨O,P⟩⟩⟩
  .simp at h
  .simp at h
  .obtain⟨N,n⟩:=(J 0 l k rfl rfl).tup
   obtain⟨S,v⟩:=(J 1 m j rfl rfl).tup;have F:=G l (by simp);have I:=G m (by simp)
   have t:a=[.ref l,.ref m]\/a=[.ref m,.ref l]:=by
    have C:a.length=2:=c.length_eq
    obtain⟨x,y,rfl⟩:∃x y,a=[x,y]:=by
     rcases a with _|⟨x,_|⟨y,_|⟨z,r⟩⟩⟩
     .simp at C
     .simp at C
     .exact⟨x,y,rfl⟩
     .simp at C
    have H:x∈[Value.ref l,Value.ref m]:=c.mem_iff.mp (by simp);simp  [or_false]at H;rcases H with rfl|rfl
    .left
     have:=c.cons_inv;rw[List.perm_singleton.mp this]
    .right
     have:=(c.trans (.swap _ _ _)).cons_inv;rw[List.perm_singleton.mp this]
   rcases t with rfl|rfl
   .refine lM d n v F I λh' e f g=>B h' e f ?_
    rw[g,cZ];cases bZ j.1 j.2 k.1 k.2<;>rfl
   .refine lM d v n I F λh' e f g=>B h' e f ?_
    rw[g,cZ,N2 (D k j rfl)];cases bZ j.1 j.2 k.1 k.2<;>rfl
  .simp at h
 .simp at K
theorem N4{a:Addr}{vs:AD}{us:List Addr}{ps:List (Int×Bool)}(D:A.handled=none)(H:SetV w s.heap a vs)(m:vs.Perm (us.map Value.ref))(B:us.length<=2)(v:ps.length=us.length)(z:∀(i:Nat) u p,us[i]?=some u->ps[i]?=some p->PairV s.heap u p)(k:∀p q,ps=[p,q]->p≠q){Q:AB}(G:∀(h':Heap) (d':Drawn) (tk e:Nat) (p:Addr),(∀b o,s.heap.get? b=some o->h'.get? b=some o)->(~~~s)<=p->h'.get? p=some (seqObj "list" ((cZ us ps).map Value.ref).toArray e)->Q (.ref p) { s with heap:=h',drawn:=d',toks:=tk }):
 wpAny (mZ prog w) A (call (.builtin "sorted") [.ref a]) Q E s:=by
 refine Calls.call_function_entry kind_sorted plain_sorted entry_sorted (args_sorted1 _) (wa  (wc (wa (NU (A:=A.in1) D H λh' d' tk d g keep r=>?_))));have h:=r.trans m
 have J:d.length<=2:=by rw[h.length_eq,qf];exact B
 refine wa (wpAny_newList ?_ (by rw[jf];lia));have f:(h'.push (seqObj "list" d.toArray 0)).get? h'.objs.size=some (seqObj "list" d.toArray 0):=qp _ rfl
 have j:∀u∈us,u< ~~~s:=λu x=>by
  obtain⟨i,n,e⟩:=List.getElem_of_mem x
  have c:i<ps.length:=by lia
  obtain⟨o,_,_,F,_⟩:=z i u ps[i] (by rw[qr n,e]) (qr c);exact ql F
 exact wa (wd (we slot_list_sort ⟨_,f,rfl⟩ entry_list_sort (N3    f h B v (λi u p n c=>(z i u p n c).keep λo e=>qe _ (keep u o e)) k (λu x=>qm (Qi (j u x) g)) λt e I C=>⟨_,rfl,(wc ⟨_,rfl,G t d' tk e h'.objs.size (λb o y=>(I b o (qm (ql (keep b o y))) (qe _ (keep b o y)))) g C⟩)⟩) (args_list_sort _)))
end
end
section
def dA:AQ->Option (List (Int×Bool))
 | []=>some []
 | d::l=>(jx d).bind λx=>(dA l).map (x::·)
def yH{K:W7}{G:Hp}{d:D}{p:Int×Bool}{x:V}(h:jx d=some p)(e:Rp K G d x):∃b,x=.ref b/\G b=some (.tup [.int p.1,.bl p.2]):=by
 rw[xO h]at e;obtain⟨b,ys,rfl,hb,a⟩:=e;obtain⟨k,g,rfl,f,a⟩:=a;obtain⟨j,g,rfl,i,a⟩:=a;subst a;subst f;subst i;exact⟨b,rfl,hb⟩
def N5{d:D}{l:AQ}{ps:List (Int×Bool)}(e:dA (d::l)=some ps):∃p a,ps=p::a/\jx d=some p/\dA l=some a:=by
 obtain⟨x,b,g⟩:=qa e;obtain⟨y,f,c⟩:=qc g;exact⟨x,y,c.symm,b,f⟩
end
section
def fS(w:World)(p:Addr)(vs:AD):HO:=.ext λh=>SetV w h p vs
def yI{P:P7}{w:World}{H:Hp}{h:Heap}{p:Addr}{vs:AD}(x:SetV w h p vs):ObjOk P w H h p (fS w p vs):=by
 refine⟨x,?_,λc b e k=>e.at k⟩;obtain⟨o,_,_,_,a,_⟩:=x;exact⟨o,a⟩
def PrsA(H:Hp)(c:List Addr)(a:List (Int×Bool)):Prop:=a.length=c.length/\∀(i:Nat) b q,c[i]?=some b->a[i]?=some q->H b=some (.tup [.int q.1,.bl q.2])
def dg:List (Int×Bool)->List (Int×Bool)
 | [a,b]=>if a=b then [a]else [a,b]
 | ps=>ps
theorem PrsA.once{H:Hp}{c:List Addr}{a:List (Int×Bool)}(x:PrsA H c a)(j:a.length<=2):PrsA H (bS c a) (dg a)/\(bS c a).length<=2/\∀p q,dg a=[p,q]->p≠q:=by
 obtain⟨d,f⟩:=x;rcases a with _|⟨k,_|⟨l,_|⟨n,o⟩⟩⟩
 .rcases c with _|⟨b1,g⟩
  .exact⟨⟨rfl,λi b q h=>by simp[bS]at h⟩,by simp[bS],λp q z=>by simp[dg]at z⟩
  .simp at d
 .rcases c with _|⟨b1,_|⟨b2,g⟩⟩
  .simp at d
  .exact⟨⟨rfl,f⟩,by simp[bS],λp q z=>by simp[dg]at z⟩
  .simp at d
 .rcases c with _|⟨b1,_|⟨b2,_|⟨b3,g⟩⟩⟩
  .simp at d
  .simp at d
  .by_cases e:k=l
   .subst e
    simp only[bS,dg,if_true];refine⟨⟨rfl,λi b q hb m=>?_⟩,by simp,λp q z=>by simp at z⟩
    cases i with
    | zero=>exact f 0 b q hb m
    | succ i=>simp at hb
   .simp only[bS,dg,if_neg e]
    refine⟨⟨rfl,f⟩,by simp,λp q z=>?_⟩;simp at z;rw[<-z.1,<-z.2];exact e
  .simp at d
 .simp at j
def yJ(K:W7)(w:World):AN->Hp->VK->Prop:=λxs H Q=>∃a d b,xs=[.ref a]/\SqL K H a (d.map V.ref)/\PrsA H d b/\b.length<=2/\(∀p q,b=[p,q]->p=q\/pH p≠pH q)/\
 ∀p vs,H p=none->vs.Perm ((bS d b).map Value.ref)->Q (.ref p) (upd H p (fS w p vs))
def yK(w:World):AN->Hp->VK->Prop:=λxs H Q=>∃a vs b c,xs=[.ref a]/\H a=some (fS w a vs)/\vs.Perm (b.map Value.ref)/\PrsA H b c/\b.length<=2/\(∀p q,c=[p,q]->p≠q)/\
 ∀p,H p=none->Q (.ref p) (upd H p (.lst ((cZ b c).map V.ref)))
section
variable {X:Cx}
def Hr{pins:AC}{s:Shared}{σ:L2.St}{H:Hp}(I:Inv X pins σ H s){a:List Addr}{c:List (Int×Bool)}(x:PrsA H a c)(i:Nat)(u:Addr)(p:Int×Bool)(h:a[i]?=some u)(d:c[i]?=some p):PairV s.heap u p:=by
 obtain⟨b,f,⟨o,e,j,n,l⟩,_⟩:=I.tuple  (.of (x.2 i u p h d))
 cases f with
 | cons k q=>
   cases q with
   | cons m g=>
     cases g;obtain⟨t,rfl⟩:=k;cases m;exact⟨o,t,n,e,j,l⟩
theorem Ht:∀{a:List Addr}{its:AD},Vals (a.map V.ref) its->its=a.map Value.ref
 | [],_,r=>by cases r;rfl
 | b::a,_,r=>by
   cases r with
   | cons c d=>
     cases c;rw[Ht d];rfl
theorem Hu:∀a:List Addr,Vals (a.map V.ref) (a.map Value.ref)
 | []=>.nil
 | b::a=>.cons rfl (Hu a)
theorem N6(g:X.calm=true)(p:X.A.units+64<cLine):c6 X (.type "set") (yJ X.K X.w):=by
 intro pins s σ H xs us Q I r h;obtain⟨a,n,o,rfl,j,b,k,i,q⟩:=h;obtain⟨u,rfl,e⟩:=dM r;cases e;obtain⟨its,f,pl,m⟩:=I.list j;cases Ht f
 exact N1 (I.ok.hd g) (by lia) pl.isList (by rw[<-b.1];exact k) b.1 (Hr I b) i λh' tk vs d c l=>(⟨.ref (~~~s),_,I.laid  l (qv _) (yI d),rfl,q _ vs (I.hok.fresh (qv _)) c⟩)
theorem N7(o:X.calm=true):c6 X (.builtin "sorted") (yK X.w):=by
 intro pins s σ H xs us Q I r h;obtain⟨a,vs,g,i,rfl,l,f,c,j,d,q⟩:=h;obtain⟨u,rfl,m⟩:=dM r;cases m
 refine N4 (I.ok.hd o) (( I.hok a _ l).1) f j c.1 (Hr I c) d λh' d' tk e p b k n=>(⟨.ref p,_,Inv.laid  (I.dr d') b k (show ObjOk X.prog X.w _ _ _ (.lst ((cZ g i).map V.ref)) from⟨?_,_,e,Hu _,n⟩),rfl,q _ (I.hok.fresh k)⟩)
 have:(cZ g i).length<=2:=by
  unfold cZ
  split
  .split<;>simp
  .exact j
 rw[qf,jf];lia
end
def gC(l:AQ):Option AQ:=(dA l).bind λps=>match l,ps with
 | [],[]=>some []
 | [d],[_]=>some [d]
 | [c,e],[b,a]=>if b=a then some [c]else if pH b≠pH a then some (if bZ a.1 a.2 b.1 b.2=true then [e,c]else [c,e])else none
 | _,_=>none
theorem Hv{K:W7}{G H:Hp}(s:Same G H):∀{l:AQ}{ps:List (Int×Bool)}{xs:AN},dA l=some ps->RpL K G l xs->∃a,xs=a.map V.ref/\PrsA H a ps
 | [],ps,xs,e,r=>by
   cases e;subst r;exact⟨[],rfl,rfl,λi b q h=>by simp at h⟩
 | d::l,ps,xs,e,r=>by
   obtain⟨p,t,rfl,h0,u⟩:=N5 e;obtain⟨x,w,rfl,o,v⟩:=r;obtain⟨a,rfl,m,n⟩:=Hv s u v;obtain⟨b,rfl,hb⟩:=yH h0 o;refine⟨b::a,rfl,by simp[m],λj c q g f=>?_⟩
   cases j with
   | zero=>
     simp at g f;subst g f;exact s _ _ hb
   | succ j=>exact n j c q (by simpa using g) (by simpa using f)
theorem N8{K:W7}{G:Hp}{l j:AQ}{a:List Addr}{ps:List (Int×Bool)}(h:gC l=some j)(d:dA l=some ps)(r:RpL K G l (a.map V.ref)):
 ps.length<=2/\(∀p q,ps=[p,q]->p=q\/pH p≠pH q)/\RpL K G j ((cZ (bS a ps) (dg ps)).map V.ref):=by
 unfold gC at h;rw[d,qd]at h
 split at h
 .cases h
  rcases a with _|⟨b1,g⟩
  .exact⟨by simp,λp q z=>by simp at z,r⟩
  .have:=r.length
   simp at this
 .cases h
  rcases a with _|⟨b1,_|⟨b2,g⟩⟩
  .have:=r.length
   simp at this
  .exact⟨by simp,λp q z=>by simp at z,r⟩
  .have:=r.length
   simp at this
 .rename_i s w o m
  rcases a with _|⟨b1,_|⟨b2,_|⟨b3,g⟩⟩⟩
  .have:=r.length
   simp at this
  .have:=r.length
   simp at this
  .have b:=r
   obtain⟨u,v,e1,c,b⟩:=b;obtain⟨t,k,e2,i,b⟩:=b;cases e1;cases e2;by_cases e:o=m
   .rw[if_pos e]at h
    cases h;refine⟨by simp,λp q z=>?_,?_⟩
    .simp at z
     exact .inl (by rw[<-z.1,<-z.2];exact e)
    .simp  [bS,if_pos e]
     exact .one c
   .rw[if_neg e]at h
    split at h
    case isFalse=>cases h
    rename_i n;cases h;refine⟨by simp,λp q z=>?_,?_⟩
    .simp at z
     exact .inr (by rw[<-z.1,<-z.2];exact n)
    .simp  [bS,dg,if_neg e,cZ]
     split
     .exact .cons i (.one c)
     .exact .cons c (.one i)
  .have:=r.length
   simp at this
 .cases h
section
variable {X:Cx}{e:Expr}{f:AV}{p p2 pos pos2:Pos}
def fT:D->Option AQ
 | .lst l=>some l
 | _=>none
def yL(f:AV):AW:=λρ=>(b1 f fT ρ).bind gC
@[simp] theorem gD{ρ:Ro}:yL f ρ=((f ρ).bind fT).bind gC:=lD rfl
@[simp] theorem lN(l:AQ):fT (.lst l)=some l:=lD rfl
end
end
section
def yM(mask:Nat)(p:SetTable.Probe):SetTable.Probe:=SetTable.advance { mask:=mask,place:=#[],dummies:=#[],finger:=0,led:=false,moves:=0,plain:=false } p
def yN(mask:Nat):Nat->SetTable.Probe->SetTable.Probe
 | 0,p=>p
 | k+1,p=>yN mask k (yM mask p)
def N9(mask i perturb:Nat):SetTable.Probe:={ j:=i,more:=SetTable.runEnd mask i-i,i,perturb,dummy:=none }
def N_(mask:Nat)(a:Nat->Prop)(p:SetTable.Probe)(j:Nat):Prop:=∃k,(yN mask k p).j=j/\∀m,m<k->a (yN mask m p).j
abbrev Oa(mask:Nat)(h:Int):SetTable.Probe:=N9 mask (SetTable.bits h%(mask+1)) (SetTable.bits h)
section
variable {t:SetTable}{hA:Nat->Int}{h:Int}
structure lO(t:SetTable)(n:Nat):Prop where
 hs:t.mask+1∈sizes
 dm:t.dummies=#[]
 rise:bN t.place
 le:∀j∈t.place.toList,j<=t.mask
 sz:t.place.size=n
 room:n<=t.mask
end
end
section
def bI(b:Bool):Int:=if b then 1 else 0
def bH(a:AH):Int:=hY (a.map bI)
def yO(h:Heap)(u:Addr)(a:AH):Prop:=a.length<=4/\∃o n,h.get? u=some o/\o.cls=.type "tuple"/\o.data=.seq (a.map Value.bool).toArray n
structure Ob(w:World)(h:Heap)(S:Addr)(us:List (Addr×AH)):Prop where
 ex:∃o es ep t,h.get? S=some o/\o.ExactSet/\o.data=.set es ep t/\es.toList.Perm (us.map λu=>(bH u.2,Value.ref u.1))/\t.fits es.size=true/\lO t es.size/\Tab (da w) t/\es.size*5<t.mask*3/\∀q∈es.toList.zip t.place.toList,N_ t.mask (·∈t.place.toList) (Oa t.mask q.1.1) q.2
 keys:(us.map (·.2)).Nodup
 tups:∀u∈us,yO h u.1 u.2
 few:us.length<=24
end
section
section
variable {n:Nat}{key:Nat->Nat}{cmp:Nat->Nat->(Bool->Shared->Prop)->Shared->Prop}{s:Shared}
variable (hinj:∀i j,i<n->j<n->key i=key j->i=j) (hc:∀i j (C:Bool->Shared->Prop),i<n->j<n->C (decide (key i<key j)) s->cmp i j C s)
include hinj hc
omit hinj hc in
omit hinj hc in
omit hinj hc in
end
end
section
section
variable {X:Cx}{e:Expr}{f:AV}{p p2 pos pos2:Pos}
def ix(f:AV):AS:=λρ=>(f ρ).map λ_=>.nx ρ
@[simp] theorem pN{ρ:Ro}:ix f ρ=(f ρ).map λ_=>.nx ρ:=lD rfl
end
end
section
end
section
structure ZE(X:Cx)(e:Expr)(f:AV):Prop where
 un:ME X e f
structure ZC(X:Cx)(e:Expr)(f:AV):Prop where
 un:MC X e f
structure gE(X:Cx)(es:AL)(f:AW):Prop where
 un:pa X es f
structure ZF(X:Cx)(e:Expr)(f:AW):Prop where
 un:MF X e f
structure ZT(X:Cx)(e:Expr)(f:AU):Prop where
 un:MT X e f
structure ZW(X:Cx)(e:Expr)(f:AU):Prop where
 un:MW X e f
structure ZA(X:Cx)(es:AL)(f:AW):Prop where
 un:MA X es f
structure ZI(X:Cx)(tg iter:Expr)(f:AW):Prop where
 un:MI X tg iter f
structure ZS(X:Cx)(st:Stmt)(f:AS):Prop where
 un:MS X st f
structure ZB(X:Cx)(sts:List Stmt)(f:AS):Prop where
 un:MB X sts f
structure ZG(X:Cx)(tg:Expr)(gt:AT):Prop where
 un:MG X tg gt
structure eT(X:Cx)(K:W7)(ifs:AL)(f:AU):Prop where
 un:dv X ifs (tTof K f)
structure ZO(X:Cx)(e:Option Expr)(f:Option AV):Prop where
 un:PO X e (tO X.K f)
structure ZP(X:Cx)(pos:Pos)(keys:List (Option Expr))(values:AL)(ks:AK)(fs:List AV):Prop where
 un:MP X pos keys values ks fs
section
variable {K:W7}{X:Cx}{H0 G0 H G:Hp}{σ:L2.St}{ρ:Ro}{a b c e:Expr}{es:AL}{fa fb fc f:AV}{ga:AW}{pos:Pos}
def yP(h:ZE X e f):ZC X e f:=⟨ME.mc h.un⟩
theorem yQ(i:Nat)(n:X.N[i]?=some x:=by rfl)(k:eG X.env.scope x:=by trivial)(l:b9 x:=by decide)(g:eZ x:=by decide):ZE X (.Name x pos) (ab i):=⟨
 PE.imp (fH n k l g) λσ H Q j=>by
  obtain⟨ρ,d,H0,G0,G,e,s,h⟩:=j;obtain⟨v,o,m⟩:=s.sh i d (Mn e)
  exact⟨v,o,h v H G (.refl s.seen) m⟩⟩
theorem yR(i:Nat)(r:X.N[i]?=some x:=by rfl)(w:eG X.env.scope x:=by trivial)(z:b9 x:=by decide)(m:eZ x:=by decide):ZC X (.Name x pos) (aa i):=⟨
 PE.imp (fH r w z m) λσ H Q o=>by
  obtain⟨ρ,d,H0,G0,G,e,s,h⟩:=o;unfold aa at e
  split at e
  .rename_i d' k
   cases e;obtain⟨v,g,j⟩:=s.sh i _ k;exact⟨v,g,h v H G (.refl s.seen) (.of s.seen j)⟩
  .rename_i l n
   cases e;obtain⟨a,xs,g,j,y,p,q⟩:=s.ow i l n;exact⟨_,g,h _ H G (.refl s.seen) ( ⟨a,xs,rfl,.inl p,q⟩)⟩
  .rename_i t ks vs n
   cases e;obtain⟨a,u,vxs,g,j,y,p,q⟩:=s.od i t ks vs n;exact⟨_,g,h _ H G (.refl s.seen) (by rw[Ct];grind)⟩
  .cases e⟩
def yS{j}:ZE X (.Constant (.int i) j pos) (kD (.int i)):=⟨wV ⟩
def yT{j}:ZE X (.Constant (.bool k) j pos) (kD (.bl k)):=⟨wW ⟩
def yU{j}:ZE X (.Constant .none j pos) (kD .non):=⟨wX ⟩
theorem yV{j}(g:PyData.strOk x=true:=by decide +kernel):ZE X (.Constant (.str x) j pos) (kD (.str x)):=⟨kR  tQ (λ_ _ _ q=>q) λ_=>by rw[Rp];grind⟩
def yW(d:ZC X a fa)(hb:ZC X b fb):ZE X (.BinOp a .Sub b pos) (b2 fa fb eN):=⟨have d:=d.un;have hb:=hb.un;jr u6 Gq d hb⟩
def yX(d:ZC X a fa)(hb:ZC X b fb):ZE X (.BinOp a .Mult b pos) (b2 fa fb eO):=⟨have d:=d.un;have hb:=hb.un;jr u7 (pd λi j h=>by
 simp only[Bool.or_eq_true,Qe,wh]at h
 exact h) d hb⟩
def yY(d:ZC X a fa)(hb:ZC X b fb):ZE X (.BinOp a .FloorDiv b pos) (b2 fa fb bF):=⟨have d:=d.un;have hb:=hb.un;jr u9 (pd λi j h=>by
 simp  [wh]at h
 exact h) d hb⟩
def yZ(d:ZC X a fa)(hb:ZC X b fb):ZE X (.BinOp a .Mod b pos) (b2 fa fb aN):=⟨have d:=d.un;have hb:=hb.un;jr u_ (pd λi j h=>wq h) d hb⟩
def y_(d:ZC X a fa)(hb:ZC X b fb):ZE X (.Compare a [.Lt] [b] pos) (mB (b2 fa fb fg)):=⟨have d:=d.un;have hb:=hb.un;hZ ki pe d hb (d5 _)⟩
def za(d:ZC X a fa)(hb:ZC X b fb):ZE X (.Compare a [.GtE] [b] pos) (mB (b2 fa fb pf)):=⟨have d:=d.un;have hb:=hb.un;hZ vd pe d hb (d5 _)⟩
def zb(d:ZC X a fa)(hb:ZC X b fb):ZT X (.Compare a [.Lt] [b] pos) (b2 fa fb fg):=⟨have d:=d.un;have hb:=hb.un;eM ki pe d hb (d5 _)⟩
def zc(d:ZC X a fa)(hb:ZC X b fb):ZT X (.Compare a [.Gt] [b] pos) (b2 fa fb fi):=⟨have d:=d.un;have hb:=hb.un;eM vc pe d hb (d5 _)⟩
def zd(g:X.A.units+64<cLine)(d:ZC X a fa)(hb:ZC X b fb):ZE X (.Compare a [.Eq] [b] pos) (mB (b2 fa fb (au false))):=⟨have d:=d.un;have hb:=hb.un;hZ (kY g) ph d hb (d5 _)⟩
def ze(g:X.A.units+64<cLine)(d:ZC X a fa)(hb:ZC X b fb):ZE X (.Compare a [.NotEq] [b] pos) (mB (b2 fa fb (au true))):=⟨have d:=d.un;have hb:=hb.un;hZ (kZ g) ph d hb (d5 _)⟩
def zf(g:X.A.units+64<cLine)(d:ZC X a fa)(hb:ZC X b fb):ZT X (.Compare a [.Eq] [b] pos) (b2 fa fb (au false)):=⟨have d:=d.un;have hb:=hb.un;eM (kY g) ph d hb (d5 _)⟩
def zg(g:X.A.units+64<cLine)(d:ZC X a fa)(hb:ZC X b fb):ZT X (.Compare a [.NotEq] [b] pos) (b2 fa fb (au true)):=⟨have d:=d.un;have hb:=hb.un;eM (kZ g) ph d hb (d5 _)⟩
def zh(g:X.A.units+64<cLine)(d:ZC X a fa)(hb:ZC X b fb)(h:behindInMarks .In b=false:=by with_unfolding_all rfl):ZE X (.Compare a [.In] [b] pos) (mB (b2 fa fb (cJ false))):=⟨have d:=d.un;have hb:=hb.un;hZ (k0 g) xb d hb h⟩
def zi(g:X.A.units+64<cLine)(d:ZC X a fa)(hb:ZC X b fb)(h:behindInMarks .In b=false:=by with_unfolding_all rfl):ZT X (.Compare a [.In] [b] pos) (b2 fa fb (cJ false)):=⟨have d:=d.un;have hb:=hb.un;eM (k0 g) xb d hb h⟩
def zj(g:X.A.units+64<cLine)(d:ZC X a fa)(hb:ZC X b fb)(h:behindInMarks .NotIn b=false:=by with_unfolding_all rfl):ZT X (.Compare a [.NotIn] [b] pos) (b2 fa fb (cJ true)):=⟨have d:=d.un;have hb:=hb.un;eM (Mp g) xb d hb h⟩
end
section
variable {K:W7}{X:Cx}{a b c e tg elt iter ie ke:Expr}{es rest ifs elts:AL}{fa fb f fe fk:AV}{fc fd:AU}{ga gl:AW}{pos p pos' pt px:Pos}{x:Str}{id T:String}{r:AN->Hp->VK->Prop}{g:AQ->Option D}{gf:AQ->Option AQ}{st:Stmt}{sts:List Stmt}{fs gs:AS}{scope:Scope}{N:AK}{src:List AM}{gt:AT}{P:P7}{w:World}{mg:AE}{base:Heap}{x1:Nat}
theorem zk(j:ZC X a fa)(o:∀i,isTrue a X.env i=(do let v <-i;standAt a.pos;holding [v] (truthy v)):=by intro _;rfl):ZT X a (b1 fa a6):=⟨have j:=j.un;
 PT.imp (LA j o) λσ H Q l=>by
  obtain⟨ρ,k,A,B,G,e,s,h⟩:=l;obtain⟨d,t,u⟩:=dc e
  exact tCof.at t s λv y m n q z=>⟨k,xc u q,h y m n⟩⟩
def Oc(d:ZT X a fc):ZW X (.BoolOp .And [a] pos) fc:=⟨have d:=d.un;tW d⟩
def zl(d:ZT X a fc):ZW X (.BoolOp .Or [a] pos) fc:=⟨have d:=d.un;tX d⟩
def zm(d:ZT X a fc)(hb:ZW X (.BoolOp .And (b::rest) pos) fd):ZW X (.BoolOp .And (a::b::rest) pos) (bA fc fd):=⟨have d:=d.un;have hb:=hb.un;PW.imp (tZ d hb) λ_ _ _ h=>xf h⟩
def zo(d:ZT X a fc)(hb:ZW X (.BoolOp .Or (b::rest) pos) fd):ZW X (.BoolOp .Or (a::b::rest) pos) (eB fc fd):=⟨have d:=d.un;have hb:=hb.un;PW.imp (t_ d hb) λ_ _ _ h=>xg h⟩
def zp(i:ZT X a fc):ZT X (.UnaryOp .Not a pos) (cK fc):=⟨have i:=i.un;PT.imp (j7 i) λσ H Q d=>by
 obtain⟨ρ,k,t,q,G,e,s,h⟩:=d;obtain⟨o,j,rfl⟩:=qc e
 exact tTof.at j s λm n l _=>h m n l⟩
def Od(d:ZE X a fa):ZE X (.BoolOp .And [a] pos) fa:=⟨have d:=d.un;j8 d⟩
def zq(d:ZE X a fa):ZE X (.BoolOp .Or [a] pos) fa:=⟨have d:=d.un;j8 d⟩
theorem zr(j:ZE X a fa)(hb:ZE X (.BoolOp .And (b::rest) pos) fb):ZE X (.BoolOp .And (a::b::rest) pos) (cq fa fb):=⟨have j:=j.un;have hb:=hb.un;PE.imp (uD j hb) λσ H Q i=>by
 obtain⟨ρ,d,F,I,G,e,s,h⟩:=i;obtain⟨k,A,e⟩:=qa e;obtain⟨E,y,q⟩:=dc A;cases xh q
 refine tOf.at y s λv C m l t n=>⟨k,t,?_⟩
 cases k with
 | true=>
   exact tOf.at e n λw u B z o _=>h w u B (l.trans z) o
 | false=>
   cases e
   exact h _ C m l (by rw[Rp])⟩
theorem zt(j:ZE X a fa)(hb:ZE X (.BoolOp .Or (b::rest) pos) fb):ZE X (.BoolOp .Or (a::b::rest) pos) (k1 fa fb):=⟨have j:=j.un;have hb:=hb.un;PE.imp (uE j hb) λσ H Q i=>by
 obtain⟨ρ,d,F,I,G,e,s,h⟩:=i;obtain⟨k,A,e⟩:=qa e;obtain⟨E,y,q⟩:=dc A;cases xh q
 refine tOf.at y s λv C m l t n=>⟨k,t,?_⟩
 cases k with
 | false=>
   exact tOf.at e n λw u B z o _=>h w u B (l.trans z) o
 | true=>
   cases e
   exact h _ C m l (by rw[Rp])⟩
theorem zu(j:ZE X a fa):ZE X (.UnaryOp .Not a pos) (ec fa):=⟨have j:=j.un;PE.imp (uF j) λσ H Q i=>by
 obtain⟨ρ,d,y,B,G,e,s,h⟩:=i;obtain⟨k,u,rfl⟩:=qc e;obtain⟨A,q,m⟩:=dc u;cases xh m
 exact tOf.at q s λv t l n o z=>⟨k,o,h _ t l n (by rw[Rp])⟩⟩
def zv(m:ZT X c fc)(i:ZE X a fa)(hb:ZE X b fb):ZE X (.IfExp c a b pos) (k3 fc fa fb):=⟨have m:=m.un;have i:=i.un;have hb:=hb.un;PE.imp (Ln m i hb) λσ H Q q=>by
 obtain⟨ρ,d,y,B,G,e,s,h⟩:=q;obtain⟨k,v,e⟩:=qa e;refine tTof.at v s λz A u t=>?_
 cases k with
 | true=>
   exact tOf.at e t λw j n o l _=>h w j n (u.trans o) l
 | false=>
   exact tOf.at e t λw j n o l _=>h w j n (u.trans o) l⟩
def zw(d:ZC X a fa)(hb:ZC X b fb):ZE X (.Compare a [.Is] [b] pos) (mB (b2 fa fb (cb false))):=⟨have d:=d.un;have hb:=hb.un;hZ kj Gu d hb (d5 _)⟩
def Oe(d:ZC X a fa)(hb:ZC X b fb):ZE X (.Compare a [.IsNot] [b] pos) (mB (b2 fa fb (cb true))):=⟨have d:=d.un;have hb:=hb.un;hZ FJ Gv d hb (d5 _)⟩
def zx(d:ZC X a fa)(hb:ZC X b fb):ZT X (.Compare a [.Is] [b] pos) (b2 fa fb (cb false)):=⟨have d:=d.un;have hb:=hb.un;eM kj Gu d hb (d5 _)⟩
def Of(d:ZC X a fa)(hb:ZC X b fb):ZT X (.Compare a [.IsNot] [b] pos) (b2 fa fb (cb true)):=⟨have d:=d.un;have hb:=hb.un;eM FJ Gv d hb (d5 _)⟩
def Og(d:ZC X a fa)(hb:ZC X b fb)(hs:oU b:=by intro _ _;rfl):ZE X (.Subscript a b pos) (b2 fa fb ak):=⟨have d:=d.un;have hb:=hb.un;kU vR xj d hb hs⟩
def Oh{lo A:Option Expr}(y:ZC X a fa)(k:ZO X lo fl)(o:ZO X A fh):ZF X (.Subscript a (.Slice lo A none p2) pos) (h_ fa fl fh):=⟨have y:=y.un;have k:=k.un;have o:=o.un;
 PE.imp (LU vT y k o) λσ H Q m=>by
  obtain⟨ρ,l,H0,U,G,e,s,h⟩:=m;obtain⟨W,L,e⟩:=qa e;obtain⟨i,O,e⟩:=qa e;obtain⟨j,F,e⟩:=qa e;cases e;obtain⟨d,J,S⟩:=dc L;refine tCof.at J s λv H1 Y B R E=>k4 O E λZ G2 t M=>k4 F M λH3 I u C=>?_;obtain⟨p,xs,rfl,g,z⟩:=Mr S ((R.grow t).grow u);refine⟨p,xs,rfl,g,λq n=>(h q _ _ I (((B.trans t).trans u).trans (Gr.hid  C.seen n (.lst (eK xs i j)))) (B.h.free (t.h.free (u.h.free n))) (C.seen.free n) Yk ?_)⟩;unfold dy eK;rw[z.length]
  exact(z.drop _).take _⟩
def zy :ZO X none none:=⟨xk ⟩
def zz(h:ZC X e f):ZO X (some e) (some f):=⟨have h:=h.un;vM h⟩
def lP{g:AW}(h:ZF X e g):ZE X e (lF g):=⟨MF.me h.un⟩
def zA :ZA X [] ae:=⟨xl ⟩
def Oi(d:ZE X e f)(h:ZA X es ga)(hs:starEach (e::es) X.env=(false,eval e X.env)::starEach es X.env:=by rfl):ZA X (e::es) (Yb f ga):=⟨xm d.un h.un hs⟩
def Oj :gE X [] ae:=⟨ju ⟩
def Ol(d:ZC X e f)(h:gE X es ga)(hs:starEach (e::es) X.env=(false,eval e X.env)::starEach es X.env:=by rfl):gE X (e::es) (Yb f ga):=⟨jv d.un h.un hs⟩
theorem zB{x1}(h:ZA X es ga):ZE X (.Tuple es x1 pos) (aG ga):=⟨have h:=h.un;PE.imp (vw h) λσ H Q i=>by
 obtain⟨ρ,d,u,t,G,e,s,h⟩:=i;obtain⟨l,n,e⟩:=qa e
 split at e
 .cases e
  exact tAof.at n s λvs q v o j k=>⟨by rw[j.length];exact ia (by assumption),λp m=>(h _ _ _ (o.trans (.new k.seen m (.tup vs))) (⟨p,vs,rfl,Yk,j.mono (Gr.new k.seen m (.tup vs)).g⟩))⟩
 .cases e⟩
theorem zC(h:ZA X es ga):ZF X (.List es pos) (bc ga):=⟨have h:=h.un;PE.imp (ku h) λσ H Q j=>by
 obtain⟨ρ,d,u,v,G,e,s,h⟩:=j;obtain⟨l,o,e⟩:=qa e
 split at e
 .cases e
  exact tAof.at o s λvs t q k n m=>⟨by rw[n.length];exact ia (by assumption),λp i=>(h p vs _ q (k.trans (.hid m.seen i (.lst vs))) (k.h.free i) (m.seen.free i) Yk n)⟩
 .cases e⟩
theorem pO(l:c6 X (.builtin id) r)(q:cU X.K r g)(m:Gl X x)(n:X.mg x=none)(k:bootBuiltins x=some (.builtin id))(j:gE X (e::es) ga)(o:x≠"__name__":=by decide)(d:b9 x:=by decide)(s:starEach (e::es) X.env=(false,eval e X.env)::starEach es X.env:=by rfl)(i:(backTo pos (starEach es X.env)).any (·.1)=false:=by rfl):ZE X (.Call (.Name x p) (e::es) [] pos) (cC ga g):=⟨have j:=j.un;
 PE.imp (jm l m n k j o d s i) λ_ _ _ h=>k5 q h⟩
theorem Om(l:c6 X (.builtin id) r)(q:eL X.K r gf)(m:Gl X x)(n:X.mg x=none)(k:bootBuiltins x=some (.builtin id))(j:gE X (e::es) ga)(o:x≠"__name__":=by decide)(d:b9 x:=by decide)(s:starEach (e::es) X.env=(false,eval e X.env)::starEach es X.env:=by rfl)(i:(backTo pos (starEach es X.env)).any (·.1)=false:=by rfl):ZF X (.Call (.Name x p) (e::es) [] pos) (cF ga gf):=⟨have j:=j.un;
 PE.imp (jm l m n k j o d s i) λ_ _ _ h=>Gw q h⟩
theorem Hw(l:c6 X (.type T) r)(q:cU X.K r g)(m:Gl X x)(n:X.mg x=none)(k:bootBuiltins x=some (.type T))(j:gE X (e::es) ga)(o:x≠"__name__":=by decide)(d:b9 x:=by decide)(s:starEach (e::es) X.env=(false,eval e X.env)::starEach es X.env:=by rfl)(i:(backTo pos (starEach es X.env)).any (·.1)=false:=by rfl):ZE X (.Call (.Name x p) (e::es) [] pos) (cC ga g):=⟨have j:=j.un;
 PE.imp (hy l m n k j o d s i) λ_ _ _ h=>k5 q h⟩
theorem On(l:c6 X (.type T) r)(q:eL X.K r gf)(m:Gl X x)(n:X.mg x=none)(k:bootBuiltins x=some (.type T))(j:gE X (e::es) ga)(o:x≠"__name__":=by decide)(d:b9 x:=by decide)(s:starEach (e::es) X.env=(false,eval e X.env)::starEach es X.env:=by rfl)(i:(backTo pos (starEach es X.env)).any (·.1)=false:=by rfl):ZF X (.Call (.Name x p) (e::es) [] pos) (cF ga gf):=⟨have j:=j.un;
 PE.imp (hy l m n k j o d s i) λ_ _ _ h=>Gw q h⟩
def zD :ZB X [] av:=⟨xt ⟩
def Oo(l:ZS X st fs)(m:ZB X sts gs):ZB X (st::sts) (af fs gs):=⟨have l:=l.un;have m:=m.un;PSs.imp (FC l m) λF σ H n=>by
 obtain⟨ρ,out,i,j,G,e,s,h⟩:=n;obtain⟨o,k,e⟩:=qa e
 cases o with
 | nx ρ'=>exact⟨ρ,.nx ρ',i,j,G,k,s,λσ' H' G' s'=>⟨ρ',out,i,j,G',e,s',h⟩⟩
 | rt d=>cases e;exact⟨ρ,.rt d,i,j,G,k,s,h⟩
 | bk ρ'=>cases e;exact⟨ρ,.bk ρ',i,j,G,k,s,h⟩
 | ct ρ'=>cases e;exact⟨ρ,.ct ρ',i,j,G,k,s,h⟩⟩
def zE(d:ZS X st fs):ZB X [st] fs:=⟨have d:=d.un;FD d⟩
def zF(i:AF)(h:ZS X st fs):ZS X st (wF i fs):=⟨have h:=h.un;PS.imp h λF σ H d=>by
 obtain⟨ρ,out,k,j,G,e,s,h⟩:=d;obtain⟨G',s'⟩:=SR.frz i s
 exact⟨frz i ρ,out,k,j,G',e,s',h⟩⟩
theorem zG(i:Nat)(j:X.N.Nodup)(d:ZE X e f)(k:X.N[i]?=some x:=by rfl)(m:dJ X.env.scope x:=by trivial)(hs:swapsWith e (some (.Name x pos')) pos.line X.env=pure false:=by rfl)(l:X.fn x=true\/X.env.scope.names.lookup x=some .local:=by trivial):ZS X (.Assign [.Name x pos'] e pos) (az i f):=⟨have d:=d.un;PS.imp (uR j k m d hs l) λ_ _ _ h=>xu h⟩
theorem zH(i:Nat)(j:X.N.Nodup)(d:ZF X e gl)(k:X.N[i]?=some x:=by rfl)(m:dJ X.env.scope x:=by trivial)(hs:swapsWith e (some (.Name x pos')) pos.line X.env=pure false:=by rfl)(l:X.fn x=true\/X.env.scope.names.lookup x=some .local:=by trivial):ZS X (.Assign [.Name x pos'] e pos) (aO i gl):=⟨have d:=d.un;PS.imp (uR j k m d hs l) λ_ _ _ h=>xw h⟩
def zI(j:ZE X e f):ZS X (.Return (some e) pos) (ag f):=⟨have j:=j.un;PS.imp (uL j) λF σ H i=>by
 obtain⟨ρ,out,q,u,G,e,s,h⟩:=i;obtain⟨d,l,rfl⟩:=qc e
 exact tOf.at l s λv o k t n m=>h v o k m.gr n⟩
def Oq :ZS X (.Pass pos) av:=⟨xx ⟩
def zJ{a b:List Stmt}(d:ZT X c fc)(i:ZB X a fs)(hb:ZB X b gs):ZS X (.If c a b pos) (aX fc fs gs):=⟨have d:=d.un;have i:=i.un;have hb:=hb.un;PS.imp (gY d i hb) λF σ H j=>by
 obtain⟨ρ,out,l,n,G,e,s,h⟩:=j;obtain⟨k,q,e⟩:=qa e;refine tTof.at q s λt o u m=>?_
 cases k with
 | true=>
   exact⟨ρ,out,l,n,o,e,m,h⟩
 | false=>
   exact⟨ρ,out,l,n,o,e,m,h⟩⟩
abbrev zL(X:Cx)(c:Pos)(l:AL):Prop:=((backTo c (starEach l X.env)).all (λx=>!x.1)&&(backToKw c (keywordEach [] X.env)).all (λx=>x.1.isSome)&&decide (l.length+([]:List Keyword).length+(if ([]:List Keyword).isEmpty then 0 else 1)<30))=true
theorem Os(i:Nat){o k j:Pos}(y:ZE X e f)(W:X.N[i]?=some x:=by rfl)(S:eG X.env.scope x:=by trivial)(Q:b9 x:=by decide)(A:eZ x:=by decide)(z:swapsWith (.Call (.Attribute (.Name x o) "append" k) [e] [] j) none pos.line X.env=pure false:=by rfl)(hs:starEach [e] X.env=[(false,eval e X.env)]:=by rfl)(q:zL X j [e]:=by rfl)(n:(k.endLine==j.line)=true:=by rfl)(m:attributeBase (.Name x o) "append" X.env (eval (.Name x o) X.env)=eval (.Name x o) X.env:=by rfl):ZS X (.Expr (.Call (.Attribute (.Name x o) "append" k) [e] [] j) pos) (cD i f bu):=⟨have y:=y.un;
 PS.imp (j_ (hE PySem.F.plainAttrs_list PySem.F.slot_list_append PySem.F.type_list_append vZ (fH W S Q A) (eJ y eI hs) m q n hs rfl) z) λF σ H u=>by
  obtain⟨ρ,out,H0,G0,G,e,s,h⟩:=u;obtain⟨l,C,e⟩:=qa e;obtain⟨d,R,e⟩:=qa e;obtain⟨l',t,rfl⟩:=qc e;unfold bu at t
  split at t
  .rename_i U
   cases t;obtain⟨a,xs,E,I,B,Y⟩:=k7 s C;refine⟨_,E,.inl ⟨rfl,xs,SqL.of I⟩,tOf.at R s λv Z O J M L=>(⟨a,xs,v,rfl,rfl,J.h _ _ I,?_,h σ _ O (L.mut (wU C) E ((B.mono J.g).append (.one M)))⟩)⟩;rw[B.length];exact Qi U (ia (qv _))
  .cases t⟩
theorem zM(C:ZE X l f):ZI X tg l (b1 f Yc):=⟨have C:=C.un;PI.imp (xA C) λσ H R F=>by
 obtain⟨ρ,ds,Q,S,G,e,s,h⟩:=F;obtain⟨c,M,O⟩:=dc e;refine tOf.at M s λv B o z A E=>?_;rcases Yz O with rfl|rfl|⟨ns,rfl,rfl⟩
 .obtain⟨p,xs,rfl,g,j⟩:=A
  refine⟨p,xs,rfl,.inr ⟨.inl (.inl (E.seen _ _ g)),λu=>h _ B o z (k8 (by rw[<-j.length];exact u) λi L J e1 e2=>⟨λd n=>?_,λt=>⟨xs,.inl (.inl (e2 _ _ (e1 _ _ g))),by rw[j.length];exact t⟩⟩)⟩⟩;obtain⟨x,k,m⟩:=j.get n;refine⟨⟨xs,x,.inl (.inl (e2 _ _ (e1 _ _ g))),k⟩,λy I q=>⟨q.1,?_⟩⟩;have:=q.2 xs (.inl (.inl (e2 _ _ (e1 _ _ g))));rw[k]at this;cases this;exact m.mono e1
 .obtain⟨p,xs,rfl,g,j⟩:=A
  refine⟨p,xs,rfl,.inl ⟨.inl (Yy E.seen g),λu=>h _ B o z (k8 (by rw[<-j.length];exact u) λi L J e1 e2=>⟨λd n=>?_,λt=>⟨xs,.inl (Yy e2 (Yy e1 g)),by rw[j.length];exact t⟩⟩)⟩⟩;obtain⟨x,k,m⟩:=j.get n;refine⟨⟨xs,x,.inl (Yy e2 (Yy e1 g)),k⟩,λy I q=>⟨q.1,?_⟩⟩;have:=q.2 xs (.inl (Yy e2 (Yy e1 g)));rw[k]at this;cases this;exact m.mono e1
 .obtain⟨p,rfl,g⟩:=A
  have j:RpL X.K o (ns.map D.int) (ns.map V.int):=.ints ns;refine⟨p,_,rfl,.inl ⟨E.seen.seq g,λu=>h _ B o z (k8 (by grind) λi L J e1 e2=>⟨λd n=>?_,λt=>⟨_,e2.seq (e1.seq g),by grind⟩⟩)⟩⟩;obtain⟨x,k,m⟩:=j.get n;refine⟨⟨_,x,e2.seq (e1.seq g),k⟩,λy I q=>⟨q.1,?_⟩⟩;have:=q.2 _ (e2.seq (e1.seq g));rw[k]at this;cases this
  exact m.mono e1⟩
theorem Ot(q:Gl X "range")(z:X.mg "range"=none)(i:ZA X [a] ga)(hs:starEach [a] X.env=[(false,eval a X.env)]:=by rfl):ZI X tg (.Call (.Name "range" p) [a] [] pos) (cF ga cM):=⟨have i:=i.un;
 PI.imp (Ls q z i hs) λσ H R d=>by
  obtain⟨ρ,ds,F,E,G,e,s,h⟩:=d;obtain⟨l,t,y⟩:=qa e;refine tAof.at t s λvs k j o u C=>?_;obtain⟨n,rfl,A,B,rfl⟩:=Mu y;obtain⟨v,rfl,m⟩:=gv u;subst m;have:=h (jk 0 (n-0).toNat) k j o (k9 (ia (by unfold a_;lia)))
  grind⟩
theorem Ou(v:Gl X "range")(A:X.mg "range"=none)(i:ZA X [a,b] ga)(hs:starEach [a,b] X.env=[(false,eval a X.env),(false,eval b X.env)]:=by rfl)(d:starEach [b] X.env=[(false,eval b X.env)]:=by rfl):ZI X tg (.Call (.Name "range" p) [a,b] [] pos) (cF ga cW):=⟨have i:=i.un;
 PI.imp (Lu v A i hs d) λσ H R k=>by
  obtain⟨ρ,ds,J,I,G,e,s,h⟩:=k;obtain⟨l,u,m⟩:=qa e;refine tAof.at u s λvs o z t j L=>?_;obtain⟨a,n,rfl,E,M,F,C,rfl⟩:=Mv m;obtain⟨x,r,rfl,q,j⟩:=j;obtain⟨y,rfl,B⟩:=gv j;subst q;subst B
  exact⟨a,n,rfl,⟨by lia,by lia,by lia,by lia⟩,h _ o z t (k9 (Qg (by lia:(n-a).toNat<=2000000) (by decide)))⟩⟩
theorem Ov(i:Nat)(m:X.N.Nodup)(l:X.N[i]?=some x:=by rfl)(n:dJ X.env.scope x:=by trivial)(k:X.fn x=true\/X.env.scope.names.lookup x=some .local:=by trivial):ZG X (.Name x pos) (ah i):=⟨
 PG.imp (jj m l n k) λv σ H Q j=>by
  obtain⟨d,ρ,ρ',q,o,G,e,s,r,h⟩:=j;cases e
  exact h _ (s.set_sh i r)⟩
theorem Ow(i j:Nat){x y:Str}{px B:Pos}{k:Nat}(E:X.calm=true)(q:X.N.Nodup)(I:X.N[i]?=some x:=by rfl)(C:X.N[j]?=some y:=by rfl)(z:dJ X.env.scope x:=by trivial)(t:dJ X.env.scope y:=by trivial)(A:X.fn x=true\/X.env.scope.names.lookup x=some .local:=by trivial)(n:X.fn y=true\/X.env.scope.names.lookup y=some .local:=by trivial):ZG X (.Tuple [.Name x px,.Name y B] k pos) (fj i j):=⟨
 PG.imp (kd (n:=2) E (kb (jj q I z A) (kb (jj q C t n) FE))) λv σ H Q o=>by
  obtain⟨d,ρ,ρ',J,L,G,e,s,r,h⟩:=o
  match d,e,r with
  | .tup [a,b],e,r=>
    cases e;obtain⟨p,xs,rfl,g,l⟩:=r;obtain⟨u,us,rfl,F,l⟩:=l;obtain⟨w,rfl,m⟩:=gv l
    exact⟨p,[u,w],rfl,.inl (.inl (s.seen _ _ g)),rfl,u,[w],rfl,w,[],rfl,rfl,h _ ((s.set_sh i F).set_sh j m)⟩⟩
theorem zN(hp:PassesOwn (mZ X.prog X.w) X.A X.env X.xe)(hc:X.calm=true)(O:ZI X tg iter gl)(R:ZG X tg gt)(hb:ZB X C fs)(hs:∀x,foldedSetIterable iter X.env x=pure x:=by intro _;rfl):ZS X (.For tg iter C [] pos) (bY gl gt fs):=⟨have O:=O.un;have R:=R.un;have hb:=hb.un;
 PS.imp (kg hp hc O R hb hs) λF σ H Q=>by
  obtain⟨ρ,out,H0,G0,G,e,s,h⟩:=Q;obtain⟨ds,h1,h2⟩:=qa e;refine⟨ρ,ds,H0,G0,G,h1,s,λJ H1 E g1 wk=>?_⟩;obtain⟨M,Z,k⟩:=(s.grow g1).rebase;refine⟨λi m σ' H'=>m=ds.length-i/\i<=ds.length/\∃ρ' G',SR X.K M E σ' H' G' ρ'/\forM gt fs (ds.drop i) ρ'=some out,⟨_,rfl,Qh _,ρ,E,Z,h2⟩,?_⟩;rintro i m σ' H' ⟨rfl,O,ρ',G',s',j⟩;have W:=wk.2 i H' G' s'.gr.g s'.seen;by_cases u:i<ds.length
  .obtain⟨go,yl⟩:=W.1 _ (qr u)
   rw[List.drop_eq_getElem_cons u]at j;obtain⟨L,e1,j⟩:=qa j;obtain⟨o,e2,j⟩:=qa j;refine .inr ⟨go,λσ' H'=>i+1<=ds.length/\∃ρ' G',SR X.K M E σ' H' G' ρ'/\forM gt fs (ds.drop (i+1)) ρ'=some out,λY U q=>⟨ds.length-(i+1),by lia,rfl,q.1,q.2⟩,λx U y=>?_⟩;obtain⟨S,g2,r2⟩:=yl x U y;refine⟨_,ρ',L,M,E,S,e1,s'.grow g2,r2,λσ3 s3=>(⟨L,o,M,E,S,e2,s3,?_⟩)⟩
   cases o with
   | nx n=>exact λA B z I=>⟨u,n,z,I,j⟩
   | ct n=>exact λA B z I=>⟨u,n,z,I,j⟩
   | bk n=>
     cases j;exact λA B z I=>h A B z (k _ _ _ _ I)
   | rt d=>
     cases j;refine λv B z g4 r4=>h v B z ?_ r4;have:=(k [] B z [] (SR.mkSh g4 rfl (λi d e=>(by simp at e)) (λi l e=>(by simp at e)) (λi t ks vs e=>(by simp at e)))).gr;exact this
  .have ei:i=ds.length:=by lia
   subst ei;rw[List.drop_length]at j;cases j
   exact .inl ⟨W.2 (qv _),h σ' H' G' (k _ _ _ _ s')⟩⟩
def zO :eT X X.K [] tY:=⟨xC ⟩
def Ox(S:aS X.N X.env.scope N src scope)(o:X.calm=true)(l:ZI X tg iter gl)(m:∀h C i s H,ZG (b_ X scope N h C i s H) tg gt)(q:∀h C i s H,eT (b_ X scope N h C i s H) X.K ifs fc)(n:∀h C i s H,ZE (b_ X scope N h C i s H) elt fe)(k:∀ρ d j,gt d (ai src ρ)=some j->Le (ai src ρ) j)(hs:∀x,foldedSetIterable iter X.env x=pure x:=by intro _;rfl):ZF X (.ListComp elt [⟨tg,iter,ifs,0⟩] scope pos) (Yr gl src gt fc fe):=⟨xE S o l.un (λh C i s H=>(m h C i s H).un) (λh C i s H=>(q h C i s H).un) (λh C i s H=>(n h C i s H).un) k hs⟩
theorem Oy(i:Nat){q k:Pos}(F:X.N.Nodup)(S:aS X.N X.env.scope N src scope)(v:X.calm=true)(n:ZI X tg iter gl)(z:∀j C h s H,ZG (b_ X scope N j C h s H) tg gt)(B:∀j C h s H,eT (b_ X scope N j C h s H) X.K ifs fc)(A:∀j C h s H,ZE (b_ X scope N j C h s H) elt fe)(o:∀ρ d l,gt d (ai src ρ)=some l->Le (ai src ρ) l)(m:swapsWith (.ListComp elt [⟨tg,iter,ifs,0⟩] scope pos) (some (.Name y q)) k.line X.env=pure true:=by rfl)(u:X.N[i]?=some y:=by rfl)(t:dJ X.env.scope y:=by trivial)(E:X.fn y=true\/X.env.scope.names.lookup y=some .local:=by trivial)(hs:∀x,foldedSetIterable iter X.env x=pure x:=by intro _;rfl):ZS X (.Assign [.Name y q] (.ListComp elt [⟨tg,iter,ifs,0⟩] scope pos) k) (aO i (Yr gl src gt fc fe)):=⟨xF i F S v n.un (λj C h s H=>(z j C h s H).un) (λj C h s H=>(B j C h s H).un) (λj C h s H=>(A j C h s H).un) o m u t E hs⟩
def zP{f:Addr}{fd:FuncData}{fb:AS}(F:Fun K x i st f fd)(S:aD N ps (aAa st))(l:N.length=n)(o:ps.length=m)(hb:∀(h:Value) (A:Around) (d:List Env) (s:Shared) (H:Hp) (E:XK),Room k (A.deeper (envOfC i (aAa st) (~~~s) f h))->ZB (bV bW P w K mg base N i (aAa st) f h A d s H E).nox (aCa st) fb):FnOk P w K mg base bW (k+1) f fd ps (bg K m (ao m n fb)):=Mx F S l o (λh A d s H E j=>(hb h A d s H E j).un)
theorem Hx(c:aM X.prog X.w X.K X.mg X.base j n x ps v)(s:Room k X.A)(q:Gl X x)(h:ZA X (e::es) ga)(u:∀ρ l,ga ρ=some l->l.length=n)(o:j<=k:=by first|exact qv _|lia)(d:b9 x:=by decide)(m:starEach (e::es) X.env=(false,eval e X.env)::starEach es X.env:=by rfl)(i:(backTo pos (starEach es X.env)).any (·.1)=false:=by rfl):ZE X (.Call (.Name x p) (e::es) [] pos) (cC ga v):=⟨have h:=h.un;by
 obtain⟨a,fd,F,hb,t,y⟩:=c
 exact xn F (s.mono o) q y t hb h d m i u⟩
def zQ(d:ZC X a fa)(hb:ZC X b fb):ZE X (.BinOp a .Add b pos) (b2 fa fb bX):=⟨have d:=d.un;have hb:=hb.un;jr u5 Gq d hb⟩
theorem zR(j:ZC X a fa):ZE X (.UnaryOp .USub a pos) (b1 fa fP):=⟨have j:=j.un;PE.imp (uY vb j) λσ H Q i=>by
 obtain⟨ρ,d,u,y,G,e,s,h⟩:=i;obtain⟨x,o,k⟩:=dc e;refine tCof.at o s λv n l q m t=>?_;cases x<;>simp[fP]at k;subst k
 exact⟨_,m,h _ n l q (by rw[Rp])⟩⟩
theorem zS(n:ZC X a fa)(hb:ZC X b fb):ZF X (.BinOp a .Add b pos) (b2 fa fb bO):=⟨have n:=n.un;have hb:=hb.un;PE.imp (g7 xI n hb) λσ H Q k=>by
 obtain⟨ρ,l,W,Z,G,e,s,h⟩:=k;obtain⟨R,S,L,J,d⟩:=pb e;refine tCof.at L s λv H1 Y z E A=>tCof.at J A λu U M j B y=>?_;unfold bO at d
 split at d
 .split at d
  .rename_i C
   cases d
   obtain⟨p,xs,rfl,F,t⟩:=(E.grow j)
   obtain⟨q,O,rfl,I,o⟩:=B;exact⟨p,q,xs,O,rfl,rfl,F,I,by rw[t.length,o.length];exact ia C,λm i=>(h m _ _ M ((z.trans j).trans (.hid y.seen i _)) (z.h.free (j.h.free i)) (y.seen.free i) Yk (t.append o))⟩
  .cases d
 .cases d⟩
theorem zT(A:ZC X a fa)(J:Gl X "isinstance")(t:Gl X i)(hm:X.mg "isinstance"=none)(u:X.mg i=none)(y:bootBuiltins i=some (.type T))(I:xK T)(S:bootBuiltins "isinstance"=some (.builtin "isinstance"):=by decide +kernel)(o:i≠"__name__":=by decide)(q:(i==("__debug__":Str))=false:=by decide)(hs:starEach [a,.Name i j] X.env=(false,eval a X.env)::starEach [.Name i j] X.env:=by rfl)(B:starEach [.Name i j] X.env=(false,eval (.Name i j) X.env)::starEach [] X.env:=by rfl)(z:(backTo pos (starEach [.Name i j] X.env)).any (·.1)=false:=by rfl):ZE X (.Call (.Name "isinstance" p) [a,.Name i j] [] pos) (mB (b1 fa (eQ T))):=⟨have A:=A.un;
 PE.imp (jm (My I) J hm S (eJ A (eJ (tS t u y (v:=.ty T) rfl o q) eI B) hs) (by decide) (by decide) hs z) λσ H Q n=>by
  obtain⟨ρ,d,U,Y,G,e,s,h⟩:=n;obtain⟨k,E,rfl⟩:=wZ e;obtain⟨x,O,m⟩:=dc E;unfold eQ at m
  split at m
  .cases m
   exact tCof.at O s λv F C R L W=>⟨v,x,C,rfl,by assumption,L,h _ F C R (by rw[Rp])⟩
  .cases m⟩
theorem Oz(W:Gl X "enumerate")(hm:X.mg "enumerate"=none)(L:ZE X l f)(hs:starEach [l] X.env=[(false,eval l X.env)]:=by rfl):ZI X (.Tuple elts x1 pt) (.Call (.Name "enumerate" p) [l] [] pos) (b1 f pk):=⟨have L:=L.un;
 PI.imp (xX W hm (xm L xl hs) hs) λσ H R F=>by
  obtain⟨ρ,ds,H0,G0,G,e,s,h⟩:=F;obtain⟨c,Y,h2⟩:=dc e;obtain⟨l,h3,rfl⟩:=qc h2;refine tAof.at (show Yb f ae ρ=some [c] by simp[Yb,ae,Y]) s λvs C B J Z I=>?_;obtain⟨v,rfl,E⟩:=gv Z;rcases Yz h3 with rfl|rfl|⟨ns,rfl,rfl⟩
  .obtain⟨p,xs,rfl,g,j⟩:=E
   refine⟨p,xs,rfl,.inr ⟨.inl (.inl (I.seen _ _ g)),λo=>h _ C B J ⟨by rw[jz,<-j.length];exact o,λi U O e1 e2=>⟨λd A=>?_,λt=>⟨xs,.inl (.inl (e2 _ _ (e1 _ _ g))),by rw[j.length,<-jz l];exact t⟩⟩⟩⟩⟩;obtain⟨d',k,rfl⟩:=xY A;obtain⟨x,m,u⟩:=j.get k;refine⟨⟨xs,x,.inl (.inl (e2 _ _ (e1 _ _ g))),m⟩,λy Q q=>?_⟩;obtain⟨M,S,z,n,rfl,rfl⟩:=q;have:=z xs (.inl (.inl (e2 _ _ (e1 _ _ g))));rw[m]at this;cases this;exact Gr.newTup e2 n i (u.mono e1)
  .obtain⟨p,xs,rfl,g,j⟩:=E
   refine⟨p,xs,rfl,.inl ⟨.inl (Yy I.seen g),λo=>h _ C B J ⟨by rw[jz,<-j.length];exact o,λi U O e1 e2=>⟨λd A=>?_,λt=>⟨xs,.inl (Yy e2 (Yy e1 g)),by rw[j.length,<-jz l];exact t⟩⟩⟩⟩⟩;obtain⟨d',k,rfl⟩:=xY A;obtain⟨x,m,u⟩:=j.get k;refine⟨⟨xs,x,.inl (Yy e2 (Yy e1 g)),m⟩,λy Q q=>?_⟩;obtain⟨M,S,z,n,rfl,rfl⟩:=q;have:=z xs (.inl (Yy e2 (Yy e1 g)));rw[m]at this;cases this;exact Gr.newTup e2 n i (u.mono e1)
  .obtain⟨p,rfl,g⟩:=E
   have j:RpL X.K B (ns.map D.int) (ns.map V.int):=.ints ns;refine⟨p,_,rfl,.inl ⟨I.seen.seq g,λo=>h _ C B J ⟨by rw[jz,<-j.length];exact o,λi U O e1 e2=>⟨λd A=>?_,λt=>⟨_,e2.seq (e1.seq g),by rw[j.length,<-jz];exact t⟩⟩⟩⟩⟩;obtain⟨d',k,rfl⟩:=xY A;obtain⟨x,m,u⟩:=j.get k;refine⟨⟨_,x,e2.seq (e1.seq g),m⟩,λy Q q=>?_⟩;obtain⟨M,S,z,n,rfl,rfl⟩:=q;have:=z _ (e2.seq (e1.seq g));rw[m]at this;cases this
   exact Gr.newTup e2 n i (u.mono e1)⟩
theorem OA(i:Nat){t k j:Pos}(z:ZE X e f)(hN:X.N[i]?=some x:=by rfl)(U:eG X.env.scope x:=by trivial)(W:b9 x:=by decide)(A:eZ x:=by decide)(u:swapsWith (.Call (.Attribute (.Name x t) "extend" k) [e] [] j) none pos.line X.env=pure false:=by rfl)(hs:starEach [e] X.env=[(false,eval e X.env)]:=by rfl)(q:zL X j [e]:=by rfl)(n:(k.endLine==j.line)=true:=by rfl)(m:attributeBase (.Name x t) "extend" X.env (eval (.Name x t) X.env)=eval (.Name x t) X.env:=by rfl):ZS X (.Expr (.Call (.Attribute (.Name x t) "extend" k) [e] [] j) pos) (cD i f fR):=⟨have z:=z.un;
 PS.imp (j_ (hE PySem.F.plainAttrs_list PySem.F.slot_list_extend PySem.F.type_list_extend x5 (fH hN U W A) (eJ z eI hs) m q n hs rfl) u) λF σ H y=>by
  obtain⟨ρ,out,H0,G0,G,e,s,h⟩:=y;obtain⟨l,C,e⟩:=qa e;obtain⟨d,Q,e⟩:=qa e;obtain⟨l',o,rfl⟩:=qc e;unfold fR at o
  split at o
  .split at o
   .rename_i Y
    cases o;obtain⟨a,xs,L,B,I,hG⟩:=k7 s C;refine⟨_,L,.inl ⟨rfl,xs,SqL.of B⟩,tOf.at Q s λv H1 S M R J=>?_⟩;obtain⟨b,Z,rfl,O,E⟩:=R;refine⟨a,b,xs,Z,rfl,rfl,M.h _ _ B,Yy J.seen O,?_,h σ _ S (J.mut (wU C) L ((I.mono M.g).append E))⟩;rw[I.length,E.length];exact ia Y
   .cases o
  .cases o⟩
theorem OB(g:GD X.K X.w X.mg x j)(J:Gl X x)(z:ZC X ke fk)(hs:kC ke:=by intro _ _;rfl)(Y:b9 x:=by decide):ZE X (.Subscript (.Name x px) ke pos) (b1 fk (pv j)):=⟨have z:=z.un;by
 obtain⟨p,o,es,M,hm,L,A,n,i⟩:=g;intro pins s σ H Q I ⟨ρ,d,H0,G0,G,e,sr,h⟩;obtain⟨dk,W,l⟩:=dc e;refine vH PySem.F.slot_dict_getitem.lookup hs (oG I J hm (aI (z pins s σ H (λR H'=>∃k r,R=.str k/\j.lookup k=some r/\Q (.str r) H') I (tCof.at W sr λv U O g1 F s1=>?_)) λiv s2 S=>?_) Y)
 .unfold pv at l
  split at l
  .rename_i k
   obtain⟨r,m,rfl⟩:=qc l;exact⟨k,r,F.1,m,h _ U O g1 ( ⟨rfl,lj i m⟩)⟩
  .cases l
 .obtain⟨y,Z,C,E,k,r,rfl,m,q⟩:=S
  obtain⟨t,rfl⟩:=E;have B:=C.kIn p o L;obtain⟨e',t',f1,f2⟩:=GO (P:=X.prog) i m;refine⟨⟨o,B,A.1⟩,wpAny_getItem_of (knd:=PySem.strKind X.prog X.w) (k:=k)   (by simp[PySem.strKind,Value.isStrOf]) ⟨o,es,M,B,A,n,?_,λ_=>rfl⟩ ?_ ⟨.str r,Z,C.tok _,⟨t',rfl⟩,q⟩⟩
  .intro u he
   exact GP i u (by grind)
  .show(es.find? λe=>(PySem.strKind X.prog X.w).is k e.key).map (·.val)=_
   grind⟩
theorem OC{i:Int}(g:GI X.mg x i)(j:Gl X x)(h:b9 x:=by decide):ZE X (.Name x px) (kD (.int i)):=⟨by
 obtain⟨t,d⟩:=g
 exact kR  (tR (v:=.int i) j d ⟨t,rfl⟩ h) (λ_ _ _ q=>q) λ_=>by rw[Rp]⟩
end
section
variable {X:Cx}{a b c e f':Expr}{fa fb fc f fz:AV}{pos:Pos}{st:Stmt}{K:W7}
def OD :ZS X st nS:=⟨M8 ⟩
def OE(g:X.A.units+64<cLine)(d:ZC X a fa)(hb:ZC X b fb)(hs:oU b:=by intro _ _;rfl):ZE X (.Subscript a b pos) (b2 fa fb ej):=⟨have d:=d.un;have hb:=hb.un;kU (x_ g) M9 d hb hs⟩
theorem OF(hu:X.A.units+64<cLine)(t:ZC X o fa)(B:ZC X e1 fb)(g:ZE X e2 fz)(m:M2 X o "get" n e1 e2 j):ZE X (.Call (.Attribute o "get" n) [e1,e2] [] j) (b3 fa fb fz jC):=⟨have t:=t.un;have B:=B.un;have g:=g.un;
 PE.imp (LR (by lia) t B g m) λσ H Q p=>by
  obtain⟨ρ,d,H0,G0,G,e,s,h⟩:=p;obtain⟨x,M,e⟩:=qa e;obtain⟨y,Y,e⟩:=qa e;obtain⟨z,T,e⟩:=qa e;obtain⟨ks,vs,i,ns,rfl,rfl,J,rfl⟩:=Nc e;refine tCof.at M s λv H1 G1 V I L=>?_;have q:=I;obtain⟨a,kxs,vxs,rfl,O,N,rv⟩:=q;refine⟨a,rfl,.inl ⟨_,.inl (lr J O N).1⟩,tCof.at Y L λu H2 G2 E R P=>tOf.at T P λw W U F Z s3=>?_⟩;subst R
  obtain⟨a',C,l,S,r,A,k⟩:=(I.grow (E.trans F))
  cases S;obtain⟨e1,e2,e3,e4⟩:=lr J r A;refine⟨bP ns l i,?_,h _ W U ((V.trans E).trans F) ?_⟩
  .have:=DGet.k (k:=Sum.inl i) e1
   rw[pA]at this;exact this
  .cases g:bP ns vs i with
   | none=>
     rw[(pq i k).2 g];exact Z
   | some d=>
     obtain⟨v,f1,f2⟩:=(pq i k).1 d g
     grind⟩
def zU(d:ZC X a fa)(hb:ZC X b fb):ZT X (.Compare a [.Is] [b] pos) (b2 fa fb (eD false)):=⟨have d:=d.un;have hb:=hb.un;eM ya GS d hb (d5 _)⟩
def OG(d:ZC X a fa)(hb:ZC X b fb):ZT X (.Compare a [.IsNot] [b] pos) (b2 fa fb (eD true)):=⟨have d:=d.un;have hb:=hb.un;eM yb GS d hb (d5 _)⟩
def OH(g:X.A.units+64<cLine)(d:ZC X a fa)(hb:ZC X b fb)(h:behindInMarks .NotIn b=false:=by with_unfolding_all rfl):ZT X (.Compare a [.NotIn] [b] pos) (b2 fa fb (ek true)):=⟨have d:=d.un;have hb:=hb.un;eM (yj g) Nw d hb h⟩
end
def OI(h:ZT X c f):eT X X.K [c] f:=⟨have h:=h.un;λpins s σ H Q I a=>wpAny_tests_one (h pins s σ H Q I a)⟩
def zV(h:ZW X e f):ZT X e f:=⟨PW.pt h.un⟩
end
section
section
variable {X:Cx}{e e2:Expr}{f f2:AV}{p p2 pos pos2 p3 pos3 pos4:Pos}
theorem OJ(A:X.calm=true)(hg:Gl X "sorted")(E:X.mg "sorted"=none)(k:Gl X "set")(i:X.mg "set"=none)(t:ZC X e f)(hs:starEach [e] X.env=[(false,eval e X.env)]:=by rfl)(y:starEach [.Call (.Name "set" p2) [e] [] pos2] X.env=[(false,eval (.Call (.Name "set" p2) [e] [] pos2) X.env)]:=by rfl)(g:(backTo pos2 (starEach [] X.env)).any (·.1)=false:=by rfl)(a:(backTo pos (starEach [] X.env)).any (·.1)=false:=by rfl):ZF X (.Call (.Name "sorted" p) [.Call (.Name "set" p2) [e] [] pos2] [] pos) (lC f):=⟨have t:=t.un;
 PE.imp (jm (Hc A) hg E boot_sorted (eJ (hy (yq A) k i boot_set (jv t ju hs) (by decide) (by decide) hs g) eI y) (by decide) (by decide) y a) λσ H Q b=>by
  obtain⟨ρ,l,S,T,G,e,s,h⟩:=b;obtain⟨R,I,e⟩:=qa e;obtain⟨d,N,P⟩:=dc I;refine tCAof.at (show Yb f ae ρ=some [d] by simp[Yb,ae,N]) s λvs U O B L u=>?_;obtain⟨v,rfl,J⟩:=ee L;obtain⟨q,xs,rfl,F,K⟩:=k6  P J;unfold gA at e
  split at e
  .rename_i ns n
   split at e
   .rename_i z
    cases e;cases ih n;cases ij K;refine⟨q,ns,rfl,F,z.1,λm w j C=>?_⟩;have c:=Gr.hid u.seen j (cX X.prog X.w m w);have x:=u.grow c;refine⟨m,w,rfl,Yk,by rw[C.length_eq];exact z.2,λr o=>?_⟩;rw[Hd C];refine h r _ _ O ((B.trans c).trans (.hid x.seen o _)) ((B.trans c).h.free o) (x.seen.free o) Yk (.ints _)
   .cases e
  .cases e⟩
theorem OK(B:X.calm=true)(hg:Gl X "sorted")(hm:X.mg "sorted"=none)(o:Gl X "set")(t:X.mg "set"=none)(C:ZC X e f)(g:ZC X e2 f2)(hs:starEach [e] X.env=[(false,eval e X.env)]:=by rfl)(u:starEach [e2] X.env=[(false,eval e2 X.env)]:=by rfl)(W:starEach [.BinOp (.Call (.Name "set" p2) [e] [] pos2) .BitXor (.Call (.Name "set" p3) [e2] [] pos3) pos4] X.env=[(false,eval (.BinOp (.Call (.Name "set" p2) [e] [] pos2) .BitXor (.Call (.Name "set" p3) [e2] [] pos3) pos4) X.env)]:=by rfl)(N:(backTo pos2 (starEach [] X.env)).any (·.1)=false:=by rfl)(i:(backTo pos3 (starEach [] X.env)).any (·.1)=false:=by rfl)(j:(backTo pos (starEach [] X.env)).any (·.1)=false:=by rfl):ZF X (.Call (.Name "sorted" p) [.BinOp (.Call (.Name "set" p2) [e] [] pos2) .BitXor (.Call (.Name "set" p3) [e2] [] pos3) pos4] [] pos) (yC f f2):=⟨have C:=C.un;have g:=g.un;
 PE.imp (jm (Hc B) hg hm boot_sorted (eJ (g7 op_xor (hy (yq B) o t boot_set (jv C ju hs) (by decide) (by decide) hs N) (hy (yq B) o t boot_set (jv g ju u) (by decide) (by decide) u i)) eI W) (by decide) (by decide) W j) λσ H Q T=>by
  obtain⟨ρ,l,H0,G0,G,e,s,h⟩:=T;obtain⟨l1,h1,e⟩:=qa e;obtain⟨l2,h2,e⟩:=qa e;obtain⟨d1,i1,j1⟩:=dc h1;obtain⟨d2,i2,j2⟩:=dc h2;obtain⟨a,ea,e⟩:=qa e;obtain⟨b,eb,e⟩:=qa e
  split at e
  case isFalse=>cases e
  rename_i hl;obtain⟨R,S,b3,b4,b5,b6⟩:=hl;cases e;cases ih ea;cases ih eb;refine tCAof.at (show Yb f ae ρ=some [d1] by simp[Yb,ae,i1]) s λvs H1 G1 g1 r1 U=>?_;obtain⟨v,rfl,rv⟩:=ee r1;obtain⟨q,xs,rfl,T,rl⟩:=k6  j1 rv;cases ij rl;refine⟨q,a,rfl,T,R,λm ns K hp=>?_⟩;have M:=Gr.hid U.seen K (cX X.prog X.w m ns);have s2:=U.grow M;refine tCAof.at (show Yb f2 ae ρ=some [d2] by simp[Yb,ae,i2]) s2 λvs2 H3 G3 D r3 Y=>?_;obtain⟨v2,rfl,A⟩:=ee r3;obtain⟨q2,xs2,rfl,E,I⟩:=k6  j2 A;cases ij I;refine⟨q2,b,rfl,E,S,λm2 ms n d=>?_⟩;have y:=Gr.hid Y.seen n (cX X.prog X.w m2 ms);have V:=Y.grow y;have O:=y.h _ _ (D.h _ _ Yk);refine⟨m,m2,ns,ms,rfl,rfl,O,Yk,λk hk=>?_,by rw[d.length_eq];exact b4,by rw[hp.length_eq];exact b3,λr Z hr L w=>?_⟩
  .have hk':k∈b:=by
    have:=d.mem_iff.mp hk;rw[dV]at this;grind
   grind
  have F:=Gr.hid V.seen hr (cX X.prog X.w r Z);have s5:=V.grow F
  have c:=(List.perm_ext_iff_of_nodup L (yB a b)).mpr λx=>by
   rw[w,Hl,hp.mem_iff,d.mem_iff,dV,dV];simp
  refine⟨r,Z,rfl,Yk,by rw[c.length_eq];exact b6,λz J=>?_⟩;rw[Hd c]
  exact h z _ _ G3 (((((g1.trans M).trans D).trans y).trans F).trans (.hid s5.seen J _)) (((((g1.trans M).trans D).trans y).trans F).h.free J) (s5.seen.free J) Yk (.ints _)⟩
theorem OL(hc:X.calm=true)(S:X.A.units+64<cLine)(U:Gl X "sorted")(hm:X.mg "sorted"=none)(u:Gl X "set")(z:X.mg "set"=none)(w:ZC X e f)(hs:starEach [e] X.env=[(false,eval e X.env)]:=by rfl)(L:starEach [.Call (.Name "set" p2) [e] [] pos2] X.env=[(false,eval (.Call (.Name "set" p2) [e] [] pos2) X.env)]:=by rfl)(A:(backTo pos2 (starEach [] X.env)).any (·.1)=false:=by rfl)(j:(backTo pos (starEach [] X.env)).any (·.1)=false:=by rfl):ZF X (.Call (.Name "sorted" p) [.Call (.Name "set" p2) [e] [] pos2] [] pos) (yL f):=⟨have w:=w.un;
 PE.imp (jm (N7 hc) U hm boot_sorted (eJ (hy (N6 hc S) u z boot_set (jv w ju hs) (by decide) (by decide) hs A) eI L) (by decide) (by decide) L j) λσ H Q x=>by
  obtain⟨ρ,l,H0,G0,G,e,s,h⟩:=x;obtain⟨V,W,e⟩:=qa e;obtain⟨d,h2,n⟩:=dc W;refine tCAof.at (show Yb f ae ρ=some [d] by simp[Yb,ae,h2]) s λvs H1 Z K O y=>?_;obtain⟨v,rfl,Y⟩:=ee O;unfold fT at n
  split at n
  case h_2=>cases n
  cases n;obtain⟨a,xs,rfl,R,I⟩:=Y
  obtain⟨ps,c⟩:∃ps,dA V=some ps:=by
   obtain⟨ps,P,_⟩:=qa e;exact⟨ps,P⟩
  obtain⟨F,rfl,hA⟩:=Hv y.seen c I;obtain⟨J,k2,T⟩:=N8 e c I;obtain⟨B,o2,o3⟩:=hA.once J;refine⟨a,F,ps,rfl,.inl R,hA,J,k2,λm C g N=>?_⟩;have o:=Gr.hid y.seen g (fS X.w m C);have E:=y.grow o;refine⟨m,C,bS F ps,dg ps,rfl,Yk,N,⟨B.1,λi b q hb k=>?_⟩,o2,o3,λr t=>?_⟩
  .rw[Yi (Yl (B.2 i b q hb k) g)]
   exact B.2 i b q hb k
  .refine h r _ _ Z ((K.trans o).trans (.hid E.seen t _)) ((K.trans o).h.free t) (E.seen.free t) Yk T⟩
theorem OM(a:ZE X e f)(b:swapsWith e none pos.line X.env=pure false:=by rfl):ZS X (.Expr e pos) (ix f):=⟨have a:=a.un;PS.imp (j_ a b) λF σ H c=>by
 obtain⟨ρ,out,m,o,G,e,s,h⟩:=c;obtain⟨d,i,rfl⟩:=qc e
 exact tOf.at i s λv k g n l j=>h σ k g j⟩
end
end
section
variable {K:W7}
def wo(H:Hp)(p:Addr):Hp:=λa=>if a=p then none else H a
def zW(K:W7)(j:Nat)(x:Option (Option V))(b a:Hp)(F:c8):Out->Prop
 | .nx ρ'=>∀σ' H' G',SR K b a σ' H' G' ρ'->σ'[j]?=x->F.nx σ' H'
 | .rt _=>False
 | .bk ρ'=>∀σ' H' G',SR K b a σ' H' G' ρ'->σ'[j]?=x->F.bk σ' H'
 | .ct ρ'=>∀σ' H' G',SR K b a σ' H' G' ρ'->σ'[j]?=x->F.ct σ' H'
def lQ(K:W7)(j:Nat)(f:AS):TS:=λF σ H=>∃ρ out b a G,f ρ=some out/\SR K b a σ H G ρ/\zW K j σ[j]? b a F out
structure KS(j:Nat)(X:Cx)(st:Stmt)(f:AS):Prop where
 un:PS X st (lQ X.K j f)
structure KB(j:Nat)(X:Cx)(sts:List Stmt)(f:AS):Prop where
 un:PSs X sts (lQ X.K j f)
def zX(K:W7)(j r:Nat)(fb:AS):TS:=λF σ H=>∃ρ ρ' l d b a G,fb ρ=some (.nx ρ')/\cV j ρ'=some l/\ab r (frz [r] ρ')=some d/\SR K b a σ H G ρ/\
 ∀v σ' H' G',SR K b a σ' H' G' (frz [r] ρ')->σ'[j]?=σ[j]?->Rp K G' d v->F.rt v H'
structure KR(j r:Nat)(X:Cx)(sts:List Stmt)(f:AS):Prop where
 un:PSs X sts (zX X.K j r f)
def zY(K:W7)(c:AW)(fb:AS):TS:=λF σ H=>∃ρ ρ' l a b G,fb ρ=some (.nx ρ')/\c ρ'=some l/\SR K a b σ H G ρ/\
 ∀p xs H' G',Gr a b H' G'->a p=none->G' p=none->H' p=some (.lst xs)->RpL K G' l xs->F.rt (.ref p) H'
structure KL(gl:AW)(X:Cx)(sts:List Stmt)(f:AS):Prop where
 un:PSs X sts (zY X.K gl f)
def el{us:AD}(h:us.length=1):∃a,us=[a]:=List.length_eq_one_iff.mp h
theorem dB{us:AD}(h:us.length=2):∃c b,us=[c,b]:=by
 cases us with
 | nil=>cases h
 | cons a us=>
   obtain⟨d,rfl⟩:=el (Nat.succ.inj h);grind
theorem dC{us:AD}(h:us.length=3):∃c b d,us=[c,b,d]:=by
 cases us with
 | nil=>cases h
 | cons a us=>
   obtain⟨e,b1,rfl⟩:=dB (Nat.succ.inj h);grind
theorem fU{us:AD}(h:us.length=4):∃c b e d,us=[c,b,e,d]:=by
 cases us with
 | nil=>cases h
 | cons a us=>
   obtain⟨f,b1,b2,rfl⟩:=dC (Nat.succ.inj h);grind
theorem fV{us:AD}(h:us.length=5):∃c e f d b,us=[c,e,f,d,b]:=by
 cases us with
 | nil=>cases h
 | cons a us=>
   obtain⟨g,b1,b2,b3,rfl⟩:=fU (Nat.succ.inj h);grind
theorem eU{us:AD}(h:us.length=6):∃e d g f b c,us=[e,d,g,f,b,c]:=by
 cases us with
 | nil=>cases h
 | cons a us=>
   obtain⟨j,b1,b2,b3,i,rfl⟩:=fV (Nat.succ.inj h);grind
theorem lR{us:AD}(h:us.length=7):∃c g i f b e d,us=[c,g,i,f,b,e,d]:=by
 cases us with
 | nil=>cases h
 | cons a us=>
   obtain⟨l,b1,b2,b3,k,j,rfl⟩:=eU (Nat.succ.inj h);grind
end
end M
namespace M
open PySem L2
def nr{c:Sort _}{a b:c}(h:a=b):a=b:=h
section
variable {ρ:Ro}
@[simp] theorem iy(a fb:AV)(g:D->D->Option b):b2 a fb g ρ=(a ρ).bind λx=>(fb ρ).bind λy=>g x y:=nr rfl
@[simp] theorem Hy(a:AV)(g:D->Option b):b1 a g ρ=(a ρ).bind g:=nr rfl
@[simp] theorem Hz(d:D):kD d ρ=some d:=nr rfl
@[simp] theorem HA(f:AU):mB f ρ=(f ρ).map D.bl:=nr rfl
@[simp] theorem pP(f g:AU):bA f g ρ=(f ρ).bind λk=>if k=true then g ρ else some false:=nr rfl
@[simp] theorem zZ(f g:AU):eB f g ρ=(f ρ).bind λk=>if k=true then some true else g ρ:=nr rfl
@[simp] theorem pQ(f:AU):cK f ρ=(f ρ).map (!·):=nr rfl
@[simp] theorem pR(f g:AV):cq f g ρ=((f ρ).bind fM).bind λk=>if k=true then g ρ else some (.bl false):=nr rfl
@[simp] theorem z0(f g:AV):k1 f g ρ=((f ρ).bind fM).bind λk=>if k=true then some (.bl true)else g ρ:=nr rfl
@[simp] theorem pS(f:AV):ec f ρ=((f ρ).bind fM).map λk=>.bl (!k):=nr rfl
@[simp] theorem z1(c:AU)(f g:AV):k3 c f g ρ=(c ρ).bind λk=>if k=true then f ρ else g ρ:=nr rfl
@[simp] theorem HB(f:AW):lF f ρ=(f ρ).map D.lst:=nr rfl
@[simp] theorem pT:ae ρ=some []:=nr rfl
@[simp] theorem lS(f:AV)(g:AW):Yb f g ρ=(f ρ).bind λd=>(g ρ).map (d::·):=nr rfl
@[simp] theorem pU(f:AW):aG f ρ=(f ρ).bind λl=>if l.length<=a_ then some (.tup l)else none:=nr rfl
@[simp] theorem pV(f:AW):bc f ρ=(f ρ).bind λl=>if l.length<=a_ then some l else none:=nr rfl
@[simp] theorem HC(f:AW)(g:AQ->Option D):cC f g ρ=(f ρ).bind g:=nr rfl
@[simp] theorem HE(f:AW)(g:AQ->Option AQ):cF f g ρ=(f ρ).bind g:=nr rfl
@[simp] theorem z3(f:AV)(a b:Option AV):h_ f a b ρ=((f ρ).bind eP).bind λl=>(dS a ρ).bind λi=>(dS b ρ).bind λj=>some (dy l i j):=nr rfl
@[simp] theorem pW:dS none ρ=some none:=nr rfl
@[simp] theorem pX(f:AV):dS (some f) ρ=((f ρ).bind fN).map some:=nr rfl
@[simp] theorem pY:av ρ=some (.nx ρ):=nr rfl
@[simp] theorem pZ(i:Nat)(f:AV):az i f ρ=(f ρ).map λd=>.nx (ρ.set i (↑d)):=nr rfl
@[simp] theorem p_(i:Nat)(f:AW):aO i f ρ=(f ρ).map λl=>.nx (ρ.set i (some (.ow l))):=nr rfl
@[simp] theorem HF(f:AV):ag f ρ=(f ρ).map .rt:=nr rfl
@[simp] theorem z4(c:AU)(f g:AS):aX c f g ρ=(c ρ).bind λk=>if k=true then f ρ else g ρ:=nr rfl
@[simp] theorem qb(i:Nat)(f:AV)(g:AQ->D->Option AQ):cD i f g ρ=(cV i ρ).bind λl=>(f ρ).bind λd=>(g l d).map λa=>.nx (ρ.set i (some (.ow a))):=nr rfl
@[simp] theorem qq(a:AW)(gt:AT)(fb:AS):bY a gt fb ρ=(a ρ).bind λds=>forM gt fb ds ρ:=nr rfl
@[simp] theorem lT(a:AW)(src:List AM)(gt:AT)(fc:AU)(fe:AV):Yr a src gt fc fe ρ=(a ρ).bind λds=>dN gt fc fe (ai src ρ) ds:=nr rfl
@[simp] theorem HG(a:AF)(f:AS):wF a f ρ=f (frz a ρ):=nr rfl
def iz(g:AS):Out->Option Out
 | .nx ρ'=>g ρ'
 | o=>some o
@[simp] theorem lU(g:AS)(ρ':Ro):iz g (.nx ρ')=g ρ':=nr rfl
@[simp] theorem lV(g:AS)(d:D):iz g (.rt d)=some (.rt d):=nr rfl
@[simp] theorem qs(f g:AS):af f g ρ=(f ρ).bind (iz g):=nr rfl
def endB:Out->Option D
 | .rt d=>some d
 | .nx _=>some .non
 | _=>none
@[simp] theorem qA(d:D):endB (.rt d)=some d:=nr rfl
@[simp] theorem qC(ρ:Ro):endB (.nx ρ)=some .non:=nr rfl
def Yg(h:ds.length=k):ao k n fb ds=(fb (Yd n ds)).bind endB:=by
 unfold ao;rw[if_pos h];rfl
@[simp] theorem qD:frz [] ρ=ρ:=nr rfl
@[simp] theorem lW(i:Nat)(a:AF):frz (i::a) ρ=frz a (frz1 i ρ):=nr rfl
end
@[simp] theorem lX(i j:Int):bX (.int i) (.int j)=some (.int (i+j)):=nr rfl
@[simp] theorem lY(i j:Int):eN (.int i) (.int j)=some (.int (i-j)):=nr rfl
def ON(h:-(2^64)<i/\i<2^64):eO (.int i) (.int j)=some (.int (i*j)):=by
 simp only[eO,i2];rw[if_pos];simp only[Bool.or_eq_true,Qe,wh];exact .inl h
@[simp] theorem OO(h:0<j)(h':j<1073741824):bF (.int i) (.int j)=some (.int (i/j)):=by
 simp only[bF,i2];rw[if_pos];simp  [wh];exact⟨h,h'⟩
@[simp] theorem jE(h:0<j):aN (.int i) (.int j)=some (.int (i%j)):=by
 simp only[aN,i2];rw[if_pos];simp  [wh];exact h
@[simp] theorem qE(i j:Int):fg (.int i) (.int j)=some (decide (i<j)):=nr rfl
@[simp] theorem qF(i j:Int):fi (.int i) (.int j)=some (decide (j<i)):=nr rfl
@[simp] theorem qG(i j:Int):pf (.int i) (.int j)=some (decide (j<=i)):=nr rfl
@[simp] theorem z5(b:Bool):fM (.bl b)=some b:=nr rfl
@[simp] theorem qH(b:Bool):a6 (.bl b)=some b:=nr rfl
@[simp] theorem gF(l:AQ):Yc (.tup l)=some l:=nr rfl
@[simp] theorem gG(l:AQ):Yc (.lst l)=some l:=nr rfl
@[simp] theorem gH(ns:AG):Yc (.scr ns)=some (ns.map D.int):=nr rfl
@[simp] theorem lZ(c:D):aH [c]=(Yc c).map λl=>.int l.length:=nr rfl
@[simp] theorem l0(c:D):aV [c]=(Yc c).map D.tup:=nr rfl
@[simp] theorem jF(c:D):eC [c]=Yc c:=nr rfl
@[simp] theorem qI(b:Bool):fO [.bl b]=some (.int (if b then 1 else 0)):=nr rfl
@[simp] theorem HH(c:D)(i:Int):ak c (.int i)=(Yc c).bind λl=>bf l i:=nr rfl
@[simp] theorem l3(l:AQ):eP (.lst l)=some l:=nr rfl
@[simp] theorem l4(ns:AG):eP (.scr ns)=some (ns.map D.int):=nr rfl
@[simp] theorem l5(i:Int):fN (.int i)=some i:=nr rfl
@[simp] theorem l6(i:Int):fP (.int i)=some (.int (-i)):=nr rfl
@[simp] theorem z6(i j:Int):bE (.int i) (.int j)=(i==j):=by simp[bE,aF,PyData.eqv]
@[simp] theorem z7(i j:Bool):bE (.bl i) (.bl j)=(i==j):=by simp[bE,aF,PyData.eqv]
@[simp] theorem z_(i j:Str):bE (.str i) (.str j)=(i==j):=by simp[bE,aF,PyData.eqv]
@[simp] theorem Aa(l m:AQ):bE (.tup l) (.tup m)=dw l m:=by simp[bE,dw,aF,PyData.eqv]
@[simp] theorem qJ(l m:AQ):bE (.lst l) (.lst m)=dw l m:=by simp[bE,dw,aF,PyData.eqv]
@[simp] theorem qK:dw [] []=true:=by simp[dw,cS,PyData.eqvAll]
@[simp] theorem HI(a b:D)(l m:AQ):dw (a::l) (b::m)=(bE a b&&dw l m):=by simp[dw,bE,cS,PyData.eqvAll]
@[simp] theorem Ab(b:D)(m:AQ):dw [] (b::m)=false:=by simp[dw,cS,PyData.eqvAll]
@[simp] theorem Ac(b:D)(m:AQ):dw (b::m) []=false:=by simp[dw,cS,PyData.eqvAll]
@[simp] theorem qL(i:Int):bb (.int i)=0:=by simp[bb]
@[simp] theorem Ad(i:Bool):bb (.bl i)=0:=by simp[bb]
@[simp] theorem qM(i:Str):bb (.str i)=0:=by simp[bb]
@[simp] theorem qN:bb .non=0:=by simp[bb]
@[simp] theorem qO(l:AQ):bb (.tup l)=a9 l+1:=by simp[bb]
@[simp] theorem qP(l:AQ):bb (.lst l)=a9 l+1:=by simp[bb]
@[simp] theorem l7:a9 []=0:=by simp[a9]
@[simp] theorem jG(d:D)(l:AQ):a9 (d::l)=max (bb d) (a9 l):=by simp[a9]
theorem d7(h:bb d<=60)(h':bb e<=60):au a d e=some (if a then !bE d e else bE d e):=by
 unfold au;grind
theorem Ae(b:Yc c=some l)(h:bb d<=60)(h':a9 l<=60):cJ a d c=some (if a then !fL d l else fL d l):=by
 unfold cJ;grind
theorem qQ{d:Type}(enc:d->D)(p:d->Bool)(f:d->D):∀(l:List d),(∀a∈l,∃c,gt (enc a) ρ=some c/\fc c=some (p a)/\(p a=true->fe c=some (f a)))->
 dN gt fc fe ρ (l.map enc)=some ((l.filter p).map f)
 | [],_=>rfl
 | a::l,h=>by
   obtain⟨c,e,i,g⟩:=h a qh;have j:=qQ enc p f l λb hb=>h b (qg _ hb);rw[Qd,dN,e,qd];grind
@[simp] theorem l8(a:b)(l:List b):bf (a::l) 0=some a:=by
 have:=oT (xs:=a::l) (j:=0)  rfl;simpa using this
@[simp] theorem qR(a b:c)(l:List c):bf (a::b::l) 1=some b:=by
 have:=oT (xs:=a::b::l) (j:=1)  rfl;simpa using this
def Af{j:Nat}(a:i=(j:Int))(h:l[j]?=some v):bf l i=some v:=by
 subst a;exact oT h
theorem d8{g:Type}(enc:g->D)(I:List g->Ro->Prop):∀(l c:List g) (ρ:Ro),I c ρ->
 (∀q a r ρ,c++l=q++a::r->I q ρ->∃f d,gt (enc a) ρ=some f/\fb f=some (.nx d)/\I (q++[a]) d)->∃ρ',M.forM gt fb (l.map enc) ρ=some (.nx ρ')/\I (c++l) ρ'
 | [],c,ρ,h0,_=>⟨ρ,rfl,by grind⟩
 | a::l,c,ρ,h0,hs=>by
   obtain⟨f,d,e1,e2,j⟩:=hs c a l ρ rfl h0;obtain⟨ρ',h,k⟩:=d8 enc I l (c++[a]) d j λq b r ρ e i=>hs q b r ρ (by grind) i;refine⟨ρ',?_,by grind⟩;rw[Qd,M.forM,e1,qd,e2];exact h
def fv(a n:Int):cL a n=(List.range (n-a).toNat).map λi=>D.int (a+(i:Nat)):=rfl
theorem l9(h:-1000000<=n)(h':n<=1000000):cM [.int n]=some (cL 0 n):=by
 have a:a_=1000000:=by decide
 simp only[cM];rw[if_pos];simp only[Qe];lia
theorem l_(h:-1000000<=n)(h':n<=1000000)(d:-1000000<=a)(c:a<=1000000):cW [.int a,.int n]=some (cL a n):=by
 have b:a_=1000000:=by decide
 simp only[cW];grind
theorem Ag(h0:0<=i)(h:i<(l.length:Int)):∃v,v∈l/\bf l i=some v:=by
 have a:i.toNat<l.length:=by lia
 exact⟨l[i.toNat],List.getElem_mem a,Af  (by lia) (qr a)⟩
def fx{i:Nat}(h:i<l.length):bf l (i:Int)=some l[i]:=oT (qr h)
theorem er(f:a->b)(l:List a)(i:Int):bf (l.map f) i=(bf l i).map f:=by
 unfold bf;rw[qf]
 cases hB l.length i with
 | none=>rfl
 | some j=>
   grind
@[simp] theorem iA(x b:Nat):((x:Int)=(b:Int))↔x=b:=by lia
@[simp] theorem qS(a:Bool)(i j:Int):au a (.int i) (.int j)=some (if a then !decide (i=j)else decide (i=j)):=by
 rfl
@[simp] theorem Ah(a:Bool)(i j:Bool):au a (.bl i) (.bl j)=some (if a then !(i==j)else i==j):=by
 rw[d7 (by simp) (by simp),z7]
@[simp] theorem qT(a:Bool):cb a .non .non=some (if a then false else true):=by cases a<;>rfl
@[simp] theorem qU(a:Bool)(i:Int):cb a (.int i) .non=some (if a then true else false):=by cases a<;>rfl
@[simp] theorem Ai(a:Bool)(l:Bool):cb a (.bl l) .non=some (if a then true else false):=by cases a<;>rfl
@[simp] theorem fW{b:Type}(f:b->Bool):∀l:List b,ba (l.map λa=>.bl (f a))=some (l.map f)
 | []=>rfl
 | a::l=>by rw[Qd,ba,fW f l];rfl
@[simp] theorem qV{b:Type}(f:b->Int):∀l:List b,b0 (l.map λa=>.int (f a))=some (l.map f)
 | []=>rfl
 | a::l=>by rw[Qd,b0,qV f l];rfl
@[simp] theorem OP(l:AG):b0 (l.map D.int)=some l:=by simpa using qV id l
@[simp] theorem ma(l:AQ):dd [.lst l]=(ba l).map λa=>.bl (a.any id):=nr rfl
@[simp] theorem md(l:AQ):bB [.lst l]=(ba l).map λa=>.bl (a.all id):=nr rfl
@[simp] theorem mf(l:AQ):fQ [.lst l]=(b0 l).map λns=>.int ns.sum:=nr rfl
@[simp] theorem mh(c:D):pk c=(Yc c).map fm:=nr rfl
@[simp] theorem HJ:a_=1000000:=nr rfl
@[simp] theorem WC(d:D)(r:Ro):ab 0 (some (.sh d)::r)=some d:=nr rfl
@[simp] theorem Aj(d:D)(r:Ro):aa 0 (some (.sh d)::r)=some d:=nr rfl
@[simp] theorem OQ(l:AQ)(r:Ro):aa 0 (some (.ow l)::r)=some (.lst l):=nr rfl
@[simp] theorem WD(l:AQ)(r:Ro):cV 0 (some (.ow l)::r)=some l:=nr rfl
@[simp] theorem WE(n:Nat)(b:AR)(r:Ro):ab (n+1) (b::r)=ab n r:=by simp[ab]
@[simp] theorem Ak(n:Nat)(b:AR)(r:Ro):aa (n+1) (b::r)=aa n r:=by simp[aa]
@[simp] theorem WG(n:Nat)(b:AR)(r:Ro):cV (n+1) (b::r)=cV n r:=by simp[cV]
@[simp] theorem HK(l:AQ)(r:Ro):frz1 0 (some (.ow l)::r)=some (.sh (.lst l))::r:=nr rfl
@[simp] theorem HL(d:D)(r:Ro):frz1 0 (some (.sh d)::r)=some (.sh d)::r:=nr rfl
@[simp] theorem HM(n:Nat)(b:AR)(r:Ro):frz1 (n+1) (b::r)=b::frz1 n r:=by
 unfold frz1;rw[List.getElem?_cons_succ]
 cases h:r[n]? with
 | none=>rfl
 | some o=>
   cases o with
   | none=>rfl
   | some b=>cases b<;>rfl
def iB(h:a.length+b.length<=1000000):bO (.lst a) (.lst b)=some (a++b):=if_pos h
def iC(h:l.length<1000000):bu l d=some (l++[d]):=if_pos h
def bG{r:Ro}{b:Type}{enc:b->D}(f:b->D){l:List b}(h:∀a∈l,fe (some (.sh (enc a))::r)=some (f a)):dN (ah 0) tY fe (none::r) (l.map enc)=some (l.map f):=by
 have:=qQ (gt:=ah 0) (fc:=tY)  (ρ:=none::r) enc (λ_=>true) f l λa c=>⟨_,rfl,rfl,λ_=>h a c⟩
 rw[List.filter_eq_self.mpr (λ_ _=>rfl)]at this;exact this
def dh{r:Ro}{b:Type}{enc:b->D}(p:b->Bool)(f:b->D){l:List b}(e:∀a∈l,fc (some (.sh (enc a))::r)=some (p a))(d:∀a∈l,p a=true->fe (some (.sh (enc a))::r)=some (f a)):
 dN (ah 0) fc fe (none::r) (l.map enc)=some ((l.filter p).map f):=
 qQ  enc p f l λa c=>⟨_,rfl,e a c,d a c⟩
def Al{fc:AU}{fe:AV}{r:Ro}{b:Type}{e1 e2:b->D}(p:b->Bool)(f:b->D){l:List b}(e:∀a∈l,fc (some (.sh (e1 a))::some (.sh (e2 a))::r)=some (p a))(d:∀a∈l,p a=true->fe (some (.sh (e1 a))::some (.sh (e2 a))::r)=some (f a)):
 dN (fj 0 1) fc fe (none::none::r) (l.map λa=>.tup [e1 a,e2 a])=some ((l.filter p).map f):=
 qQ  (λa=>.tup [e1 a,e2 a]) p f l λa c=>⟨_,rfl,e a c,d a c⟩
def HN{a:Type}(enc:a->D)(d:a)(l:List a):fm (l.map enc)=(List.range l.length).map λi=>.tup [.int i,enc (l.getD i d)]:=by
 unfold fm;rw[qf];refine Qq λi b=>?_;simp[(Qb b)]
end M
namespace Bk
open PySem L2 M
abbrev cv:=Nat×Bool
abbrev AY:=List cv
abbrev AX:=List AY
inductive Kd where
 | e|s|i|n
 deriving DecidableEq
inductive Rl where
 | ei (l:AY)
 | su (b:AF) (o:Bool)
 | im (b:AF) (h:AM)
 deriving DecidableEq
def kS:Kd->Str
 | .e=>Str.ofString "eithers"
 | .s=>Str.ofString "sums"
 | .i=>Str.ofString "ifs"
 | .n=>Str.ofString "nots"
def br(k:Kd):D:=.str (kS k)
abbrev nD(n:Nat):D:=.int n
def aj(s:cv):D:=.tup [.int s.1,.bl s.2]
def ax:AM->D
 | none=>.non
 | some n=>.int n
def aE:Rl->D
 | .ei l=>.tup (l.map aj)
 | .su b o=>.tup [.tup (b.map nD),.bl o]
 | .im b h=>.tup [.tup (b.map nD),ax h]
def Yj(k:Kd)(R:List Rl):D:=.tup [br k,.tup (R.map aE)]
@[simp] theorem Am(k:Kd):bb (br k)=0:=by simp[br]
@[simp] theorem qW(s:cv):bb (aj s)=1:=by simp[aj]
@[simp] theorem qX(h:AM):bb (ax h)=0:=by cases h<;>simp[ax]
theorem An:∀{k j:Kd},kS k=kS j->k=j:=by
 intro k j
 cases k<;>cases j<;>first|grind|(intro h;exact absurd h (by decide +kernel))
@[simp] theorem Ao(k j:Kd):bE (br k) (br j)=decide (k=j):=by
 rw[br,br];by_cases h:k=j
 .simp[h]
 .have h':¬kS k=kS j:=λe=>h (An e)
  simp[h,h']
theorem qY(a:Bool)(k j:Kd):au a (br k) (br j)=some (if a then !decide (k=j)else decide (k=j)):=by
 rw[d7 (by simp) (by simp),Ao]
@[simp] theorem HP(a:Bool)(k:Kd):au a (br k) (.str (Str.ofString "eithers"))=some (if a then !decide (k=.e)else decide (k=.e)):=qY a k .e
@[simp] theorem HQ(a:Bool)(k:Kd):au a (br k) (.str (Str.ofString "sums"))=some (if a then !decide (k=.s)else decide (k=.s)):=qY a k .s
@[simp] theorem HR(a:Bool)(k:Kd):au a (br k) (.str (Str.ofString "ifs"))=some (if a then !decide (k=.i)else decide (k=.i)):=qY a k .i
@[simp] theorem HU(a:Bool)(k:Kd):au a (br k) (.str (Str.ofString "nots"))=some (if a then !decide (k=.n)else decide (k=.n)):=qY a k .n
@[simp] theorem jH(a b:Nat):bE (nD a) (nD b)=decide (a=b):=by
 rw[z6];grind
@[simp] theorem Ap(s t:cv):bE (aj s) (aj t)=decide (s=t):=by
 obtain⟨a,p⟩:=s;obtain⟨b,q⟩:=t;have:=jH a b;simp  [aj,this,z7];by_cases d:a=b<;>by_cases c:p=q<;>simp[c]
theorem qZ{c:Type}[DecidableEq c]{enc:c->D}(e:∀a b,bE (enc a) (enc b)=decide (a=b))(s:c):∀l:List c,fL (enc s) (l.map enc)=decide (s∈l)
 | []=>by simp[fL]
 | t::l=>by
   have d:=qZ e s l;unfold fL at d ⊢;grind
theorem q0:∀{l:AQ},(∀d∈l,bb d<=n)->a9 l<=n
 | [],_=>by simp
 | d::l,h=>Nat.max_le.mpr ⟨h d qh,q0 λe a=>h e (qg _ a)⟩
theorem q4{c:Type}[DecidableEq c]{enc:c->D}(d:∀a b,bE (enc a) (enc b)=decide (a=b)):∀l m:List c,dw (l.map enc) (m.map enc)=decide (l=m)
 | [],[]=>by simp
 | [],b::m=>by simp
 | a::l,[]=>by simp
 | a::l,b::m=>by
   rw[Qd,Qd,HI,d,q4 d l m];by_cases e:a=b<;>by_cases f:l=m<;>simp[e]
def iD{b:Type}{enc:b->D}{n:Nat}(h:∀a,bb (enc a)<=n)(l:List b):a9 (l.map enc)<=n:=q0 λd c=>by
 obtain⟨x,_,rfl⟩:=qy c;exact h x
theorem Aq(s:cv)(l:AY)(a:Bool)(e:Yc c=some (l.map aj)):cJ a (aj s) c=some (if a then !decide (s∈l)else decide (s∈l)):=by
 rw[Ae e (by simp) (q0 λd b=>by obtain⟨x,_,rfl⟩:=qy b;simp),qZ Ap];grind
theorem cw(s:Nat)(l:AF)(a:Bool)(e:Yc c=some (l.map nD)):cJ a (nD s) c=some (if a then !decide (s∈l)else decide (s∈l)):=by
 rw[Ae e (by simp) (q0 λd b=>by obtain⟨x,_,rfl⟩:=qy b;simp),qZ jH]
@[simp] theorem Ar(s:cv):(Yc (aj s)).bind (λl=>bf l 0)=some (.int s.1):=by simp[aj]
@[simp] theorem q5(s:cv):(Yc (aj s)).bind (λl=>bf l 1)=some (.bl s.2):=by simp[aj]
@[simp] theorem mi(l:AY):Yc (aE (.ei l))=some (l.map aj):=nr rfl
@[simp] theorem mj(b:AF)(o:Bool):Yc (aE (.su b o))=some [.tup (b.map nD),.bl o]:=nr rfl
@[simp] theorem ml(b:AF)(h:AM):Yc (aE (.im b h))=some [.tup (b.map nD),ax h]:=nr rfl
@[simp] theorem iE(k:Kd)(R:List Rl):Yc (Yj k R)=some [br k,.tup (R.map aE)]:=nr rfl
def aB(ev:AH)(n:Nat):Bool:=ev.getD n false
def dD{ev:AH}(h:n<ev.length):bf (ev.map D.bl) (n:Int)=some (.bl (aB ev n)):=by
 rw[er,fx h];simp[aB,h]
def In(k:Kd)(n:Nat):Rl->Prop
 | .ei l=>k=.e/\∀s∈l,s.1<n
 | .su b _=>k=.s/\∀x∈b,x<n
 | .im b h=>(k=.i\/k=.n)/\(∀x∈b,x<n)/\∀x,h=some x->x<n
def As(s t:cv):Prop:=s.1<t.1\/(s.1=t.1/\s.2=false/\t.2=true)
def fy:Rl->Prop
 | .ei l=>l.length<=2/\l.Pairwise As
 | .su b _=>b.Pairwise (·<·)
 | .im b _=>b.Pairwise (·<·)
def hd(ev:AH)(w:Bool):AM->Bool
 | none=>false
 | some x=>aB ev x==w
def fX(R:List Rl)(i:Nat):Rl:=R.getD i (.ei [])
def HV{R:List Rl}{i:Nat}(h:i<R.length):fX R i∈R:=by simp[fX,h]
def Au(R:List Rl):fm (R.map aE)=(List.range R.length).map λi:Nat=>.tup [.int (i:Int),aE (fX R i)]:=HN aE (.ei []) R
def so(k:Kd)(ev:AH):Rl->Bool
 | .ei l=>l.any λs=>aB ev s.1==s.2
 | .su b o=>decide ((b.filter (aB ev)).length%2=1)==o
 | .im b h=>(b.any λx=>aB ev x != decide (k=.i))||hd ev (decide (k=.i)) h
end Bk
namespace Bk
def brk(k:Kd)(ev:AH)(R:List Rl):AF:=(List.range R.length).filter λi=>!so k ev (fX R i)
end Bk
namespace Bk
open PySem L2 M
def wo(b:Nat)(l:AF):AF:=l.filter λx=>!decide (x=b)
def iF(b:Nat)(l:AY):AY:=l.filter λs=>!decide (s.1=b)
def OR(k:Kd)(R:List Rl):D.tup [br k,.tup (R.map aE)]=Yj k R:=rfl
def HX(l:AY):D.tup (l.map aj)=aE (.ei l):=rfl
def HY(l:AF)(h:AM):D.tup [.tup (l.map nD),ax h]=aE (.im l h):=rfl
def OS(l:AF):D.tup [.tup (l.map nD),.non]=aE (.im l none):=rfl
def cA(k:Kd)(b:Nat)(lit:Bool):Rl->Option Rl
 | .ei l=>if (b,lit)∈l then none else some (.ei (iF b l))
 | .su l o=>if b∈l then (if wo b l=[]/\o=lit then none else some (.su (wo b l) (o != lit)))else some (.su l o)
 | .im l h=>if (h=some b/\lit=decide (k=.i))\/(b∈l/\¬lit=decide (k=.i))then none else some (.im (wo b l) (if h=some b then none else h))
def bC:Option Rl->D
 | none=>.non
 | some r=>aE r
@[simp] theorem Av(a:Bool)(r:Rl):cb a (aE r) .non=some (if a then true else false):=by cases r<;>cases a<;>rfl
@[simp] theorem q_(a:Bool)(h:AM)(b:Nat):au a (ax h) (.int (b:Int))=some (if a then !decide (h=some b)else decide (h=some b)):=by
 cases h with
 | none=>
   rw[d7 (by simp) (by simp)]
   have:bE (ax none) (.int b)=false:=by simp[ax,bE,aF,PyData.eqv]
   rw[this];simp
 | some x=>
   show au a (.int x) (.int b)=_;simp
theorem iG:∀Q:List (Option Rl),((Q.filter λo=>o.isSome).map bC)=(Q.filterMap id).map aE
 | []=>rfl
 | none::Q=>by
   have:=iG Q;simpa using this
 | some r::Q=>by
   have:=iG Q;simp[this,bC]
def sz:Rl->Nat
 | .ei l=>l.length
 | .su b _=>b.length
 | .im b _=>b.length
theorem HZ{n:Nat}:∀{l:AF}{a:Nat},l.Pairwise (·<·)->(∀x∈l,a<=x/\x<n)->l.length<=n-a
 | [],_,_,_=>Qh _
 | x::l,a,h,d=>by
   have e:=d x qh;have c:=List.pairwise_cons.mp h
   have f:=HZ    c.2 λy b=>⟨c.1 y b,(d y (qg _ b)).2⟩
   rw[qt];lia
def mm{n:Nat}{l:AF}(h:l.Pairwise (·<·))(a:∀x∈l,x<n):l.length<=n:=HZ  h λx b=>⟨Qh _,a x b⟩
end Bk
namespace Bk
def cT:Rl->AF
 | .ei l=>l.map (·.1)
 | .su b _=>b
 | .im b none=>b
 | .im b (some x)=>b++[x]
def Aw{b:Nat}{l:AF}(h:b∉l):wo b l=l:=List.filter_eq_self.mpr λx a=>by
 have:¬x=b:=λe=>h (e ▸ a);simp[this]
theorem OT{k:Kd}{b:Nat}{lit:Bool}{r:Rl}(h:b∉cT r):cA k b lit r=some r:=by
 cases r with
 | ei l=>
   have a:(b,lit)∉l:=λe=>h (List.mem_map.mpr ⟨(b,lit),e,rfl⟩)
   have c:iF b l=l:=List.filter_eq_self.mpr λs hs=>by
    have:¬s.1=b:=λe=>h (List.mem_map.mpr ⟨s,hs,e⟩);simp[this]
   simp[cA,a,c]
 | su l o=>simp[cA,show b∉l from h]
 | im l o=>
   cases o with
   | none=>
     have a:b∉l:=h;simp[cA,a,Aw a]
   | some x=>
     have a:b∉l:=λe=>h (by simp[cT,e]);have c:¬x=b:=λe=>h (by simp[cT,e]);simp[cA,a,c,Aw a]
end Bk
namespace Bk
open PySem L2 M
def mem_wo{b x:Nat}{l:AF}:x∈wo b l↔x∈l/\x≠b:=by simp[wo]
def mem_woS{b:Nat}{s:cv}{l:AY}:s∈iF b l↔s∈l/\s.1≠b:=by simp[iF]
def mn{k:Kd}{n:Nat}{r:Rl}(h:In k n r):∀x∈cT r,x<n:=by
 cases r with
 | ei l=>
   intro x a;obtain⟨s,hs,rfl⟩:=qy a;exact h.2 s hs
 | su b o=>exact h.2
 | im b o=>
   intro x a
   cases o with
   | none=>exact h.2.1 x a
   | some y=>
     rcases qw a with a|a
     .exact h.2.1 x a
     .rw[List.mem_singleton.mp a];exact h.2.2 y rfl
theorem mq{b:Nat}{ev:AH}:∀{l:AF},l.Pairwise (·<·)->b∈l->(l.filter (aB ev)).length=((wo b l).filter (aB ev)).length+if aB ev b=true then 1 else 0
 | [],_,h=>by cases h
 | a::l,i,h=>by
   have d:=List.pairwise_cons.mp i;by_cases e:a=b
   .subst e
    have g:wo a (a::l)=l:=by
     have:=Aw (λf=>Nat.lt_irrefl _ (d.1 a f));simpa [wo]using this
    rw[g];cases c:aB ev a<;>simp[c]
   .have f:b∈l:=by
     rcases qu h with z|z
     .exact absurd z.symm e
     .exact z
    have g:wo b (a::l)=a::wo b l:=by simp[wo,e]
    rw[g];cases c:aB ev a<;>simp[c,(mq (ev:=ev) d.2 f)];lia
theorem OU{k:Kd}{n:Nat}{ev:AH}{b:Nat}{r q:Rl}(i:In k n r)(hs:fy r)(h:cA k b (aB ev b) r=some q):
 so k ev q=so k ev r/\(∀x∈cT q,x∈cT r/\x≠b)/\(r≠.su [] false->q≠.su [] false)/\In k n q/\fy q/\sz q<=sz r:=by
 cases r with
 | ei l=>
   rw[cA]at h
   split at h
   .cases h
   .rename_i t
    cases h;refine⟨?_,λx a=>?_,λ_ z=>(by cases z),⟨i.1,λs g=>i.2 s (mem_woS.mp g).1⟩,⟨Qg (Qn _ _) hs.1,hs.2.filter _⟩,Qn _ _⟩
    .rw[so,so,Bool.eq_iff_iff,List.any_eq_true,List.any_eq_true]
     refine⟨λ⟨s,f,c⟩=>⟨s,(mem_woS.mp f).1,c⟩,λ⟨s,f,c⟩=>⟨s,mem_woS.mpr ⟨f,λe=>t ?_⟩,c⟩⟩
     have:aB ev b=s.2:=by rw[<-e];simpa using c
     rw[this,<-e];exact f
    .obtain⟨s,g,rfl⟩:=qy a
     exact⟨List.mem_map.mpr ⟨s,(mem_woS.mp g).1,rfl⟩,(mem_woS.mp g).2⟩
 | su l o=>
   rw[cA]at h
   split at h
   .rename_i t
    split at h
    .cases h
    .rename_i u
     cases h;have v:l.Pairwise (·<·):=hs;have p:=mq (ev:=ev) v t;refine⟨?_,λx a=>mem_wo.mp a,λ_ z=>u ?_,⟨i.1,λx a=>i.2 x (mem_wo.mp a).1⟩,v.filter _,Qn _ _⟩
     .rw[so,so,p]
      generalize ((wo b l).filter (aB ev)).length=m
      cases aB ev b with
      | false=>cases o<;>simp
      | true=>
        by_cases C:m%2=1
        .have c:¬(m+1)%2=1:=by lia
         cases o<;>simp[C,c]
        .have c:(m+1)%2=1:=by lia
         have E:m%2=0:=by lia
         cases o<;>simp[E,c]
     .injection z with D F
      exact⟨D,by cases o<;>cases w:aB ev b<;>simp[w]at F ⊢⟩
   .rename_i t
    cases h;exact⟨rfl,λx a=>⟨a,λe=>t (e ▸ a)⟩,λz=>z,i,hs,qv _⟩
 | im l o=>
   rw[cA]at h
   split at h
   .cases h
   .rename_i u
    cases h;have v:l.Pairwise (·<·):=hs;have A:=λe z=>u (.inl ⟨e,z⟩);have B:=λe=>Classical.byContradiction λz=>u (.inr ⟨e,z⟩);refine⟨?_,λx a=>?_,λ_ z=>(by cases z),⟨i.1,λx a=>i.2.1 x (mem_wo.mp a).1,λx a=>?_⟩,v.filter _,Qn _ _⟩
    .rw[so,so]
     have e1:((wo b l).any λx=>aB ev x != decide (k=.i))=l.any λx=>aB ev x != decide (k=.i):=by
      rw[Bool.eq_iff_iff,List.any_eq_true,List.any_eq_true];refine⟨λ⟨x,f,c⟩=>⟨x,(mem_wo.mp f).1,c⟩,λ⟨x,f,c⟩=>⟨x,mem_wo.mpr ⟨f,λe=>?_⟩,c⟩⟩;rw[e]at f c;rw[B f]at c;simp at c
     rw[e1];by_cases d:o=some b
     .have:=A d
      rw[if_pos d,d,hd,hd]
      have:(aB ev b==decide (k=.i))=false:=by simpa using this
      rw[this]
     .rw[if_neg d]
    .have key:x∈wo b l\/(o≠some b/\o=some x):=by
      by_cases d:o=some b
      .rw[if_pos d]at a
       exact .inl a
      .rw[if_neg d]at a
       cases o with
       | none=>exact .inl a
       | some y=>
         rcases qw a with a|a
         .exact .inl a
         .rw[List.mem_singleton.mp a];exact .inr ⟨d,rfl⟩
     rcases key with a|⟨d,a⟩
     .have:=mem_wo.mp a
      refine⟨?_,this.2⟩
      cases o with
      | none=>exact this.1
      | some y=>exact List.mem_append_left _ this.1
     .subst a
      exact⟨Qr _ qh,λe=>d (by rw[e])⟩
    .split at a
     .cases a
     .exact i.2.2 x a
end Bk
namespace M
open PySem PySem.Spec PyProof.Rows L2
section
variable {K:W7}
section
variable {X:Cx}{pos:Pos}
def gI(i j k:Nat):AT:=λd ρ=>match d with
 | .tup [a,b,c]=>some (((ρ.set i (↑a)).set j (↑b)).set k (↑c))
 | _=>none
def iH(f:AV)(gt:AT):AS:=λρ=>(f ρ).bind λd=>(gt d ρ).map Out.nx
@[simp] theorem ra{ρ:Ro}(f:AV)(gt:AT):iH f gt ρ=(f ρ).bind λd=>(gt d ρ).map Out.nx:=jD rfl
theorem OV(i j k:Nat){x y z:Str}{J O F:Pos}{n:Nat}(P:X.calm=true)(A:X.N.Nodup)(D:X.N[i]?=some x:=by rfl)(R:X.N[j]?=some y:=by rfl)(E:X.N[k]?=some z:=by rfl)(hx:dJ X.env.scope x:=by trivial)(L:dJ X.env.scope y:=by trivial)(C:dJ X.env.scope z:=by trivial)(N:X.fn x=true\/X.env.scope.names.lookup x=some .local:=by trivial)(l:X.fn y=true\/X.env.scope.names.lookup y=some .local:=by trivial)(m:X.fn z=true\/X.env.scope.names.lookup z=some .local:=by trivial):ZG X (.Tuple [.Name x J,.Name y O,.Name z F] n pos) (gI i j k):=⟨
 PG.imp (kd (n:=3) P (kb (jj A D hx N) (kb (jj A R L l) (kb (jj A E C m) FE)))) λv σ H Q o=>by
  obtain⟨d,ρ,ρ',S,U,G,e,s,r,h⟩:=o
  match d,e,r with
  | .tup [a,b,c],e,r=>
    cases e;obtain⟨p,xs,rfl,g,f⟩:=r;obtain⟨u,us,rfl,I,f⟩:=f;obtain⟨w,T,rfl,q,f⟩:=f;obtain⟨t,rfl,B⟩:=gv f
    exact⟨p,[u,w,t],rfl,.inl (.inl (s.seen _ _ g)),rfl,u,[w,t],rfl,w,[t],rfl,t,[],rfl,rfl,h _ (((s.set_sh i I).set_sh j q).set_sh k B)⟩⟩
theorem Ax{a e:Expr}{f:AV}{gt:AT}(b:ZG X a gt)(c:ZE X e f)(hs:swapsWithSole [a] e pos.line X.env=pure false:=by rfl)(n:swappedStores [a] e X.env=pure none:=by rfl)(g:(assignEach [a] X.env).map (·.2)=[assign a X.env]:=by rfl):ZS X (.Assign [a] e pos) (iH f gt):=⟨have b:=b.un;have c:=c.un;PS.imp (uQ c b hs n g) λF σ H i=>by
 obtain⟨ρ,out,q,r,G,e,s,h⟩:=i;obtain⟨d,g,e⟩:=qa e;obtain⟨ρ',m,rfl⟩:=qc e
 exact tOf.at g s λv o j p l k=>⟨d,ρ,ρ',_,_,j,m,k,l,λσ' s'=>h _ o j s'⟩⟩
end
end
section
variable {K:W7}
def aT(c f:Str):D->Option D
 | .obj a ks vs=>if a=c then (ks.zip vs).lookup f else none
 | _=>none
def CF(K:W7)(c f:Str):Prop:=∀C,W.nsIn K mainGlobals c=some (some (.ref C))->Cls K C/\NoAttr K C f
theorem RpL.look{G:Hp}{f:Str}:∀{ks:AK}{vs:AQ}{xs:AN}{d:D},RpL K G vs xs->(ks.zip vs).lookup f=some d->∃v,(ks.zip xs).lookup f=some v/\Rp K G d v
 | [],_,_,_,_,e=>by simp at e
 | _::_,[],_,_,_,e=>by simp at e
 | k::ks,d'::vs,xs,d,r,e=>by
   obtain⟨x,a,rfl,g,q⟩:=r;rw[List.zip_cons_cons,List.lookup_cons]at e ⊢
   cases h:(f==k)with
   | true=>
     rw[h]at e;cases e;exact⟨x,rfl,g⟩
   | false=>
     rw[h]at e;exact RpL.look q e
section
variable {X:Cx}{e o:Expr}{fa fo:AV}{pos apos:Pos}{c f:Str}
def di(P:P7)(w:World)(K:W7)(d:AE)(a:Heap)(k:Nat)(c m:Str)(ps:AK)(sp:Sp):Prop:=
 ∃C f b,FnOk P w K d a bW k f b ps sp/\Binds K b ps []/\W.nsIn K mainGlobals c=some (some (.ref C))/\Cls K C/\c9 K C m f
def a7(c m:Str)(b:AQ->Option D):D->Option D
 | .obj a ks vs=>if a=c/\m∉ks then b [.obj a ks vs]else none
 | _=>none
theorem mu{f:Str}:∀{ks:AK}{xs:AN},f∉ks->(ks.zip xs).lookup f=none
 | [],_,_=>by simp
 | _::_,[],_=>by simp
 | k::ks,x::xs,h=>by
   rw[List.zip_cons_cons,List.lookup_cons]
   have a:(f==k)=false:=by
    rw[beq_eq_false_iff_ne];exact λz=>h (by rw[z];exact qh)
   rw[a];exact mu λz=>h (qg _ z)
end
end
section
variable {K:W7}
inductive bJ (τ:Type) where
 | nx (ρ:Ro) (t:τ)|rt (d:D) (t:τ)|bk (ρ:Ro) (t:τ)|ct (ρ:Ro) (t:τ)
def rb(l:Addr)(H H':Hp):Prop:=∀a,a≠l->H' a=H a
structure WR(K:W7)(l:Addr)(o:HO)(H0 G0:Hp)(σ:L2.St)(H G:Hp)(ρ:Ro):Prop where
 sr:SR K H0 G0 σ H G ρ
 g0:G0 l=none
 h0:H0 l=some o
def Ay{f:Type}(b:f->HO)(K:W7)(l:Addr)(c e:Hp)(F:c8):bJ f->Prop
 | .nx ρ' t=>∀σ' H' G' a,rb l c a->WR K l (b t) a e σ' H' G' ρ'->F.nx σ' H'
 | .rt d t=>∀v H' G' a,rb l c a->a l=some (b t)->Gr a e H' G'->Rp K G' d v->F.rt v H'
 | .bk ρ' t=>∀σ' H' G' a,rb l c a->WR K l (b t) a e σ' H' G' ρ'->F.bk σ' H'
 | .ct ρ' t=>∀σ' H' G' a,rb l c a->WR K l (b t) a e σ' H' G' ρ'->F.ct σ' H'
def mv{b:Type}(a:b->HO)(K:W7)(l:Addr)(f:Ro->b->Option (bJ b)):TS:=λF σ H=>∃ρ t out c d G,f ρ t=some out/\WR K l (a t) c d σ H G ρ/\Ay a K l c d F out
abbrev WS{b:Type}(a:b->HO)(X:Cx)(l:Addr)(st:Stmt)(f:Ro->b->Option (bJ b)):Prop:=PS X st (mv a X.K l f)
abbrev WB{b:Type}(a:b->HO)(X:Cx)(l:Addr)(c:List Stmt)(f:Ro->b->Option (bJ b)):Prop:=PSs X c (mv a X.K l f)
section
variable {τ:Type}{rep:τ->HO}{X:Cx}{l:Addr}{st:Stmt}{sts:List Stmt}{fs gs:Ro->τ->Option (bJ τ)}{pos:Pos}{tg:Expr}{gl:AW}
def WT(rep:τ->HO)(X:Cx)(l:Addr)(c:Expr)(f:Ro->τ->Option Bool):Prop:=PT X c λσ H Q=>∃ρ t k b a G,f ρ t=some k/\WR X.K l (rep t) b a σ H G ρ/\∀H' G',Gr H G H' G'->Q k H'
end
end
section
variable {K:W7}
abbrev wl(t:AH):HO:=.lst (t.map V.bl)
abbrev jI:AK:=["book","hands","truths"]
abbrev aU(b h x:D):D:=.obj "Watch" jI [b,h,x]
theorem H8{G:Hp}:∀t:AH,RpL K G (t.map D.bl) (t.map V.bl)
 | []=>.nil
 | b::t=>.cons (by rw[Rp]) (H8 t)
def RpL.three{G:Hp}{a b c:D}{xs:AN}(r:RpL K G [a,b,c] xs):∃x y z,xs=[x,y,z]/\Rp K G a x/\Rp K G b y/\Rp K G c z:=by
 obtain⟨x,g,rfl,d,r⟩:=r;obtain⟨y,i,rfl,f,r⟩:=r;obtain⟨z,h,rfl,e,r⟩:=r;subst r;exact⟨x,y,z,rfl,d,f,e⟩
end
section
variable {K:W7}
end
section
variable {K:W7}
def rf(p:Prop)(a:Option Out):Option Out:=@ite _ p (Classical.propDecidable p) a none
def H_{p:Prop}{a:Option Out}(h:p):rf p a=a:=@if_pos p (Classical.propDecidable p) h _ _ _
def OW{p:Prop}{a:Option Out}{o:Out}(e:rf p a=some o):p/\a=some o:=by
 by_cases h:p
 .rw[H_ h]at e
  exact⟨h,e⟩
 .have:rf p a=none:=@if_neg p (Classical.propDecidable p) h _ _ _
  rw[this]at e;cases e
end
section
abbrev Wm:=Ro->AH->Option (bJ AH)
structure WI(X:Cx)(l:Addr)(st:Stmt)(f:Wm):Prop where
 un:WS wl X l st f
structure WJ(X:Cx)(l:Addr)(sts:List Stmt)(f:Wm):Prop where
 un:WB wl X l sts f
structure WK(X:Cx)(l:Addr)(c:Expr)(f:Ro->AH->Option Bool):Prop where
 un:WT wl X l c f
section
variable {X:Cx}{l:Addr}{st:Stmt}{sts:List Stmt}{fs gs:Wm}{pos apos:Pos}{tg e o:Expr}{gl:AW}{f fa fo:AV}{c m:Str}
theorem fA{f:Str}(k:CF X.K c f)(j:ZE X e fa)(hb:attributeBase e f X.env (eval e X.env)=eval e X.env:=by rfl):ZE X (.Attribute e f pos) (b1 fa (aT c f)):=⟨have j:=j.un;
 PE.imp (vo j hb) λσ H Q p=>by
  obtain⟨ρ,d,I,J,G,e,s,h⟩:=p;obtain⟨x,F,b⟩:=dc e;refine tOf.at F s λv u t E A y=>?_
  cases x with
  | obj r ks vs=>
    change (if r=c then (ks.zip vs).lookup f else none)=some d at b
    by_cases i:r=c
    .rw[if_pos i]at b
     subst i;obtain⟨a,C,w,xs,rfl,n,g,l,q⟩:=A;obtain⟨v,z,B⟩:=q.look b;exact⟨a,C,w,_,v,rfl,y.seen _ _ g,(k C n).1,(k C n).2,z,h v u t E B⟩
    .rw[if_neg i]at b
     cases b
  | _=>cases b⟩
theorem OX{j k:Nat}{ps:AK}{u:AQ->Option D}{pl:Sem Bool}(O:di X.prog X.w X.K X.mg X.base j c m ps (bg X.K 1 u))(R:Room k X.A)(r:ZE X o fo)(K:j<=k:=by first|exact qv _|lia)(V:eval (.Call (.Attribute o m apos) [] [] pos) X.env=(do
  let A <-eval o X.env
  standAt apos.atName
  let (f,first) <-holding [A] (getMethod A m pl)
  callWith pos f first (backTo pos (starEach [] X.env)) (backToKw pos (keywordEach [] X.env))):=by rfl):ZE X (.Call (.Attribute o m apos) [] [] pos) (b1 fo (a7 c m u)):=⟨have r:=r.un;by
 intro pins s σ H Q I i;obtain⟨ρ,d,W,G0,G,e,P,h⟩:=i;obtain⟨x,J,b⟩:=dc e
 cases x with
 | obj t ks vs=>
   change (if t=c/\m∉ks then u [.obj t ks vs]else none)=some d at b
   by_cases p:t=c/\m∉ks
   .rw[if_pos p]at b
    obtain⟨rfl,B⟩:=p;obtain⟨C,f,Y,F,hb,z,L,M⟩:=O;refine FR  r L M F (R.mono K) hb .nil gn V pins s σ H Q I (tOf.at J P λv Z N U S w=>?_);obtain⟨a,C',y,xs,rfl,n,g,l,q⟩:=S;rw[z]at n;cases n;refine⟨a,y,_,rfl,w.seen _ _ g,mu B,(⟨rfl,[_],d,N,w.seen,.one ?_,b,λv H' G' E T=>h v H' G' (U.trans E) T⟩)⟩;exact⟨a,C,y,xs,rfl,z,g,l,q⟩
   .rw[if_neg p]at b
    cases b
 | _=>cases b⟩
end
def Mq(K:W7)(c m q:Str)(st:Stmt):Prop:=∃C f b,W.nsIn K mainGlobals c=some (some (.ref C))/\Cls K C/\c9 K C m f/\Fun K m q st f b
def mq_mk{K:W7}{c m q:Str}{st:Stmt}{C f:Addr}{o:Value}{s p:Option Addr}{e:Array (Option Value)}{kV g u d w:Value}(a:W.nsIn K mainGlobals c=some (some (.ref C)))(v:W.plainGet K C Str.empty=true)(r:W.hasDictIn K C=true)(j:W.plainOver K C=true)(t:W.findIn K (.ref C) "__setattr__"=some (some (.builtin "object.__setattr__")))(i:W.findIn K (.ref C) m=some (some (.ref f)))(n:W.isFn K (.ref f)=true)(l:K.lookup f=some ⟨o,s,.func (W.fnOf m q (aDa st) (aCa st) (aAa st) .none kV g u p d w),e⟩)(h:W.codeIn K d q=true)(k:W.keepIn K (.ref f)=true):Mq K c m q st:=
 ⟨C,f,_,a,⟨v,r,j,t⟩,⟨i,n,k⟩,kK l h k⟩
def Nq(K:W7)(c f:Str):Prop:=∃C,W.nsIn K mainGlobals c=some (some (.ref C))/\Cls K C/\NoAttr K C f
def nq_mk{K:W7}{c f:Str}{C:Addr}(a:W.nsIn K mainGlobals c=some (some (.ref C)))(g:W.plainGet K C Str.empty=true)(h:W.hasDictIn K C=true)(e:W.plainOver K C=true)(d:W.findIn K (.ref C) "__setattr__"=some (some (.builtin "object.__setattr__")))(n:W.findIn K (.ref C) f=some none):Nq K c f:=
 ⟨C,a,⟨g,h,e,d⟩,n⟩
def Nq.cf{K:W7}{c f:Str}(h:Nq K c f):CF K c f:=λC e=>by
 obtain⟨g,a,d,n⟩:=h;rw[a]at e;cases e;exact⟨d,n⟩
def rg(x q:Str)(st:Stmt)(ps:AK):Prop:=∀(kV a e:Value) (d:Option Addr) (c f:Value) (us:AD),us.length=ps.length->bindArgs (W.fnOf x q (aDa st) (aCa st) (aAa st) .none kV a e d c f) ⟨us,[]⟩=pure (ps.zip us)
section
variable {P:P7}{w:World}{K:W7}{mg:AE}{base:Heap}
theorem dW{c x q:Str}{st:Stmt}{k n m:Nat}{N ps:AK}{fb:AS}(F:Mq K c x q st)(S:aD N ps (aAa st))(hb:∀{f:Addr}{d:Value}{A:Around}{b:List Env}{s:Shared}{H:Hp}{E:XK},Room k (A.deeper (envOfC q (aAa st) (~~~s) f d))->ZB (bV bW P w K mg base N q (aAa st) f d A b s H E).nox (aCa st) fb)(j:N.length=n:=by rfl)(h:ps.length=m:=by rfl)(B:rg x q st ps:=by(intro _ _ _ _ _ _ us e;first|(obtain⟨_,rfl⟩:=el e;rfl)|(obtain⟨_,_,rfl⟩:=dB e;rfl)|(obtain⟨_,_,_,rfl⟩:=dC e;rfl))):di P w K mg base (k+1) c x ps (bg K m (ao m n fb)):=by
 obtain⟨C,f,o,a,p,i,g⟩:=F;exact⟨C,f,o,zP  g S j h λ_ _ _ _ _ _ l=>hb l,g.binds B,a,p,i⟩
end
end
section
section
variable {X:Cx}{a:Expr}{fa:AV}{pos px:Pos}{x:Str}{ks:AK}
theorem Az(r:X.A.units+64<cLine){p:Addr}{o:Obj}{its:Array Value}{n:Nat}(l:X.K.lookup p=some o)(d:o.cls=.type "tuple")(f:o.data=.seq its n)(hs:ir its.toList ks):bU X (compareOp .In) (ym p ks false):=by
 intro pins s σ H x y v u Q I g m h;obtain⟨k,rfl,i,rfl,q⟩:=h;cases m;obtain⟨t,rfl⟩:=g;obtain⟨w,j,c⟩:=G8  hs;refine SeqAt.in_tuple_reads (.tuple (I.kIn p o l) d f j) (.str k t) (by simpa [PyData.canLay0]using c) (by simp[PyData.canLay0,i]) ?_ ⟨.bl _,H,I,rfl,?_⟩
 .have e:(PyData.str k).depth=0:=by simp[PyData.depth]
  lia
 .rw[G9]
  have e:decide (k∈ks)=(decide (k∈ks)!=false):=by cases decide (k∈ks)<;>rfl
  rw[e];exact q
theorem AI(E:X.A.units+64<cLine)(g:GT X.K X.mg x ks)(r:Gl X x)(u:ZC X a fa)(C:behindInMarks .In (.Name x px)=false:=by with_unfolding_all rfl)(t:b9 x:=by decide):ZE X (.Compare a [.In] [.Name x px] pos) (mB (b1 fa (yk false ks))):=by
 obtain⟨p,o,its,n,j,z,q,f,hs⟩:=g;refine⟨PE.imp (FK (Az E z q f hs) u.un (tR (v:=.ref p) r j rfl t) C) λσ H Q i=>?_⟩;obtain⟨ρ,b,F,I,G,e,s,h⟩:=i;obtain⟨k,B,rfl⟩:=wZ e;obtain⟨d,w,c⟩:=dc B;refine tCof.at w s λv y m A l J=>?_;unfold yk at c
 split at c
 .rename_i k
  cases c;exact⟨k,l.1,l.2,rfl,h _ y m A (by rw[Rp])⟩
 .cases c
end
end
section
def iI:D->D->Option D:=i2 (λi j=>decide (0<=j/\j<=1000000/\i.natAbs<2^64)) λi j=>i^j.toNat
section
variable {X:Cx}{a b:Expr}{fa fb:AV}{pos:Pos}
def AO(c:ZC X a fa)(hb:ZC X b fb):ZE X (.BinOp a .Pow b pos) (b2 fa fb iI):=⟨have c:=c.un;have hb:=hb.un;jr va (pd (λi j h=>(show 0<=j/\j<=1000000/\i.natAbs<2^64 from wq h))) c hb⟩
end
end
section
variable {K:W7}
inductive HS where
 | bls (t:AH)
 | ins (c:Str) (C dx:Addr) (ks:AK) (vs:AN) (ds:AQ)
abbrev Hs:=Addr->Option HS
def HS.ho:HS->HO
 | .bls t=>.lst (t.map V.bl)
 | .ins _ C a ks vs _=>.ins C a (ks.zip vs)
def HS.d:HS->D
 | .bls t=>.lst (t.map D.bl)
 | .ins c _ _ ks _ ds=>.obj c ks ds
def HS.ok(K:W7)(G:Hp):HS->Prop
 | .bls _=>True
 | .ins c C _ ks vs ds=>W.nsIn K mainGlobals c=some (some (.ref C))/\vs.length=ks.length/\RpL K G ds vs
theorem HS.ok.mono{G G':Hp}(h:Same G G'):∀{s:HS},s.ok K G->s.ok K G'
 | .bls _,_=>trivial
 | .ins ..,⟨a,b,c⟩=>⟨a,b,c.mono h⟩
def pt(t:Hs)(a:Addr)(s:Option HS):Hs:=λb=>if b=a then s else t b
def Yo{t:Hs}{a:Addr}{s:Option HS}:pt t a s a=s:=if_pos rfl
def bw{t:Hs}{a b:Addr}{s:Option HS}(h:b≠a):pt t a s b=t b:=if_neg h
structure HW(K:W7)(t:Hs)(H G:Hp):Prop where
 g:∀a s,t a=some s->G a=none
 h:∀a s,t a=some s->H a=some s.ho
 ok:∀a s,t a=some s->s.ok K G
structure WH(K:W7)(t:Hs)(H0 G0:Hp)(σ:L2.St)(H G:Hp)(ρ:Ro):Prop where
 sr:SR K H0 G0 σ H G ρ
 h0:∀a s,t a=some s->H0 a=some s.ho
 g0:∀a s,t a=some s->G0 a=none
 ok:∀a s,t a=some s->s.ok K G
structure OffH(t t':Hs)(H0 H1:Hp):Prop where
 keep:∀a,t' a=none->H1 a=H0 a
 grow:∀a,t' a=none->t a=none
 new:∀a,t a=none->t' a≠none->H0 a=none
def OffH.refl{t:Hs}{H:Hp}:OffH t t H H:=⟨λ_ _=>rfl,λ_ h=>h,λ_ h h'=>absurd h h'⟩
def OffH.trans{t c f:Hs}{H e d:Hp}(a:OffH t c H e)(b:OffH c f e d):OffH t f H d:=
 ⟨λx h=>(b.keep x h).trans (a.keep x (b.grow x h)),λx h=>a.grow x (b.grow x h),λx h h'=>by
  by_cases z:c x=none
  .rw[<-a.keep x z];exact b.new x z h'
  .exact a.new x h z⟩
structure Aft(K:W7)(t t':Hs)(H G H' G':Hp):Prop where
 keep:∀a o,t a=none->H a=some o->H' a=some o
 grow:∀a,t' a=none->t a=none
 new:∀a,t a=none->t' a≠none->H a=none
 hw:HW K t' H' G'
 g:Same G G'
 s:Same G' H'
 n:∀a,G a=none->G' a≠none->H a=none
section
variable {t t':Hs}{H0 G0 H G H' G':Hp}{σ:L2.St}{ρ:Ro}
theorem WH.no(w:WH K t H0 G0 σ H G ρ){a:Addr}{s:HS}(e:t a=some s):G a=none:=by
 cases h:G a with
 | none=>rfl
 | some u=>
   have:=w.sr.gr.n a (w.g0 a s e) (by rw[h];exact λz=>nomatch z);rw[w.h0 a s e]at this;cases this
def WH.hw(w:WH K t H0 G0 σ H G ρ):HW K t H G:=⟨λ_ _ e=>w.no e,λa s e=>w.sr.gr.h _ _ (w.h0 a s e),w.ok⟩
def WH.grow(w:WH K t H0 G0 σ H G ρ)(g:Gr H G H' G'):WH K t H0 G0 σ H' G' ρ:=⟨w.sr.grow g,w.h0,w.g0,λa s e=>(w.ok a s e).mono g.g⟩
theorem WH.bare(w:WH K t H0 G0 σ H G ρ):WH K t H0 G0 [] H G []:=⟨SR.mkSh w.sr.gr rfl (λi d e=>(by simp at e)) (λi l e=>(by simp at e)) (λi t ks vs e=>(by simp at e)),w.h0,w.g0,w.ok⟩
theorem WH.after(w:WH K t H0 G0 σ H G ρ)(a:Aft K t t' H G H' G'):∃E,OffH t t' H0 E/\WH K t' E G0 σ H' G' ρ:=by
 have s:=w.sr
 have C:∀{b:Addr},H0 b=none->t b=none:=λ{b} h=>by
  cases z:t b with
  | none=>rfl
  | some x=>have:=w.h0 b x z;rw[h]at this;cases this
 have j:∀{b:Addr}{o:HO},H0 b=none->H b=some o->G b=none->t' b=none/\H' b=some o/\G' b=none:=λ{b o} F q I=>by
  refine⟨?_,a.keep b o (C F) q,?_⟩
  .refine Classical.byContradiction λz=>?_
   have:=a.new b (C F) z;rw[q]at this;cases this
  .refine Classical.byContradiction λz=>?_
   have:=a.n b I z;rw[q]at this;cases this
 refine⟨λb=>if t' b=none then H0 b else H' b,⟨λb h=>if_pos h,a.grow,λb h h'=>s.gr.h.free (a.new b h h')⟩,⟨⟨λb u e=>?_,s.gr.g.trans a.g,a.s,λb h h'=>?_⟩,s.len,λi d e=>?_,λi l e=>?_,s.ap,λi J ks vs e=>?_,s.apd⟩,λb x e=>?_,λb x e=>(s.gr.g.trans a.g).free (a.hw.g b x e),a.hw.ok⟩
 .by_cases z:t' b=none
  .simp  [if_pos z]at e
   exact a.keep b u (a.grow b z) (s.gr.h b u e)
  .simp  [if_neg z]at e
   exact e
 .have z:t' b=none:=by
   cases z:t' b with
   | none=>rfl
   | some x=>exact absurd (a.hw.g b x z) h'
  rw[if_pos z];by_cases y:G b=none
  .exact s.gr.h.free (a.n b y h')
  .exact s.gr.n b h y
 .obtain⟨v,g,k⟩:=s.sh i d e
  exact⟨v,g,k.mono a.g⟩
 .obtain⟨b,xs,g,k,f,m,r⟩:=s.ow i l e
  obtain⟨n,p,B⟩:=j f m k;exact⟨b,xs,g,B,by rw[if_pos n];exact f,p,r.mono a.g⟩
 .obtain⟨b,A,vxs,g,k,f,m,r,L⟩:=s.od i J ks vs e
  obtain⟨o,D,_⟩:=m.some;obtain⟨n,p,B⟩:=j f D k;exact⟨b,A,vxs,g,B,by rw[if_pos n];exact f,m.mono a.g λM z=>by rw[D]at z;rw[p];exact z,r.mono a.g,L.mono a.g⟩
 .rw[if_neg (by rw[e];exact λz=>nomatch z)]
  exact a.hw.h b x e
theorem WH.aft(w:WH K t' H0 G0 σ H G ρ){c d:Hp}(o:OffH t t' c H0)(g:d=G0):Aft K t t' c d H G:=by
 subst g;refine⟨λa u h e=>?_,o.grow,o.new,w.hw,w.sr.gr.g,w.sr.gr.s,λa h h'=>?_⟩
 .by_cases z:t' a=none
  .exact w.sr.gr.h a u (by rw[o.keep a z];exact e)
  .have:=o.new a h z
   rw[e]at this;cases this
 .have b:=w.sr.gr.n a h h'
  by_cases z:t' a=none
  .rw[<-o.keep a z];exact b
  .obtain⟨x,f⟩:=Option.ne_none_iff_exists'.mp z
   rw[w.h0 a x f]at b;cases b
theorem WH.rebase(w:WH K t H0 G0 σ H G ρ):∃J,WH K t J G σ H G ρ/\∀t' v σ' H' G' ρ',OffH t t' J v->WH K t' v G σ' H' G' ρ'->∃L,OffH t t' H0 L/\WH K t' L G0 σ' H' G' ρ':=by
 classical
 have s:=w.sr
 let d:=λa=>∃(i:Nat),((∃l:AQ,ρ[i]?=some (some (B.ow l)))\/(∃t ks vs,ρ[i]?=some (some (B.od t ks vs))))/\σ[i]?=some (some (V.ref a))
 have E:∀a,d a->H0 a=none/\G a=none:=λa M=>by
  obtain⟨i,e1,e2⟩:=M;rcases e1 with⟨l,e1⟩|⟨t,ks,vs,e1⟩
  .obtain⟨b,xs,c,g,k,_⟩:=s.ow i l e1
   rw[e2]at c;cases c;exact⟨k,g⟩
  .obtain⟨b,m,vxs,c,g,k,_⟩:=s.od i t ks vs e1
   rw[e2]at c;cases c;exact⟨k,g⟩
 have n:∀a,(if d a then none else H a)=none->H0 a=none:=λa h=>by
  by_cases o:d a
  .exact(E a o).1
  .rw[if_neg o]at h;exact s.gr.h.free h
 refine⟨λa=>if d a then none else H a,⟨⟨⟨λb o e=>?_,Same.refl _,s.gr.s,λ_ h h'=>absurd h h'⟩,s.len,s.sh,λi l e=>?_,s.ap,λi t ks vs e=>?_,s.apd⟩,λa x e=>?_,λa x e=>w.no e,w.ok⟩,λt' v σ' H' G' ρ' f A=>?_⟩
 .by_cases z:d b
  .simp only[if_pos z]at e;cases e
  .simp  [if_neg z]at e;exact e
 .obtain⟨a,xs,c,g,k,p,F⟩:=s.ow i l e
  exact⟨a,xs,c,g,if_pos ⟨i,.inl ⟨l,e⟩,c⟩,p,F⟩
 .obtain⟨a,m,vxs,c,g,k,p⟩:=s.od i t ks vs e
  exact⟨a,m,vxs,c,g,if_pos ⟨i,.inr ⟨t,ks,vs,e⟩,c⟩,p⟩
 .have z:¬d a:=λz=>by
   have:=(E a z).1;rw[w.h0 a x e]at this;cases this
  rw[if_neg z];exact w.hw.h a x e
 .have j:=A.sr
  have r:∀a,v a=none->(if t' a=none then H0 a else v a)=none:=λa h=>by
   by_cases z:t' a=none
   .rw[if_pos z]
    rw[f.keep a z]at h;exact n a h
   .rw[if_neg z];exact h
  refine⟨λa=>if t' a=none then H0 a else v a,⟨λa h=>if_pos h,f.grow,λa h h'=>n a (f.new a h h')⟩,⟨⟨λb u e=>?_,s.gr.g.trans j.gr.g,j.gr.s,λb h h'=>?_⟩,j.len,j.sh,λi l e=>?_,j.ap,λi C ks vs e=>?_,j.apd⟩,λa x e=>?_,λa x e=>s.gr.g.free (A.g0 a x e),A.ok⟩
  .refine j.gr.h b u ?_
   by_cases z:t' b=none
   .simp  [if_pos z]at e
    rw[f.keep b z]
    have I:¬d b:=λq=>by rw[(E b q).1]at e;cases e
    rw[if_neg I];exact s.gr.h b u e
   .simp  [if_neg z]at e;exact e
  .by_cases z:G b=none
   .exact r b (j.gr.n b z h')
   .have q:=s.gr.n b h z
    have I:t' b=none:=by
     cases y:t' b with
     | none=>rfl
     | some x=>exact absurd (A.g0 b x y) z
    rw[if_pos I];exact q
  .obtain⟨a,xs,c,g,k,p,F⟩:=j.ow i l e
   exact⟨a,xs,c,g,r a k,p,F⟩
  .obtain⟨a,m,vxs,c,g,k,p⟩:=j.od i C ks vs e
   exact⟨a,m,vxs,c,g,r a k,p⟩
  .rw[if_neg (by rw[e];exact λz=>nomatch z)]
   exact A.h0 a x e
end
def ContH(K:W7)(t:Hs)(c b:Hp)(F:c8):bJ Hs->Prop
 | .nx ρ' t'=>∀σ' H' G' a,OffH t t' c a->WH K t' a b σ' H' G' ρ'->F.nx σ' H'
 | .rt d t'=>∀v H' G' a,OffH t t' c a->WH K t' a b [] H' G' []->Rp K G' d v->F.rt v H'
 | .bk ρ' t'=>∀σ' H' G' a,OffH t t' c a->WH K t' a b σ' H' G' ρ'->F.bk σ' H'
 | .ct ρ' t'=>∀σ' H' G' a,OffH t t' c a->WH K t' a b σ' H' G' ρ'->F.ct σ' H'
def ContH.off{t t':Hs}{i h e:Hp}{F:c8}{o:bJ Hs}(f:OffH t t' i e)(c:ContH K t i h F o):ContH K t' e h F o:=by
 cases o with
 | nx ρ b=>exact λσ' H' G' a g w=>c σ' H' G' a (f.trans g) w
 | rt d b=>exact λv H' G' a g w=>c v H' G' a (f.trans g) w
 | bk ρ b=>exact λσ' H' G' a g w=>c σ' H' G' a (f.trans g) w
 | ct ρ b=>exact λσ' H' G' a g w=>c σ' H' G' a (f.trans g) w
abbrev Hm:=Ro->Hs->(bJ Hs->Prop)->Prop
abbrev He:=Ro->Hs->(D->Hs->Prop)->Prop
abbrev Ha:=Ro->Hs->(AQ->Hs->Prop)->Prop
def mw(K:W7)(f:Hm):TS:=λF σ H=>∃ρ t b a G Q,WH K t b a σ H G ρ/\f ρ t Q/\∀o,Q o->ContH K t b a F o
def OY(K:W7)(f:He):TE:=λσ H Q=>∃ρ t c a G R,WH K t c a σ H G ρ/\f ρ t R/\∀d t',R d t'->∀v H' G' b,OffH t t' c b->WH K t' b a σ H' G' ρ->Same G G'->Rp K G' d v->Q v H'
def OZ(K:W7)(f:Ha):TA:=λσ H Q=>∃ρ t c a G R,WH K t c a σ H G ρ/\f ρ t R/\∀ds t',R ds t'->∀vs H' G' b,OffH t t' c b->WH K t' b a σ H' G' ρ->Same G G'->RpL K G' ds vs->Q vs H'
def O0(K:W7)(f:Ro->Hs->Option Bool):TT:=λσ H Q=>∃ρ t k b a G,f ρ t=some k/\WH K t b a σ H G ρ/\∀H' G',Gr H G H' G'->Q k H'
structure dO(X:Cx)(st:Stmt)(f:Hm):Prop where
 un:PS X st (mw X.K f)
structure dj(X:Cx)(sts:List Stmt)(f:Hm):Prop where
 un:PSs X sts (mw X.K f)
structure dX(X:Cx)(e:Expr)(f:He):Prop where
 un:PE X e (OY X.K f)
structure mx(X:Cx)(es:AL)(f:Ha):Prop where
 un:PA X es (OZ X.K f)
structure rh(X:Cx)(e:Expr)(f:Ro->Hs->Option Bool):Prop where
 un:PT X e (O0 X.K f)
def AZ(t:Hs):Out->bJ Hs
 | .nx ρ'=>.nx ρ' t
 | .rt d=>.rt d t
 | .bk ρ'=>.bk ρ' t
 | .ct ρ'=>.ct ρ' t
def d9(f:AS):Hm:=λρ t Q=>∃o,f ρ=some o/\Q (AZ t o)
def dY:Hm:=λρ t Q=>Q (.nx ρ t)
def aK(f g:Hm):Hm:=λρ t Q=>f ρ t fun
 | .nx ρ' t'=>g ρ' t' Q
 | o=>Q o
def jJ(c:Ro->Hs->Option Bool)(f g:Hm):Hm:=λρ t Q=>∃k,c ρ t=some k/\((k=true->f ρ t Q)/\(k=false->g ρ t Q))
def dZ(gt:AT)(fb:Hm):AQ->Hm
 | [],ρ,t,Q=>Q (.nx ρ t)
 | d::ds,ρ,t,Q=>∃c,gt d ρ=some c/\fb c t fun
   | .nx a b=>dZ gt fb ds a b Q
   | .ct a b=>dZ gt fb ds a b Q
   | .bk a b=>Q (.nx a b)
   | .rt d b=>Q (.rt d b)
def iJ(a:AW)(gt:AT)(fb:Hm):Hm:=λρ t Q=>∃ds,a ρ=some ds/\dZ gt fb ds ρ t Q
def iK(c:Ro->Hs->Option Bool)(fb:Hm):Nat->Hm
 | 0,_,_,_=>False
 | n+1,ρ,t,Q=>∃k,c ρ t=some k/\((k=true->fb ρ t fun
   | .nx a b=>iK c fb n a b Q
   | .ct a b=>iK c fb n a b Q
   | .bk a b=>Q (.nx a b)
   | .rt d b=>Q (.rt d b))/\(k=false->Q (.nx ρ t)))
def A0(c:Ro->Hs->Option Bool)(fb:Hm):Hm:=λρ t Q=>∃n,iK c fb n ρ t Q
section
variable {X:Cx}{st:Stmt}{sts:List Stmt}{fs gs:Hm}{pos:Pos}{tg:Expr}{gl:AW}
theorem O1{f:AS}(h:ZS X st f):dO X st (d9 f):=⟨PS.imp h.un λF σ H hx_=>by
 obtain⟨ρ,t,H0,G0,G,Q,w,⟨o,h1,q⟩,c⟩:=hx_;obtain⟨H1,w1,back⟩:=w.rebase;have c:=c _ q;refine⟨ρ,o,H1,G,G,h1,w1.sr,?_⟩;have mk:∀{σ':L2.St}{H' G':Hp}{ρ':Ro},SR X.K H1 G σ' H' G' ρ'->∃H3,OffH t t H0 H3/\WH X.K t H3 G0 σ' H' G' ρ':=λ{σ' H' G' ρ'} s'=>back t H1 σ' H' G' ρ' OffH.refl ⟨s',w1.h0,w1.g0,λa s e=>(w1.ok a s e).mono s'.gr.g⟩
 cases o with
 | nx ρ'=>
   exact λσ' H' G' s'=>by
    obtain⟨H3,f3,w3⟩:=mk s';exact c σ' H' G' H3 f3 w3
 | rt d=>
   exact λv H' G' g r=>by
    obtain⟨H3,f3,w3⟩:=mk (σ':=[]) (ρ':=[]) (SR.mkSh g rfl (λi d e=>(by simp at e)) (λi l e=>(by simp at e)) (λi t ks vs e=>(by simp at e)));exact c v H' G' H3 f3 w3 r
 | bk ρ'=>
   exact λσ' H' G' s'=>by
    obtain⟨H3,f3,w3⟩:=mk s';exact c σ' H' G' H3 f3 w3
 | ct ρ'=>
   exact λσ' H' G' s'=>by
    obtain⟨H3,f3,w3⟩:=mk s'
    exact c σ' H' G' H3 f3 w3⟩
def A1:dj X [] dY:=⟨PSs.imp FB λF σ H a=>by
 obtain⟨ρ,t,b,d,G,Q,w,q,c⟩:=a
 exact c _ q σ H G b OffH.refl w⟩
def A3(h:dO X st fs):dj X [st] fs:=⟨FD h.un⟩
def O2(h:dO X st fs)(l:dj X sts gs):dj X (st::sts) (aK fs gs):=⟨PSs.imp (FC h.un l.un) λF σ H b=>by
 obtain⟨ρ,t,j,e,G,Q,w,q,c⟩:=b;refine⟨ρ,t,j,e,G,_,w,q,λo a=>?_⟩
 cases o with
 | nx ρ' t'=>exact λσ' H' G' k f i=>⟨ρ',t',k,e,G',Q,i,a,λo g=>(c o g).off f⟩
 | rt d t'=>exact c _ a
 | bk ρ' t'=>exact c _ a
 | ct ρ' t'=>exact c _ a⟩
def A4{c:Expr}{a b:List Stmt}{fc:Ro->Hs->Option Bool}(j:rh X c fc)(n:dj X a fs)(hb:dj X b gs):dO X (.If c a b pos) (jJ fc fs gs):=⟨PS.imp (gY j.un n.un hb.un) λF σ H d=>by
 obtain⟨ρ,t,e,f,G,Q,w,⟨k,m,i,l⟩,c⟩:=d;refine⟨ρ,t,k,e,f,G,m,w,λo h g=>?_⟩
 cases k with
 | true=>exact hP ⟨ρ,t,e,f,h,Q,w.grow g,i rfl,c⟩
 | false=>exact hO ⟨ρ,t,e,f,h,Q,w.grow g,l rfl,c⟩⟩
theorem A5{b:Expr}{g:List Stmt}{gt:AT}(hp:PassesOwn (mZ X.prog X.w) X.A X.env X.xe)(U:X.calm=true)(ua:ZI X tg b gl)(hg:ZG X tg gt)(hb:dj X g fs)(hs:∀x,foldedSetIterable b X.env x=pure x:=by intro _;rfl):dO X (.For tg b g [] pos) (iJ gl gt fs):=
 ⟨PS.imp (kg hp U ua.un hg.un hb.un hs) λF σ H M=>by
  obtain⟨ρ,t,H0,G0,G,Q,w,⟨ds,T,h2⟩,c⟩:=M;refine⟨ρ,ds,H0,G0,G,T,w.sr,λJ H1 A g1 S=>?_⟩;obtain⟨N,Z,a⟩:=(w.grow g1).rebase;refine⟨λi m σ' H'=>m=ds.length-i/\i<=ds.length/\∃ρ' t' G' h,OffH t t' N h/\WH X.K t' h A σ' H' G' ρ'/\dZ gt fs (ds.drop i) ρ' t' Q,⟨_,rfl,Qh _,ρ,t,A,N,OffH.refl,Z,h2⟩,?_⟩;rintro i m σ' H' ⟨rfl,ua,ρ',t',G',h,fc,E,p⟩;have W:=S.2 i H' G' E.sr.gr.g E.sr.seen;by_cases e:i<ds.length
  .obtain⟨go,Y⟩:=W.1 _ (qr e)
   rw[List.drop_eq_getElem_cons e]at p;obtain⟨B,e1,p⟩:=p;refine .inr ⟨go,λσ' H'=>i+1<=ds.length/\∃ρ' t' G' h,OffH t t' N h/\WH X.K t' h A σ' H' G' ρ'/\dZ gt fs (ds.drop (i+1)) ρ' t' Q,λσ2 R q=>⟨ds.length-(i+1),by lia,rfl,q.1,q.2⟩,λx R y=>?_⟩;obtain⟨O,g2,V⟩:=Y x R y;have I:=E.grow g2;refine⟨_,ρ',B,h,A,O,e1,I.sr,V,λσ3 s3=>(⟨B,t',h,A,O,_,⟨s3,I.h0,I.g0,I.ok⟩,p,λo L=>?_⟩)⟩
   cases o with
   | nx f C=>exact λl z n r k j=>⟨e,f,C,n,r,fc.trans k,j,L⟩
   | ct f C=>exact λl z n r k j=>⟨e,f,C,n,r,fc.trans k,j,L⟩
   | bk f C=>
     exact λl z n r k j=>by
      obtain⟨He,u,s⟩:=a _ _ _ _ _ _ (fc.trans k) j;exact c _ L l z n He u s
   | rt d C=>
     exact λv z n r k j r4=>by
      obtain⟨He,u,s⟩:=a _ _ _ _ _ _ (fc.trans k) j;exact c _ L v z n He u s r4
  .have ei:i=ds.length:=by lia
   subst ei;rw[List.drop_length]at p;obtain⟨He,u,s⟩:=a _ _ _ _ _ _ fc E
   exact .inl ⟨W.2 (qv _),c _ p σ' H' G' He u s⟩⟩
def O3{c:Expr}{e:List Stmt}{fc:Ro->Hs->Option Bool}(U:PassesOwn (mZ X.prog X.w) X.A X.env X.xe)(L:rh X c fc)(hb:dj X e fs):dO X (.While c e [] pos) (A0 fc fs):=
 ⟨PS.imp (Lo U L.un hb.un) λF σ H A=>by
  obtain⟨ρ,t,z,x,G,Q,w,⟨n,O⟩,c⟩:=A;refine⟨λm σ' H'=>∃ρ' t' G' a,OffH t t' z a/\WH X.K t' a x σ' H' G' ρ'/\iK fc fs m ρ' t' Q,⟨n,ρ,t,G,z,OffH.refl,w,O⟩,?_⟩;rintro m y Ha ⟨l,C,J,a,p,E,e1⟩
  cases m with
  | zero=>exact e1.elim
  | succ m=>
    obtain⟨k,M,P,R⟩:=e1;refine⟨l,C,k,a,x,J,M,E,λN B S=>?_⟩;have I:=E.grow S
    cases k with
    | true=>
      refine hP ⟨λσ' H'=>∃ρ' t' G' a,OffH t t' z a/\WH X.K t' a x σ' H' G' ρ'/\iK fc fs m ρ' t' Q,λσ' H' q=>⟨m,Qa m,q⟩,l,C,a,x,B,_,I,P rfl,λo u=>?_⟩
      cases o with
      | nx b r=>exact λh s j f g i=>⟨b,r,j,f,p.trans g,i,u⟩
      | ct b r=>exact λh s j f g i=>⟨b,r,j,f,p.trans g,i,u⟩
      | bk b r=>exact λh s j f g i=>c _ u h s j f (p.trans g) i
      | rt d r=>exact λv s j f g i T=>c _ u v s j f (p.trans g) i T
    | false=>exact hO (c _ (R rfl) y N B a p I)⟩
end
end
section
variable {K:W7}
mutual
def aC(t:Hs):D->D
 | .non=>.non
 | .bl b=>.bl b
 | .int i=>.int i
 | .str x=>.str x
 | .tup l=>.tup (b8 t l)
 | .lst l=>.lst (b8 t l)
 | .scr ns=>.scr ns
 | .dct b ks vs=>.dct b ks vs
 | .obj c ks vs=>.obj c ks (b8 t vs)
 | .adr a=>match t a with
   | some s=>s.d
   | none=>.adr a
def b8(t:Hs):AQ->AQ
 | []=>[]
 | d::l=>aC t d::b8 t l
end
def my(t:Hs):B->B
 | .sh d=>.sh (aC t d)
 | .ow l=>.ow l
 | .od b ks vs=>.od b ks vs
def dE(t:Hs)(ρ:Ro):Ro:=ρ.map (Option.map (my t))
def gJ(t:Hs)(G:Hp):Hp:=λa=>match t a with
 | some s=>some s.ho
 | none=>G a
section
variable {t:Hs}{G:Hp}
def ri{a:Addr}{s:HS}(h:t a=some s):gJ t G a=some s.ho:=by unfold gJ;rw[h]
def iL{a:Addr}(h:t a=none):gJ t G a=G a:=by unfold gJ;rw[h]
def HW.same{H:Hp}(w:HW K t H G):Same G (gJ t G):=λa o e=>by
 cases h:t a with
 | none=>rw[iL h];exact e
 | some s=>rw[w.g a s h]at e;cases e
mutual
theorem Rp.thaw{H:Hp}(w:HW K t H G):∀{d:D}{v:V},Rp K G d v->Rp K (gJ t G) (aC t d) v
 | .non,_,r=>r.mono w.same
 | .bl _,_,r=>r.mono w.same
 | .int _,_,r=>r.mono w.same
 | .str _,_,r=>r.mono w.same
 | .tup l,_,r=>by
   obtain⟨a,xs,e,g,q⟩:=r;exact⟨a,xs,e,w.same _ _ g,RpL.thaw w q⟩
 | .lst l,_,r=>by
   obtain⟨a,xs,e,g,q⟩:=r;exact⟨a,xs,e,Yy w.same g,RpL.thaw w q⟩
 | .scr _,_,r=>r.mono w.same
 | .dct _ _ _,_,r=>r.mono w.same
 | .obj c ks vs,_,r=>by
   obtain⟨a,C,b,xs,e,n,g,l,q⟩:=r;exact⟨a,C,b,xs,e,n,w.same _ _ g,l,RpL.thaw w q⟩
 | .adr a,_,r=>by
   subst r;rw[aC]
   cases h:t a with
   | none=>rw[Rp]
   | some s=>
     cases s with
     | bls y=>
       exact⟨a,y.map V.bl,rfl,.inl (ri h),H8 y⟩
     | ins c C b ks vs ds=>
       obtain⟨i,f,j⟩:=w.ok a _ h;exact⟨a,C,b,vs,rfl,i,ri h,f,j.mono w.same⟩
theorem RpL.thaw{H:Hp}(w:HW K t H G):∀{l:AQ}{xs:AN},RpL K G l xs->RpL K (gJ t G) (b8 t l) xs
 | [],_,r=>by subst r;exact .nil
 | d::l,_,r=>by
   obtain⟨x,xs,rfl,g,q⟩:=r;exact .cons (Rp.thaw w g) (RpL.thaw w q)
end
def iM{ρ:Ro}{j:Nat}{b:B}(h:(dE t ρ)[j]?=some (some b)):∃a,ρ[j]?=some (some a)/\my t a=b:=by
 unfold dE at h;rw[Qm]at h;obtain⟨o,e,d⟩:=qc h;obtain⟨a,rfl,c⟩:=qc d;exact⟨a,e,c⟩
theorem WH.thaw{E J H:Hp}{σ:L2.St}{ρ:Ro}(w:WH K t E J σ H G ρ):∃P,SR K P J σ H (gJ t G) (dE t ρ):=by
 have s:=w.sr
 have p:∀{b:Addr},E b=none->t b=none:=λ{b} h=>by
  cases z:t b with
  | none=>rfl
  | some x=>have:=w.h0 b x z;rw[h]at this;cases this
 refine⟨λa=>if t a=none then E a else none,⟨⟨λb o e=>?_,s.gr.g.trans w.hw.same,λb o e=>?_,λb h h'=>?_⟩,by unfold dE;rw[qf];exact s.len,λj d e=>?_,λj l e=>?_,λj k l V a b f c D A I=>?_,λj M ks vs e=>?_,λj k R Y S U X T a b f c D A I=>?_⟩⟩
 .by_cases z:t b=none
  .simp  [if_pos z]at e;exact s.gr.h b o e
  .simp only[if_neg z]at e;cases e
 .cases z:t b with
  | none=>rw[iL z]at e;exact s.gr.s b o e
  | some x=>rw[ri z]at e;rw[<-e];exact w.hw.h b x z
 .cases z:t b with
  | none=>
    rw[iL z]at h';exact s.gr.n b h h'
  | some x=>exact if_neg (λy=>nomatch y)
 .obtain⟨i,f,c⟩:=iM e
  cases i with
  | sh C=>
    cases c;obtain⟨v,m,n⟩:=s.sh j C f;exact⟨v,m,n.thaw w.hw⟩
  | ow l=>cases c
  | od b ks vs=>cases c
 .obtain⟨i,f,c⟩:=iM e
  cases i with
  | sh C=>cases c
  | ow L=>
    cases c;obtain⟨a,xs,m,n,g,u,B⟩:=s.ow j l f;exact⟨a,xs,m,by rw[iL (p g)];exact n,by rw[if_pos (p g)];exact g,u,B.mono w.hw.same⟩
  | od b ks vs=>cases c
 .obtain⟨b1,e1,e2⟩:=iM f
  obtain⟨b2,r,F⟩:=iM c;cases b1<;>cases e2;cases b2<;>cases F;exact s.ap j k _ _ a b e1 r D A I
 .obtain⟨i,f,c⟩:=iM e
  cases i with
  | sh C=>cases c
  | ow L=>cases c
  | od i O N=>
    cases c;obtain⟨a,q,vxs,m,n,g,u,B,Q⟩:=s.od j M ks vs f;exact⟨a,q,vxs,m,by rw[iL (p g)];exact n,by rw[if_pos (p g)];exact g,u.mono w.hw.same λ_ z=>z,B.mono w.hw.same,Q.mono w.hw.same⟩
 .obtain⟨b1,e1,e2⟩:=iM f
  obtain⟨b2,r,F⟩:=iM c;cases b1<;>cases e2;cases b2<;>cases F;exact s.apd j k _ _ _ _ _ _ a b e1 r D A I
end
def rj(f:AV):He:=λρ t Q=>∃d,f ρ=some d/\Q d t
def iN(f:AV):He:=λρ t Q=>∃d,f (dE t ρ)=some d/\pz d=true/\Q d t
def eE(f:AU):Ro->Hs->Option Bool:=λρ t=>f (dE t ρ)
def iO:Ha:=λ_ t Q=>Q [] t
def mz(f:He)(g:Ha):Ha:=λρ t Q=>f ρ t λd a=>g ρ a λds b=>Q (d::ds) b
def dH(i:Nat)(f:He):Hm:=λρ t Q=>f ρ t λd t'=>Q (.nx (ρ.set i (↑d)) t')
def eV(f:He):Hm:=λρ t Q=>f ρ t λd t'=>Q (.rt d t')
def fY(f:He):Hm:=λρ t Q=>f ρ t λ_ t'=>Q (.nx ρ t')
section
variable {X:Cx}{e c:Expr}{es:AL}{f:AV}{fe:He}{ga:Ha}{pos p1:Pos}{st:Stmt}{fs:Hm}
def O4(h:ZE X e f):dX X e (rj f):=⟨PE.imp h.un λσ H Q a=>by
 obtain⟨ρ,t,b,i,G,R,w,⟨d,j,q⟩,k⟩:=a
 exact⟨ρ,d,b,i,G,j,w.sr,λv H' G' g r=>k d t q v H' G' b OffH.refl (w.grow g) g.g r⟩⟩
def O5(h:ZE X e f):dX X e (iN f):=⟨PE.imp h.un λσ H Q a=>by
 obtain⟨ρ,t,j,b,G,R,w,⟨d,i,hs,q⟩,k⟩:=a;obtain⟨m,l⟩:=w.thaw
 exact⟨_,d,m,b,_,i,l,λv H' G' g r=>k d t q v H' G j OffH.refl (w.grow (.back w.sr.seen g)) (Same.refl _) (r.scal hs)⟩⟩
def O6{fc:AU}(h:ZT X c fc):rh X c (eE fc):=⟨PT.imp h.un λσ H Q a=>by
 obtain⟨ρ,t,k,j,b,G,e,w,q⟩:=a;obtain⟨d,i⟩:=w.thaw
 exact⟨_,k,d,b,_,e,i,λH' G' g=>q H' G (.back w.sr.seen g)⟩⟩
def A6:mx X [] iO:=⟨PA.imp eI λσ H Q a=>by
 obtain⟨ρ,t,b,d,G,R,w,q,k⟩:=a
 exact k [] t q [] H G b OffH.refl w (Same.refl _) .nil⟩
theorem O7(n:dX X e fe)(hb:mx X es ga)(hs:starEach (e::es) X.env=(false,eval e X.env)::starEach es X.env:=by rfl):mx X (e::es) (mz fe ga):=⟨PA.imp (eJ n.un hb.un hs) λσ H Q a=>by
 obtain⟨ρ,t,j,d,G,R,w,q,k⟩:=a
 exact⟨ρ,t,j,d,G,_,w,q,λr o h v E g Ha C A B m=>⟨ρ,o,Ha,d,g,_,A,h,λds i u vs p z s y x b l=>k (r::ds) i u (v::vs) p z s (C.trans y) x (B.trans b) (.cons (m.mono b) l)⟩⟩⟩
theorem A7(i:Nat){y:Str}(j:X.N.Nodup)(h:dX X e fe)(m:X.N[i]?=some y:=by rfl)(r:dJ X.env.scope y:=by trivial)(b:swapsWith e (some (.Name y p1)) pos.line X.env=pure false:=by rfl)(o:X.fn y=true\/X.env.scope.names.lookup y=some .local:=by trivial):dO X (.Assign [.Name y p1] e pos) (dH i fe):=⟨PS.imp (uR j m r h.un b o) λF σ H g=>by
 obtain⟨ρ,t,n,u,G,Q,w,q,c⟩:=g
 exact⟨ρ,t,n,u,G,_,w,q,λd t' k v H' G' l s a x p=>c _ k _ H' G' l s ⟨a.sr.set_sh i p,a.h0,a.g0,a.ok⟩⟩⟩
def A8(h:dX X e fe):dO X (.Return (some e) pos) (eV fe):=⟨PS.imp (uL h.un) λF σ H a=>by
 obtain⟨ρ,t,j,m,G,Q,w,q,c⟩:=a
 exact⟨ρ,t,j,m,G,_,w,q,λd t' g v H' G' i l k n b=>c _ g v H' G' i l k.bare b⟩⟩
theorem O8(h:dX X e fe)(b:swapsWith e none pos.line X.env=pure false:=by rfl):dO X (.Expr e pos) (fY fe):=⟨PS.imp (j_ h.un b) λF σ H a=>by
 obtain⟨ρ,t,j,g,G,Q,w,q,c⟩:=a
 exact⟨ρ,t,j,g,G,_,w,q,λd t' l v H' G' i m k n o=>c _ l σ H' G' i m k⟩⟩
def mC(f:He)(g:D->Option Bool)(fs a:Hm):Hm:=λρ t Q=>f ρ t λd t'=>∃k,g d=some k/\((k=true->fs ρ t' Q)/\(k=false->a ρ t' Q))
end
def dP(K:W7)(n:Nat)(m:AQ->Hs->(D->Hs->Prop)->Prop):Sp:=λvs H Q _=>vs.length=n/\∃ds t G R,RpL K G ds vs/\Same G H/\HW K t H G/\m ds t R/\∀d t',R d t'->∀v H' G',Aft K t t' H G H' G'->Rp K G' d v->Q v H'
def bj(n:Nat)(g:Hm)(ds:AQ)(t:Hs)(R:D->Hs->Prop):Prop:=g (Yd n ds) t fun
 | .rt d t'=>R d t'
 | .nx _ t'=>R .non t'
 | _=>False
def mD(P:P7)(w:World)(K:W7)(c:AE)(b:Heap)(k n:Nat)(x:Str)(ps:AK)(m:AQ->Hs->(D->Hs->Prop)->Prop):Prop:=
 ∃a d,FnOk P w K c b bW k a d ps (dP K n m)/\Binds K d ps []/\W.keepIn K (.ref a)=true/\c x=some (.ref a)
section
variable {P:P7}{w:World}{mg:AE}{base:Heap}
theorem rk{x b:Str}{st:Stmt}{f:Addr}{r:FuncData}{N ps:AK}{k n m:Nat}{g:Hm}(F:Fun K x b st f r)(S:aD N ps (aAa st))(I:N.length=n)(u:ps.length=m)(hb:∀(c:Value) (A:Around) (a:List Env) (s:Shared) (H:Hp) (E:XK),Room k (A.deeper (envOfC b (aAa st) (~~~s) f c))->dj (bV bW P w K mg base N b (aAa st) f c A a s H E).nox (aCa st) g):
 FnOk P w K mg base bW (k+1) f r ps (dP K m (bj n g)):=by
 refine F.ok S (λvs H Q E h=>by rw[h.1,u]) λc A a s H vs Q E z h=>?_;obtain⟨J,ds,t,G,R,D,C,j,e,q⟩:=h;refine⟨_,(hb c A a s H E z).un,?_⟩
 have s0:SR K H G (start N vs) H G (Yd n ds):=by
  rw[<-I];exact SR.start  C D
 refine⟨_,t,H,G,G,_,⟨s0,j.h,j.g,j.ok⟩,e,λo i=>?_⟩
 cases o with
 | rt d t'=>exact λv H' G' B p l y=>q d t' i v H' G' (l.aft p rfl) y
 | nx ρ' t'=>exact λσ' H' G' B p l=>q .non t' i .non H' G' (l.aft p rfl) (by rw[Rp])
 | bk ρ' t'=>exact i.elim
 | ct ρ' t'=>exact i.elim
end
def jK(a:AW)(m:AQ->Hs->(D->Hs->Prop)->Prop):He:=λρ t Q=>∃ds,a ρ=some ds/\∃R,m ds t R/\∀d t',R d t'->Q d t'
section
variable {X:Cx}{e o:Expr}{es:AL}{ga:AW}{m:AQ->Hs->(D->Hs->Prop)->Prop}{p cpos apos:Pos}
theorem O9{j k n:Nat}{x:Str}{ps:AK}(c:mD X.prog X.w X.K X.mg X.base j n x ps m)(J:Room k X.A)(B:Gl X x)(O:ZA X (e::es) ga)(A:∀ρ ds,ga ρ=some ds->ds.length=n)(T:j<=k:=by first|exact qv _|lia)(f:b9 x:=by decide)(N:starEach (e::es) X.env=(false,eval e X.env)::starEach es X.env:=by rfl)(b:(backTo cpos (starEach es X.env)).any (·.1)=false:=by rfl):dX X (.Call (.Name x p) (e::es) [] cpos) (jK ga m):=by
 obtain⟨a,Z,F,hb,y,U⟩:=c;refine⟨PE.imp (vz  (F.mono T) J B U y hb .nil gn O.un f N b) λσ H Q g=>?_⟩;obtain⟨ρ,t,W,Y,G,R,w,⟨ds,i,z,P,I⟩,k⟩:=g;refine tAof.at i w.sr λvs V C s q u=>?_;have h:=w.grow s;rw[w5];refine⟨by rw[q.length,A ρ ds i],ds,t,C,z,q,u.seen,h.hw,P,λd t' E v H' G' l r=>?_⟩;obtain⟨M,L,S⟩:=h.after l;exact k d t' (I d t' E) v H' G' M L S (s.g.trans l.g) r
end
section
variable {X:Cx}{k:Nat}{m:Str}{pos apos:Pos}{e o:Expr}{es:AL}{ta:TE}{t:TA}{ι:Type}{Cf:ι->Addr}{S:ι->Sp}
theorem Ia{pl:Sem Bool}(J:PE X o ta)(C:∀i:ι,∃f j ps,Cls X.K (Cf i)/\c9 X.K (Cf i) m f/\FnOk X.prog X.w X.K X.mg X.base bW k f j ps (S i)/\Binds X.K j ps [])(D:Room k X.A)(L:PA X (e::es) t)(p:starEach (e::es) X.env=(false,eval e X.env)::starEach es X.env:=by rfl)(g:(backTo pos (starEach es X.env)).any (·.1)=false:=by rfl)(P:eval (.Call (.Attribute o m apos) (e::es) [] pos) X.env=(do
  let B <-eval o X.env
  standAt apos.atName
  let (f,first) <-holding [B] (getMethod B m pl)
  callWith pos f first (backTo pos (starEach (e::es) X.env)) (backToKw pos (keywordEach [] X.env))):=by rfl):
 PE X (.Call (.Attribute o m apos) (e::es) [] pos) (λσ H Q=>ta σ H λx b=>∃i a w n,x=.ref a/\b a=some (.ins (Cf i) w n)/\n.lookup m=none/\t σ b λvs z=>S i (x::vs) z Q E0):=by
 intro pins s σ H Q I h;refine W.methodCall_KW  (aI (J pins s σ H _ I h) λu R c=>?_) P;obtain⟨x,b,A,M,i,a,w,n,G,O,l,q⟩:=c;subst G;obtain rfl:=M;obtain⟨f,j,ps,E,y,F,hb⟩:=C i;refine FP A O E y l (W.callWith_K   I.ok.mod.kin y.kp (aI (L pos pins R σ b _ A q) λus T d=>?_) p g);obtain⟨vs,z,v,r,N⟩:=d;refine⟨v.kIn,(oP  (vs:=.ref a::vs)   F D hb .nil gn v (.cons rfl r) ?_)⟩;rw[w5];exact N
end
abbrev Hf:=AQ->Hs->(D->Hs->Prop)->Prop
def OkTb(P:P7)(w:World)(K:W7)(d:AE)(a:Heap)(k:Nat)(m:Str){b:Type}(sp:b->Sp):List (Str×b)->Prop
 | []=>True
 | (c,e)::r=>(∃ps,di P w K d a k c m ps (sp e))/\OkTb P w K d a k m sp r
theorem OkTb.look{P:P7}{w:World}{g:AE}{a:Heap}{k:Nat}{m:Str}{b:Type}{sp:b->Sp}{c:Str}{f:b}:∀{d:List (Str×b)},OkTb P w K g a k m sp d->d.lookup c=some f->∃ps,di P w K g a k c m ps (sp f)
 | [],_,e=>by cases e
 | (l,i)::r,h,e=>by
   rw[List.lookup_cons]at e
   split at e
   .rename_i j
    cases e;rw[eq_of_beq j];exact h.1
   .exact OkTb.look h.2 e
def iP(t:Hs):D->Option (Str×AK)
 | .obj c ks _=>some (c,ks)
 | .adr a=>match t a with
   | some (.ins c _ _ ks _ _)=>some (c,ks)
   | _=>none
 | _=>none
def gK(m:Str)(e:List (Str×Hf))(f:AV)(b:AW):He:=λρ t Q=>∃x ds c ks a R,f ρ=some x/\b ρ=some ds/\iP t x=some (c,ks)/\m∉ks/\e.lookup c=some a/\a (x::ds) t R/\∀d t',R d t'->Q d t'
def iQ(m:Str)(b:List (Str×(AQ->Option D)))(x:D)(ds:AQ):Option D:=match x with
 | .obj c ks vs=>if m∈ks then none else (b.lookup c).bind λa=>a (.obj c ks vs::ds)
 | _=>none
def iR(m:Str)(c:List (Str×(AQ->Option D)))(b:AV)(a:AW):AV:=λρ=>(b ρ).bind λx=>(a ρ).bind λds=>iQ m c x ds
section
variable {X:Cx}{e o:Expr}{es:AL}{fo:AV}{ga:AW}{p cpos apos:Pos}{m:Str}
theorem O_{j k n:Nat}{Z:List (Str×Hf)}{pl:Sem Bool}(T:OkTb X.prog X.w X.K X.mg X.base j m (dP X.K (n+1)) Z)(hr:Room k X.A)(ho:ZE X o fo)(y:ZA X (e::es) ga)(hl:∀ρ ds,ga ρ=some ds->ds.length=n)(hj:j<=k:=by first|exact qv _|lia)(O:starEach (e::es) X.env=(false,eval e X.env)::starEach es X.env:=by rfl)(hpl:(backTo cpos (starEach es X.env)).any (·.1)=false:=by rfl)(ht:eval (.Call (.Attribute o m apos) (e::es) [] cpos) X.env=(do
  let ov <-eval o X.env
  standAt apos.atName
  let (f,first) <-holding [ov] (getMethod ov m pl)
  callWith cpos f first (backTo cpos (starEach (e::es) X.env)) (backToKw cpos (keywordEach [] X.env))):=by rfl):dX X (.Call (.Attribute o m apos) (e::es) [] cpos) (gK m Z fo ga):=by
 have hm:∀i:{ p:Addr×Hf // ∃c ps f b,FnOk X.prog X.w X.K X.mg X.base bW j f b ps (dP X.K (n+1) p.2)/\Binds X.K b ps []/\W.nsIn X.K mainGlobals c=some (some (.ref p.1))/\Cls X.K p.1/\c9 X.K p.1 m f },∃f b ps,Cls X.K i.1.1/\c9 X.K i.1.1 m f/\FnOk X.prog X.w X.K X.mg X.base bW k f b ps (dP X.K (n+1) i.1.2)/\Binds X.K b ps []:=λi=>by
  obtain⟨c,ps,f,b,F,hb,u,A,L⟩:=i.2;exact⟨f,b,ps,A,L,F.mono hj,hb⟩
 refine⟨PE.imp (Ia ho.un hm hr y.un O hpl ht) λσ H Q I=>?_⟩;obtain⟨ρ,t,H0,G0,G,R,w,⟨x,ds,c,ks,fn,R',h1,Y,h,h4,h5,h6,h7⟩,kk⟩:=I;obtain⟨ps,C,f,b,F,hb,u,A,L⟩:=T.look h5;refine tOf.at h1 w.sr λv H1 G1 D B M=>?_;have z:=w.grow D
 have E:∃a s xs,v=.ref a/\H1 a=some (.ins C s (ks.zip xs)):=by
  unfold iP at h
  split at h
  .cases h
   obtain⟨a,C',s,xs,rfl,S,g,l,q⟩:=B;rw[u]at S;cases S;exact⟨a,s,xs,rfl,M.seen _ _ g⟩
  .rename_i a
   split at h
   .rename_i c' C' s ks' vs ds' y
    cases h;subst B;obtain⟨o1,o2,o3⟩:=z.ok a _ y;rw[u]at o1;cases o1;exact⟨a,s,vs,rfl,z.hw.h a _ y⟩
   .cases h
  .cases h
 obtain⟨a,s,xs,rfl,N⟩:=E;refine⟨⟨(C,fn),c,ps,f,b,F,hb,u,A,L⟩,a,s,_,rfl,N,mu h4,tAof.at Y M λvs H2 G2 J U s2=>?_⟩;have w2:=z.grow J;refine⟨by rw[qt,U.length,hl ρ ds Y],x::ds,t,G2,R',.cons (B.mono J.g) U,s2.seen,w2.hw,h6,λd t' hd v H' G' V r=>?_⟩;obtain⟨H3,f3,w3⟩:=w2.after V;exact kk d t' (h7 d t' hd) v H' G' H3 f3 w3 ((D.g.trans J.g).trans V.g) r
theorem Pa{j k n:Nat}{w:List (Str×(AQ->Option D))}{pl:Sem Bool}(T:OkTb X.prog X.w X.K X.mg X.base j m (bg X.K (n+1)) w)(Y:Room k X.A)(U:ZE X o fo)(ha:ZA X (e::es) ga)(R:∀ρ ds,ga ρ=some ds->ds.length=n)(V:j<=k:=by first|exact qv _|lia)(B:starEach (e::es) X.env=(false,eval e X.env)::starEach es X.env:=by rfl)(t:(backTo cpos (starEach es X.env)).any (·.1)=false:=by rfl)(ua:eval (.Call (.Attribute o m apos) (e::es) [] cpos) X.env=(do
  let O <-eval o X.env
  standAt apos.atName
  let (f,first) <-holding [O] (getMethod O m pl)
  callWith cpos f first (backTo cpos (starEach (e::es) X.env)) (backToKw cpos (keywordEach [] X.env))):=by rfl):ZE X (.Call (.Attribute o m apos) (e::es) [] cpos) (iR m w fo ga):=by
 have hm:∀i:{ p:Addr×(AQ->Option D) // ∃c ps f b,FnOk X.prog X.w X.K X.mg X.base bW j f b ps (bg X.K (n+1) p.2)/\Binds X.K b ps []/\W.nsIn X.K mainGlobals c=some (some (.ref p.1))/\Cls X.K p.1/\c9 X.K p.1 m f },∃f b ps,Cls X.K i.1.1/\c9 X.K i.1.1 m f/\FnOk X.prog X.w X.K X.mg X.base bW k f b ps (bg X.K (n+1) i.1.2)/\Binds X.K b ps []:=λi=>by
  obtain⟨c,ps,f,b,F,hb,z,A,E⟩:=i.2;exact⟨f,b,ps,A,E,F.mono V,hb⟩
 refine⟨PE.imp (Ia U.un hm Y ha.un B t ua) λσ H Q r=>?_⟩;obtain⟨ρ,d,H0,G0,G,h,s,q⟩:=r;obtain⟨x,h1,h⟩:=qa h;obtain⟨ds,N,h⟩:=qa h
 cases x with
 | obj c ks vs=>
   change (if m∈ks then none else (w.lookup c).bind λu=>u (.obj c ks vs::ds))=some d at h
   split at h
   .cases h
   .rename_i Z
    obtain⟨u,h5,S⟩:=qa h;obtain⟨ps,C,f,b,F,hb,z,A,E⟩:=T.look h5;refine tOf.at h1 s λv H1 G1 g1 L M=>?_;have y:=L;obtain⟨a,C',dx,xs,rfl,J,g,l,_⟩:=y;rw[z]at J;cases J;exact⟨⟨(C,u),c,ps,f,b,F,hb,z,A,E⟩,a,dx,_,rfl,M.seen _ _ g,mu Z,tAof.at N M λws H2 G2 I ub s2=>(⟨by rw[qt,ub.length,R ρ ds N],_,d,G2,s2.seen,.cons (L.mono I.g) ub,S,λv H' G' g' rd=>q v H' G' ((g1.trans I).trans g') rd⟩)⟩
 | _=>cases h
end
end
section
variable {K:W7}
def qB:D->Bool
 | .adr _=>true
 | d=>b7 d
def HS.pl:HS->Bool
 | .bls _=>true
 | .ins _ _ _ _ _ ds=>ds.all qB
def Rp.q{G G':Hp}(c:∀b ys,G b=some (HO.tup ys)->G' b=some (HO.tup ys)){d:D}{v:V}(h:qB d=true)(r:Rp K G d v):Rp K G' d v:=by
 cases d with
 | adr a=>exact r
 | _=>exact r.plain c h
theorem RpL.q{G G':Hp}(a:∀b ys,G b=some (HO.tup ys)->G' b=some (HO.tup ys)):∀{l:AQ}{xs:AN},l.all qB=true->RpL K G l xs->RpL K G' l xs
 | [],_,_,r=>r
 | d::l,_,h,r=>by
   rw[List.all_cons,Qe]at h;obtain⟨x,xs,e,g,q⟩:=r;exact⟨x,xs,e,g.q a h.1,RpL.q a h.2 q⟩
theorem HS.ok.q{G G':Hp}(d:∀b ys,G b=some (HO.tup ys)->G' b=some (HO.tup ys)):∀{s:HS},s.pl=true->s.ok K G->s.ok K G'
 | .bls _,_,_=>trivial
 | .ins ..,h,⟨a,b,c⟩=>⟨a,b,c.q d h⟩
def jL(P:P7)(w:World)(K:W7)(b:AE)(a:Heap)(k n:Nat)(c:Str)(ps:AK)(dvs:AQ)(m:Hf):Prop:=
 ∃C f d ds vs,W.nsIn K mainGlobals c=some (some (.ref C))/\b c=some (.ref C)/\Mk K C f/\FnOk P w K b a bW k f d ps (dP K n m)/\Binds K d ps ds/\Vals vs ds/\∀G,RpL K G dvs vs
def iS(c:Str)(shown:Bool)(g:AF)(dvs:AQ)(f:AW)(m:Hf):He:=λρ t Q=>∃ds,f (frz g ρ)=some ds/\∀x C e,t x=none->∃R,m (.adr x::(ds++dvs)) (pt t x (some (.ins c C e [] [] []))) R/\
 ∀d t',R d t'->(∀a s,t' a=some s->t a=some s\/s.pl=true)/\d=.non/\(shown=false->Q (.adr x) t')/\(shown=true->∃ks vs b,t' x=some (.ins c C e ks vs b)/\Q (.obj c ks b) (pt t' x none))
section
variable {X:Cx}{e:Expr}{es:AL}{ga:AW}{p cpos:Pos}{m:Hf}
theorem Ib(shown:Bool)(is:AF){k k' n:Nat}{c:Str}{ps:AK}{dvs:AQ}(O:jL X.prog X.w X.K X.mg X.base k (n+1) c ps dvs m)(hr:Room k' X.A)(hg:Gl X c)(ha:ZA X (e::es) ga)(hl:∀ρ ds,ga ρ=some ds->ds.length+dvs.length=n)(hk:k+1<=k':=by first|exact qv _|lia)(hdb:(c==("__debug__":Str))=false:=by decide)(he:starEach (e::es) X.env=(false,eval e X.env)::starEach es X.env:=by rfl)(T:(backTo cpos (starEach es X.env)).any (·.1)=false:=by rfl):
 dX X (.Call (.Name c p) (e::es) [] cpos) (iS c shown is dvs ga m):=by
 obtain⟨C,f,fd,dfs,dfv,hC,hm,mk,F,hb,hdv,hdd⟩:=O;refine⟨PE.imp (vA (E:=E0) mk F (hr.mono hk) hg hm hb hdv gn ha.un hdb he T) λσ H Q hx_=>?_⟩;obtain⟨ρ,t,H0,G0,G,R,w,⟨ds,h1,h2⟩,kk⟩:=hx_;obtain⟨Hb,wb,_⟩:=w.rebase;obtain⟨Gf,sf,ht⟩:=SR.frzT is wb.sr;have smf:Same G Gf:=sf.gr.g;refine tAof.at h1 sf λvs H1 V N r1 s1=>?_;intro x A hx0 W hne;have u:H x=none:=N.h.free hx0;have L:H A=none:=N.h.free W
 have hid1:=λa s e=>by
  have j:=w.hw.h a s e
  have h4:Gf a=none:=by
   refine Classical.byContradiction λz=>?_;have:=sf.gr.n a (w.no e) z;rw[wb.h0 a s e]at this;cases this
  refine Classical.byContradiction λz=>?_;have:=N.n a h4 z;rw[j]at this;cases this
 have tx:t x=none:=by
  cases z:t x with
  | none=>rfl
  | some s=>rw[w.hw.h x s z]at u;cases u
 have g1x:V x=none:=s1.seen.free hx0;have g1dx:V A=none:=s1.seen.free W;obtain⟨R',hi,hR⟩:=h2 x C A tx;refine⟨by rw[qt,qz,r1.length,(hdd V).length,hl _ ds h1],.adr x::(ds++dvs),_,V,R',.cons (by rw[Rp]) (r1.append (hdd V)),λa o g=>?_,⟨λa s e=>?_,λa s e=>?_,λa s e=>?_⟩,hi,λd t' hd v H' G' S rd=>?_⟩
 .have n1:a≠x:=λz=>by rw[z,g1x]at g;cases g
  have U:a≠A:=λz=>by rw[z,g1dx]at g;cases g
  rw[Yi n1,Yi U];exact s1.seen a o g
 .by_cases z:a=x
  .rw[z];exact g1x
  .rw[bw z]at e;exact hid1 a s e
 .by_cases z:a=x
  .subst z
   rw[Yo]at e;cases e;rw[Yk];rfl
  .rw[bw z]at e
   have j:=N.h _ _ (w.hw.h a s e)
   have U:a≠A:=λy=>by rw[y,W]at j;cases j
   rw[Yi z,Yi U];exact j
 .by_cases z:a=x
  .subst z
   rw[Yo]at e;cases e;exact⟨hC,rfl,.nil⟩
  .rw[bw z]at e
   exact(w.ok a s e).mono (smf.trans N.g)
 obtain⟨T,rfl,hsf,hst⟩:=hR d t' hd;rw[Rp]at rd;subst rd;refine⟨rfl,?_⟩;have Z:∀a,a≠x->pt t x (some (HS.ins c C A [] [] [])) a=t a:=λa z=>bw z
 have J:∀a,t a=none->t' a≠none->H a=none:=λa h h'=>by
  by_cases z:a=x
  .rw[z];exact u
  .have j:=S.new a (by rw[Z a z];exact h) h'
   rw[Yi z]at j;by_cases y:a=A
   .rw[y];exact L
   .rw[Yi y]at j;exact N.h.free j
 have E:∀a,t' a=none->t a=none:=λa h=>by
  have j:=S.grow a h;by_cases z:a=x
  .rw[z];exact tx
  .rw[Z a z]at j;exact j
 have l:=λa o h g=>by
  have j:=N.h a o g
  have n1:a≠x:=λz=>by rw[z,u]at g;cases g
  have U:a≠A:=λz=>by rw[z,L]at g;cases g
  exact S.keep a o (by rw[Z a n1];exact h) (by rw[Yi n1,Yi U];exact j)
 let M:Hp:=λa=>if H a=none then G' a else G a
 have Y:∀{a},H a=none->M a=G' a:=λh=>if_pos h;have B:∀{a},H a≠none->M a=G a:=λh=>if_neg h
 have I:Same G M:=λa o g=>by
  rw[B (by rw[w.sr.seen a o g];exact λy=>nomatch y)];exact g
 have hs2:Same M H':=λa o g=>by
  by_cases z:H a=none
  .rw[Y z]at g;exact S.s a o g
  .rw[B z]at g
   have tn:t a=none:=by
    cases y:t a with
    | none=>rfl
    | some s=>rw[w.no y]at g;cases g
   exact l a o tn (w.sr.seen a o g)
 have tup:∀b ys,G' b=some (HO.tup ys)->M b=some (HO.tup ys):=λb ys hb=>by
  by_cases z:H b=none
  .rw[Y z];exact hb
  .rw[B z]
   refine ht b ys ?_
   have hb1:V b=some (HO.tup ys):=by
    cases q:V b with
    | none=>
      have j:=S.n b q (by rw[hb];exact λy=>nomatch y);have n1:b≠x:=λy=>z (by rw[y];exact u);have U:b≠A:=λy=>z (by rw[y];exact L);rw[Yi n1,Yi U]at j;exact absurd (N.h.free j) z
    | some o=>
      have:=S.g _ _ q;rw[hb]at this;cases this;rfl
   cases q:Gf b with
   | none=>exact absurd (N.n b q (by rw[hb1];exact λy=>nomatch y)) z
   | some o=>
     have:=N.g _ _ q;rw[hb1]at this;cases this;rfl
 have r:HW X.K t' H' M:=⟨λa s e=>by
  by_cases z:H a=none
  .rw[Y z];exact S.hw.g a s e
  .rw[B z]
   cases y:t a with
   | none=>exact absurd (J a y (by rw[e];exact λq=>nomatch q)) z
   | some s'=>exact w.no y,S.hw.h,λa s e=>by
  rcases T a s e with h|h
  .exact(w.ok a s h).mono I
  .exact(S.hw.ok a s e).q tup h⟩
 have hn2:∀a,G a=none->M a≠none->H a=none:=λa h h'=>Classical.byContradiction λz=>h' (by rw[B z];exact h)
 cases shown with
 | false=>
   obtain⟨H3,f3,w3⟩:=w.after ⟨l,E,J,r,I,hs2,hn2⟩;exact kk _ _ (hsf rfl) _ H' M H3 f3 w3 I (by rw[Rp])
 | true=>
   obtain⟨ks,ws,es,hx,hq⟩:=hst rfl;have g2x:=r.g x _ hx
   have P:Same M (upd M x (.ins C A (ks.zip ws))):=λa o g=>by rw[Yi (Yl g g2x)];exact g
   obtain⟨o1,o2,o3⟩:=r.ok x _ hx
   obtain⟨H3,f3,w3⟩:=w.after (t':=pt t' x none) (H':=H')  ⟨l,λa h=>by
    by_cases z:a=x
    .rw[z];exact tx
    .rw[bw z]at h;exact E a h,λa h h'=>by
    by_cases z:a=x
    .rw[z];exact u
    .rw[bw z]at h';exact J a h h',⟨λa s e=>by
    have z:a≠x:=λz=>by rw[z,Yo]at e;cases e
    rw[bw z]at e
    rw[Yi z];exact r.g a s e,λa s e=>by
    have z:a≠x:=λz=>by rw[z,Yo]at e;cases e
    rw[bw z]at e
    exact r.h a s e,λa s e=>by
    have z:a≠x:=λz=>by rw[z,Yo]at e;cases e
    rw[bw z]at e
    exact(r.ok a s e).mono P⟩,I.trans P,λa o g=>by
    by_cases z:a=x
    .subst z
     rw[Yk]at g;rw[<-g];exact r.h a _ hx
    .rw[Yi z]at g;exact hs2 a o g,λa h h'=>by
    by_cases z:a=x
    .rw[z];exact u
    .rw[Yi z]at h';exact hn2 a h h'⟩
   refine kk _ _ hq _ H' _ H3 f3 w3 (I.trans P) ?_;rw[Rp];exact⟨x,C,A,ws,rfl,o1,Yk,o2,o3.mono P⟩
end
theorem A9{f:Str}{y:V}:∀{ks:AK}{vs:AN},f∉ks->vs.length=ks.length->bq f y (ks.zip vs)=(ks++[f]).zip (vs++[y])
 | [],[],_,_=>rfl
 | [],_::_,_,h=>nomatch h
 | _::_,[],_,h=>nomatch h
 | k::ks,v::vs,h,a=>by
   rw[List.zip_cons_cons,List.cons_append,List.cons_append,List.zip_cons_cons];show(if k=f then _ else (k,v)::bq f y (ks.zip vs))=_;rw[if_neg λz=>h (by rw[z];exact qh),A9 (λz=>h (qg _ z)) (by simpa using a)]
theorem Aft.put{t:Hs}{H G:Hp}{x:Addr}{s s':HS}(w:HW K t H G)(g:Same G H)(e:t x=some s)(f:s'.ok K G):Aft K t (pt t x (some s')) H G (upd H x s'.ho) G:=by
 have d:=w.g x s e;refine⟨λa o h c=>?_,λa h=>?_,λa h h'=>?_,⟨λa s b=>?_,λa s b=>?_,λa s b=>?_⟩,Same.refl _,λa o c=>?_,λa h h'=>absurd h h'⟩
 .have z:a≠x:=λz=>by rw[z,e]at h;cases h
  rw[Yi z];exact c
 .by_cases z:a=x
  .rw[z,Yo]at h;cases h
  .rw[bw z]at h;exact h
 .by_cases z:a=x
  .rw[z,e]at h;cases h
  .rw[bw z]at h';exact absurd h h'
 .by_cases z:a=x
  .rw[z];exact d
  .rw[bw z]at b;exact w.g a s b
 .by_cases z:a=x
  .subst z;rw[Yo]at b;cases b;exact Yk
  .rw[bw z]at b;rw[Yi z];exact w.h a s b
 .by_cases z:a=x
  .subst z;rw[Yo]at b;cases b;exact f
  .rw[bw z]at b;exact w.ok a s b
 .rw[Yi (Yl c d)];exact g a o c
def c1(i:Nat)(f:Str)(cs:AK)(fe:AV):Hm:=λρ t Q=>∃x c C a ks vs ds d,ρ[i]?=some (↑(.adr x))/\t x=some (.ins c C a ks vs ds)/\c∈cs/\f∉ks/\ks.length<1000/\fe ρ=some d/\∀v,Q (.nx ρ (pt t x (some (.ins c C a (ks++[f]) (vs++[v]) (ds++[d])))))
def mE(i:Nat)(f:Str)(cs:AK):Hm:=λρ t Q=>∃x c C a ks vs ds,ρ[i]?=some (↑(.adr x))/\t x=some (.ins c C a ks vs ds)/\c∈cs/\f∉ks/\ks.length<1000/\∀l,t l=none->Q (.nx ρ (pt (pt t l (some (.bls []))) x (some (.ins c C a (ks++[f]) (vs++[.ref l]) (ds++[.adr l])))))
abbrev fZ:AK:=["hand","row","seen"]
def mF(i:Nat):Hm:=λρ t Q=>∃x C d e c f a b n,ρ[i]?=some (↑(.adr x))/\t x=some (.ins "Rowed" C d fZ [e,c,f] [a,b,.int n])/\Q (.nx ρ (pt t x (some (.ins "Rowed" C d fZ [e,c,.int (n+1)] [a,b,.int (n+1)]))))
def mG(i:Nat)(fe:AV):Hm:=λρ t Q=>∃b h l y k,ρ[i]?=some (↑(aU b h (.adr l)))/\t l=some (.bls y)/\y.length<1000000/\fe ρ=some (.bl k)/\Q (.nx ρ (pt t l (some (.bls (y++[k])))))
section
variable {X:Cx}{e:Expr}{fe:AV}{pos p1 tpos:Pos}{f x:Str}{cs:AK}
def A_{g b H G:Hp}{σ:L2.St}{ρ:Ro}{i:Nat}{a:Addr}(s:SR K g b σ H G ρ)(h:ρ[i]?=some (↑(.adr a))):σ[i]?=some (some (V.ref a)):=by
 obtain⟨v,c,d⟩:=s.sh i _ h;rw[c,d]
def Ic{ks:AK}{vs:AN}(h:vs.length=ks.length):(ks.zip vs).length=ks.length:=by
 rw[List.length_zip,h,Nat.min_self]
theorem f7(i:Nat)(j:∀c∈cs,CF X.K c f)(s:ZE X e fe)(A:X.N[i]?=some x:=by rfl)(O:eG X.env.scope x:=by trivial)(N:b9 x:=by decide)(k:eZ x:=by decide)(hs:swapsWith e (some (.Attribute (.Name x p1) f tpos)) pos.line X.env=pure false:=by rfl):
 dO X (.Assign [.Attribute (.Name x p1) f tpos] e pos) (c1 i f cs fe):=⟨PS.imp (kq (fH A O N k) s.un hs) λF σ H l=>by
 obtain⟨ρ,t,U,W,G,Q,w,⟨a,c,C,b,ks,vs,ds,d,q,m,B,p,T,u,M⟩,r⟩:=l;refine tOf.at u w.sr λy V z P R n=>?_;have g:=w.grow P;obtain⟨o,h,v⟩:=g.ok a _ m;obtain⟨J,E⟩:=j c B C o;refine⟨_,A_ n q,a,C,b,_,rfl,g.hw.h a _ m,J,E,by rw[Ic h];exact T,?_⟩
 have e1:HO.ins C b (bq f y (ks.zip vs))=HS.ho (.ins c C b (ks++[f]) (vs++[y]) (ds++[d])):=by rw[A9 p h];rfl
 rw[e1];obtain⟨L,I,S⟩:=g.after (Aft.put g.hw n.seen m (s':=.ins c C b (ks++[f]) (vs++[y]) (ds++[d])) ⟨o,by simp[h],v.append (.one R)⟩)
 exact r _ (M y) σ _ z L I S⟩
theorem Aft.add{t:Hs}{H G:Hp}{l:Addr}{s:HS}(w:HW K t H G)(g:Same G H)(h:H l=none)(j:s.ok K G):Aft K t (pt t l (some s)) H G (upd H l s.ho) G:=by
 have d:=g.free h
 have k:t l=none:=by
  cases z:t l with
  | none=>rfl
  | some x=>rw[w.h l x z]at h;cases h
 refine⟨λa o _ c=>?_,λa h=>?_,λa i h'=>?_,⟨λa s b=>?_,λa s b=>?_,λa s b=>?_⟩,Same.refl _,λa o c=>?_,λa h h'=>absurd h h'⟩
 .rw[Yi (Yl c h)];exact c
 .by_cases z:a=l
  .rw[z];exact k
  .rw[bw z]at h;exact h
 .by_cases z:a=l
  .rw[z];exact h
  .rw[bw z]at h';exact absurd i h'
 .by_cases z:a=l
  .rw[z];exact d
  .rw[bw z]at b;exact w.g a s b
 .by_cases z:a=l
  .subst z;rw[Yo]at b;cases b;exact Yk
  .rw[bw z]at b;rw[Yi z];exact w.h a s b
 .by_cases z:a=l
  .subst z;rw[Yo]at b;cases b;exact j
  .rw[bw z]at b;exact w.ok a s b
 .rw[Yi (Yl c d)];exact g a o c
theorem Pb(i:Nat){r:Pos}(k:∀c∈cs,CF X.K c f)(A:X.N[i]?=some x:=by rfl)(hv:eG X.env.scope x:=by trivial)(L:b9 x:=by decide)(n:eZ x:=by decide)(hs:swapsWith (.List [] r) (some (.Attribute (.Name x p1) f tpos)) pos.line X.env=pure false:=by rfl):
 dO X (.Assign [.Attribute (.Name x p1) f tpos] (.List [] r) pos) (mE i f cs):=⟨PS.imp (kq (fH A hv L n) (ku eI) hs) λF σ H j=>by
 obtain⟨ρ,t,U,V,G,Q,w,⟨a,c,C,d,ks,vs,ds,s,h,B,O,S,R⟩,u⟩:=j;refine⟨Qh _,λl o=>?_⟩
 have p:t l=none:=by
  cases z:t l with
  | none=>rfl
  | some x=>rw[w.hw.h l x z]at o;cases o
 obtain⟨q,m,v⟩:=w.ok a _ h;obtain⟨I,N⟩:=k c B C q;obtain⟨T,E,b⟩:=w.after (Aft.add (s:=.bls []) w.hw w.sr.seen o trivial)
 have g:pt t l (some (.bls [])) a=some (.ins c C d ks vs ds):=by rw[bw (λz=>by rw[z,p]at h;cases h)];exact h
 refine⟨_,A_ b.sr s,a,C,d,_,rfl,b.hw.h a _ g,I,N,by rw[Ic m];exact S,?_⟩
 have e1:HO.ins C d (bq f (.ref l) (ks.zip vs))=HS.ho (.ins c C d (ks++[f]) (vs++[.ref l]) (ds++[.adr l])):=by rw[A9 O m];rfl
 rw[e1];obtain⟨y,J,P⟩:=b.after (Aft.put b.hw b.sr.seen g (s':=.ins c C d (ks++[f]) (vs++[.ref l]) (ds++[.adr l])) ⟨q,by simp[m],v.append (.one (by rw[Rp]))⟩)
 exact u _ (R l p) σ _ G y (E.trans J) P⟩
theorem Ba(i:Nat){m:Pos}{j}(k:CF X.K "Rowed" "seen")(P:X.N[i]?=some x:=by rfl)(p:eG X.env.scope x:=by trivial)(J:b9 x:=by decide)(c:eZ x:=by decide):dO X (.AugAssign (.Attribute (.Name x p1) "seen" tpos) .Add (.Constant (.int 1) j m) pos) (mF i):=
 ⟨PS.imp (LH (fH P p J c) j5 vq) λF σ H d=>by
  obtain⟨ρ,t,Y,W,G,Q,w,⟨a,C,g,v,l,V,u,y,n,s,b,L⟩,r⟩:=d;obtain⟨h,U,A⟩:=w.ok a _ b;obtain⟨E,N⟩:=k C h;obtain⟨R,T,S,I,q,O,M⟩:=A.three;cases I;subst M;refine⟨_,A_ w.sr s,a,C,g,_,.int n,rfl,w.hw.h a _ b,E,N,rfl,n,1,rfl,rfl,g,_,w.hw.h a _ b,by show 3<1000;decide,?_⟩;obtain⟨o,B,z⟩:=w.after (Aft.put w.hw w.sr.seen b (s':=.ins "Rowed" C g fZ [v,l,.int (n+1)] [u,y,.int (n+1)]) ⟨h,rfl,.cons q (.cons O (.one (by rw[Rp])))⟩)
  exact r _ L σ _ G o B z⟩
theorem Bb(i:Nat){p d c:Pos}(k:CF X.K "Watch" "truths")(he:ZE X e fe)(I:X.N[i]?=some x:=by rfl)(hv:eG X.env.scope x:=by trivial)(J:b9 x:=by decide)(A:eZ x:=by decide)(u:swapsWith (.Call (.Attribute (.Attribute (.Name x p1) "truths" p) "append" d) [e] [] c) none pos.line X.env=pure false:=by rfl)(hs:starEach [e] X.env=[(false,eval e X.env)]:=by rfl)(o:zL X c [e]:=by rfl)(m:(d.endLine==c.line)=true:=by rfl)(j:attributeBase (.Attribute (.Name x p1) "truths" p) "append" X.env (eval (.Attribute (.Name x p1) "truths" p) X.env)=eval (.Attribute (.Name x p1) "truths" p) X.env:=by rfl)(z:attributeBase (.Name x p1) "truths" X.env (eval (.Name x p1) X.env)=eval (.Name x p1) X.env:=by rfl):
 dO X (.Expr (.Call (.Attribute (.Attribute (.Name x p1) "truths" p) "append" d) [e] [] c) pos) (mG i fe):=
 ⟨PS.imp (j_ (hE PySem.F.plainAttrs_list PySem.F.slot_list_append PySem.F.type_list_append vZ (vo (fH I hv J A) z) (eJ he.un eI hs) j o m hs rfl) u) λF σ H s=>by
  obtain⟨ρ,t,H0,G0,G,Q,w,⟨b,h,l,y,r,N,B,U,L,Y⟩,P⟩:=s;obtain⟨v,W,q2⟩:=w.sr.sh i _ N;obtain⟨a,C,dx,xs,rfl,n,g,lx,q⟩:=q2;obtain⟨y1,y2,y3,rfl,r1,r2,r3⟩:=q.three;subst r3;refine⟨_,W,a,C,dx,_,.ref l,rfl,w.sr.seen _ _ g,(k C n).1,(k C n).2,rfl,.inl ⟨rfl,_,SqL.of (w.hw.h l _ B)⟩,tOf.at L w.sr λv H1 S Z R M=>?_⟩;subst R;have E:=w.grow Z;refine⟨l,y.map V.bl,_,rfl,rfl,E.hw.h l _ B,?_,?_⟩
  .rw[qf]
   exact Qi U (ia (qv _))
  .obtain⟨T,f4,O⟩:=E.after (Aft.put E.hw M.seen B (s':=.bls (y++[r])) trivial)
   have e2:HS.ho (.bls (y++[r]))=HO.lst (y.map V.bl++[V.bl r]):=by
    show HO.lst ((y++[r]).map V.bl)=_;rw[Qk];rfl
   have:=P _ Y σ _ S T f4 O;rw[e2]at this
   exact this⟩
end
def Bc(P:P7)(w:World)(K:W7)(d:AE)(b:Heap)(k n:Nat)(c f:Str)(ps:AK)(m:Hf):Prop:=
 ∃C a e mc,d c=some (.ref C)/\FnOk P w K d b bW k a e ps (dP K n m)/\Binds K e ps []/\W.keepIn K (.ref a)=true/\W.specialIn K (.ref C) "__getattribute__"=some (some (.builtin "type.__getattribute__"))/\W.readsIn K C mc=true/\W.findCls K (.ref C) mc f=some (.val (.ref a))/\W.handedIn (.ref a)=true
section
variable {X:Cx}{e:Expr}{es:AL}{ga:AW}{p apos cpos:Pos}{m:Hf}
theorem Bd{j k n:Nat}{c f:Str}{ps:AK}{pl:Sem Bool}(O:Bc X.prog X.w X.K X.mg X.base j n c f ps m)(hr:Room k X.A)(hg:Gl X c)(V:ZA X (e::es) ga)(S:∀ρ ds,ga ρ=some ds->ds.length=n)(hj:j<=k:=by first|exact qv _|lia)(i:(c==("__debug__":Str))=false:=by decide)(y:starEach (e::es) X.env=(false,eval e X.env)::starEach es X.env:=by rfl)(o:(backTo cpos (starEach es X.env)).any (·.1)=false:=by rfl)(U:eval (.Call (.Attribute (.Name c p) f apos) (e::es) [] cpos) X.env=(do
  let L <-eval (.Name c p) X.env
  standAt apos.atName
  let (f,first) <-holding [L] (getMethod L f pl)
  callWith cpos f first (backTo cpos (starEach (e::es) X.env)) (backToKw cpos (keywordEach [] X.env))):=by rfl):dX X (.Call (.Attribute (.Name c p) f apos) (e::es) [] cpos) (jK ga m):=by
 obtain⟨C,a,fd,mc,hm,F,hb,hk,hs,x,hf,Y⟩:=O
 have T:PE X (.Call (.Attribute (.Name c p) f apos) (e::es) [] cpos) (kx (dP X.K n m) [] E0 (tAof X.K ga)):=by
  intro pins s σ H Q I h;refine W.methodCall_KW  (aI (tR (v:=.ref C) hg hm rfl i pins s σ H (λv g=>v=.ref C/\g=H) I ⟨rfl,rfl⟩) λu z b=>?_) U;obtain⟨v,g,q,P,ev,eh⟩:=b;subst ev;subst eh;obtain rfl:=P;refine W.method_cls q.kIn hs (W.cls_value q.kIn x hf Y (W.callWith_K   I.ok.mod.kin hk (aI (V.un cpos pins _ σ g _ (q.tok _) h) λus s2 l=>?_) y o));obtain⟨vs,H2,M,r,q2⟩:=l;exact⟨M.kIn,oP F (hr.mono hj) hb .nil gn M r q2⟩
 refine⟨PE.imp T λσ H Q b=>?_⟩;obtain⟨ρ,t,H0,G0,G,R,w,⟨ds,N,R',h2,Z⟩,k⟩:=b;refine tAof.at N w.sr λvs g D B E z=>?_;have A:=w.grow B;rw[w5];refine⟨by rw[E.length,S ρ ds N],ds,t,D,R',E,z.seen,A.hw,h2,λd t' hd v H' G' J r=>?_⟩;obtain⟨H3,f3,w3⟩:=A.after J;exact k d t' (Z d t' hd) v H' G' H3 f3 w3 (B.g.trans J.g) r
end
def iT(g:Hm):AS:=λρ=>rf (g ρ (λ_=>none) fun
 | .rt (.bl true) _=>True
 | _=>False) (some (.rt (.bl true)))
section
variable {X:Cx}{e:Expr}{fe:He}{a b sts:List Stmt}{fs gs g:Hm}{pos cp np:Pos}
theorem Be(h:dj X sts g):ZB X sts (iT g):=⟨PSs.imp h.un λF σ H f=>by
 obtain⟨ρ,out,n,k,G,i,s,c⟩:=f;obtain⟨p,i⟩:=OW i;cases i;refine⟨ρ,λ_=>none,n,k,G,_,⟨s,λ_ _ e=>(nomatch ( e)),λ_ _ e=>(nomatch ( e)),λ_ _ e=>(nomatch ( e))⟩,p,λo j=>?_⟩
 split at j
 .exact λv H' G' r m q l=>by
   have d:=q.aft m rfl;exact c v H' G' ⟨λa o e=>d.keep a o rfl e,d.g,d.s,d.n⟩ l
 .exact j.elim⟩
end
end
section
variable {K:W7}
def Pc(K:W7)(d c:Str)(b:Bool):Prop:=∃C a,W.nsIn K mainGlobals c=some (some (.ref C))/\W.nsIn K mainGlobals d=some (some (.ref a))/\Cls K C/\W.findIn K (.ref C) "__class__"=some (some (.builtin "object.__class__"))/\
 W.specialIn K (.builtin "object.__class__") "__get__"=some (some (.builtin "getset_descriptor.__get__"))/\W.takesIn K (.builtin "object.__class__")=some true/\W.mroIn K C (.type "object")=some true/\W.kitOne K (.ref C) (.ref a)=some b
def isk_mk{h c:Str}{b:Bool}{C d:Addr}(a:W.nsIn K mainGlobals c=some (some (.ref C)))(j:W.nsIn K mainGlobals h=some (some (.ref d)))(n:W.plainGet K C Str.empty=true)(o:W.hasDictIn K C=true)(l:W.plainOver K C=true)(i:W.findIn K (.ref C) "__setattr__"=some (some (.builtin "object.__setattr__")))(e:W.findIn K (.ref C) "__class__"=some (some (.builtin "object.__class__")))(f:W.specialIn K (.builtin "object.__class__") "__get__"=some (some (.builtin "getset_descriptor.__get__")))(g:W.takesIn K (.builtin "object.__class__")=some true)(m:W.mroIn K C (.type "object")=some true)(k:W.kitOne K (.ref C) (.ref d)=some b):Pc K h c b:=⟨C,d,a,j,⟨n,o,l,i⟩,e,f,g,m,k⟩
section
variable {X:Cx}{a:Expr}{fa:AV}{pos p p2:Pos}{c0:Str}
theorem iU{P:P7}{w:World}{d:AE}{b:Heap}{j k:Nat}{c m:Str}{ps:AK}{sp:Sp}(O:di P w K d b j c m ps sp)(h:j<=k:=by decide):di P w K d b k c m ps sp:=by
 obtain⟨C,f,e,F,r⟩:=O;exact⟨C,f,e,F.mono h,r⟩
end
def jM(K:W7)(c q:Str)(st:Stmt):Prop:=∃C f a,W.nsIn K mainGlobals c=some (some (.ref C))/\Mk K C f/\Fun K "__init__" q st f a
def iqc_mk{c q:Str}{st:Stmt}{C f:Addr}{g:Value}{j h:Option Addr}{e:Array (Option Value)}{kV d p b r:Value}(a:W.nsIn K mainGlobals c=some (some (.ref C)))(m:W.makesIn K C=true)(o:W.keepIn K (.ref C)=true)(i:W.findIn K (.ref C) "__init__"=some (some (.ref f)))(n:W.isFn K (.ref f)=true)(l:K.lookup f=some ⟨g,j,.func (W.fnOf "__init__" q (aDa st) (aCa st) (aAa st) .none kV d p h b r),e⟩)(s:W.codeIn K b q=true)(k:W.keepIn K (.ref f)=true):jM K c q st:=
 ⟨C,f,_,a,⟨m,i,n,o⟩,kK l s k⟩
structure Bf(K:W7)(x q:Str)(st:Stmt)(f:Addr)(fd:FuncData)(T:Addr)(t:Tok):Prop where
 ex:∃(oc:Value) (od:Option Addr) (kV doc pm:Value) (an:Option Addr) (cdv ct:Value) (osl:Array (Option Value)),
  fd=W.fnOf x q (aDa st) (aCa st) (aAa st) (.ref T) kV doc pm an cdv ct/\K.lookup f=some ⟨oc,od,.func fd,osl⟩/\W.codeIn K cdv q=true
 df:∃(oc:Value) (od:Option Addr) (n:Nat) (osl:Array (Option Value)),K.lookup T=some ⟨oc,od,.seq #[.int 0 t] n,osl⟩
def rm(K:W7)(c q:Str)(st:Stmt):Prop:=∃C f a T t,W.nsIn K mainGlobals c=some (some (.ref C))/\Mk K C f/\Bf K "__init__" q st f a T t
def iqz_mk{c q:Str}{st:Stmt}{C f T:Addr}{m h:Value}{s k o:Option Addr}{g b:Array (Option Value)}{kV j w e x:Value}{t:Tok}{u:Nat}(a:W.nsIn K mainGlobals c=some (some (.ref C)))(r:W.makesIn K C=true)(v:W.keepIn K (.ref C)=true)(i:W.findIn K (.ref C) "__init__"=some (some (.ref f)))(n:W.isFn K (.ref f)=true)(l:K.lookup f=some ⟨m,s,.func (W.fnOf "__init__" q (aDa st) (aCa st) (aAa st) (.ref T) kV j w o e x),g⟩)(p:W.codeIn K e q=true)(d:K.lookup T=some ⟨h,k,.seq #[.int 0 t] u,b⟩):rm K c q st:=
 ⟨C,f,_,T,t,a,⟨r,i,n,v⟩,⟨_,_,_,_,_,_,_,_,_,rfl,l,p⟩,_,_,_,_,d⟩
section
variable {P:P7}{w:World}{mg:AE}{base:Heap}
theorem f9{c x q:Str}{st:Stmt}{k n m:Nat}{N ps:AK}{g:Hm}(F:Mq K c x q st)(S:aD N ps (aAa st))(hb:∀{f:Addr}{d:Value}{A:Around}{b:List Env}{s:Shared}{H:Hp}{E:XK},Room k (A.deeper (envOfC q (aAa st) (~~~s) f d))->dj (bV bW P w K mg base N q (aAa st) f d A b s H E).nox (aCa st) g)(l:N.length=n:=by rfl)(i:ps.length=m:=by rfl)(B:rg x q st ps:=by(intro _ _ _ _ _ _ us e;first|(obtain⟨_,rfl⟩:=el e;rfl)|(obtain⟨_,_,rfl⟩:=dB e;rfl)|(obtain⟨_,_,_,rfl⟩:=dC e;rfl))):di P w K mg base (k+1) c x ps (dP K m (bj n g)):=by
 obtain⟨C,f,p,a,r,j,h⟩:=F;exact⟨C,f,p,rk  h S l i λ_ _ _ _ _ _ o=>hb o,h.binds B,a,r,j⟩
theorem mH{c q:Str}{st:Stmt}{k n m:Nat}{N ps:AK}{g:Hm}(F:jM K c q st)(l:∀C,W.nsIn K mainGlobals c=some (some (.ref C))->mg c=some (.ref C))(S:aD N ps (aAa st))(hb:∀{f:Addr}{d:Value}{A:Around}{b:List Env}{s:Shared}{H:Hp}{E:XK},Room k (A.deeper (envOfC q (aAa st) (~~~s) f d))->dj (bV bW P w K mg base N q (aAa st) f d A b s H E).nox (aCa st) g)(j:N.length=n:=by rfl)(i:ps.length=m:=by rfl)(B:rg "__init__" q st ps:=by(intro _ _ _ _ _ _ us h;first|(obtain⟨_,_,rfl⟩:=dB h;rfl)|(obtain⟨_,_,_,rfl⟩:=dC h;rfl))):jL P w K mg base (k+1) m c ps [] (bj n g):=by
 obtain⟨C,f,o,a,p,e⟩:=F;exact⟨C,f,o,[],[],a,l C a,p,rk  e S j i λ_ _ _ _ _ _ r=>hb r,e.binds B,.nil,λG=>.nil⟩
end
def Kq(K:W7)(c f q:Str)(st:Stmt):Prop:=∃C a b mc,W.nsIn K mainGlobals c=some (some (.ref C))/\Fun K f q st a b/\W.specialIn K (.ref C) "__getattribute__"=some (some (.builtin "type.__getattribute__"))/\W.readsIn K C mc=true/\W.findCls K (.ref C) mc f=some (.val (.ref a))/\W.handedIn (.ref a)=true
def kq_mk{c f q:Str}{st:Stmt}{C a:Addr}{mc:Value}{m:Value}{o n:Option Addr}{j:Array (Option Value)}{kV d p b t:Value}(e:W.nsIn K mainGlobals c=some (some (.ref C)))(i:W.findIn K (.ref C) f=some (some (.ref a)))(l:K.lookup a=some ⟨m,o,.func (W.fnOf f q (aDa st) (aCa st) (aAa st) .none kV d p n b t),j⟩)(u:W.codeIn K b q=true)(k:W.keepIn K (.ref a)=true)(s:W.specialIn K (.ref C) "__getattribute__"=some (some (.builtin "type.__getattribute__")))(r:W.readsIn K C mc=true)(g:W.findCls K (.ref C) mc f=some (.val (.ref a)))(h:W.handedIn (.ref a)=true):Kq K c f q st:=⟨C,a,_,mc,e,kK l u k,s,r,g,h⟩
theorem Bg{P:P7}{w:World}{l:AE}{b:Heap}{c f q:Str}{st:Stmt}{k n m:Nat}{N ps:AK}{g:Hm}(F:Kq K c f q st)(t:∀C,W.nsIn K mainGlobals c=some (some (.ref C))->l c=some (.ref C))(S:aD N ps (aAa st))(hb:∀{f:Addr}{i:Value}{A:Around}{d:List Env}{s:Shared}{H:Hp}{E:XK},Room k (A.deeper (envOfC q (aAa st) (~~~s) f i))->dj (bV bW P w K l b N q (aAa st) f i A d s H E).nox (aCa st) g)(v:N.length=n:=by rfl)(x:ps.length=m:=by rfl)(B:rg f q st ps:=by(intro _ _ _ _ _ _ us o;first|(obtain⟨_,_,rfl⟩:=dB o;rfl)|(obtain⟨_,_,_,rfl⟩:=dC o;rfl))):Bc P w K l b (k+1) m c f ps (bj n g):=by
 obtain⟨C,a,u,mc,e,j,s,r,g',h⟩:=F;exact⟨C,a,u,mc,t C e,rk  j S v x λ_ _ _ _ _ _ p=>hb p,j.binds B,j.kp,s,r,g',h⟩
end
section
variable {K:W7}
def mI(c m:Str)(a:Hf)(b:AV):He:=λρ t Q=>∃ks vs R,b ρ=some (.obj c ks vs)/\m∉ks/\a [.obj c ks vs] t R/\∀d t',R d t'->Q d t'
def mJ(i:Nat):Hm:=λρ t Q=>∃b h l y k,ρ[i]?=some (↑(aU b h (.adr l)))/\t l=some (.bls (y++[k]))/\Q (.rt (.bl k) (pt t l (some (.bls y))))
section
variable {X:Cx}{o e c:Expr}{fo fb:AV}{fe:He}{fs gs:Hm}{pos apos cpos p1 p2:Pos}{m x cc:Str}
theorem Pd{j k:Nat}{ps:AK}{p:Hf}{pl:Sem Bool}(O:di X.prog X.w X.K X.mg X.base j cc m ps (dP X.K 1 p))(T:Room k X.A)(B:ZE X o fo)(hj:j<=k:=by first|exact qv _|lia)(ht:eval (.Call (.Attribute o m apos) [] [] pos) X.env=(do
  let A <-eval o X.env
  standAt apos.atName
  let (f,first) <-holding [A] (getMethod A m pl)
  callWith pos f first (backTo pos (starEach [] X.env)) (backToKw pos (keywordEach [] X.env))):=by rfl):dX X (.Call (.Attribute o m apos) [] [] pos) (mI cc m p fo):=by
 obtain⟨C,f,fd,F,hb,hn,V,N⟩:=O;refine⟨PE.imp (FR  B.un V N F (T.mono hj) hb .nil gn ht) λσ H Q b=>?_⟩;obtain⟨ρ,t,H0,G0,G,R,w,⟨ks,vs,M,J,Y,S,E⟩,kk⟩:=b;refine tOf.at J w.sr λv H1 P z s y=>?_;have i:=w.grow z;have h:=s;obtain⟨a,C',L,xs,rfl,n,g,l,q⟩:=h;rw[hn]at n;cases n;refine⟨a,L,_,rfl,y.seen _ _ g,mu Y,(⟨rfl,[.obj cc ks vs],t,P,M,.one s,y.seen,i.hw,S,λd t' Z v H' G' u r=>?_⟩)⟩;obtain⟨W,U,I⟩:=i.after u;exact kk d t' (E d t' Z) v H' G' W U I (z.g.trans u.g) r
def Pe{y:AH}{k:Bool}:((y++[k]).map V.bl)[((y++[k]).map V.bl).length-1]?=some (V.bl k):=by simp
def Pf{y:AH}{k:Bool}:((y++[k]).map V.bl).dropLast=y.map V.bl:=by simp
theorem Pg(i:Nat)(k:CF X.K "Watch" "truths")(R:X.N[i]?=some x:=by rfl)(N:eG X.env.scope x:=by trivial)(L:b9 x:=by decide)(r:eZ x:=by decide)(d:(apos.endLine==cpos.line)=true:=by rfl)(f:attributeBase (.Attribute (.Name x p1) "truths" p2) "pop" X.env (eval (.Attribute (.Name x p1) "truths" p2) X.env)=eval (.Attribute (.Name x p1) "truths" p2) X.env:=by rfl)(p:attributeBase (.Name x p1) "truths" X.env (eval (.Name x p1) X.env)=eval (.Name x p1) X.env:=by rfl):
 dO X (.Return (some (.Call (.Attribute (.Attribute (.Name x p1) "truths" p2) "pop" apos) [] [] cpos)) pos) (mJ i):=
 ⟨PS.imp (uL (vW PySem.F.plainAttrs_list PySem.F.slot_list_pop PySem.F.type_list_pop v5 (vo (fH R N L r) p) f d)) λF σ H s=>by
  obtain⟨ρ,t,U,G0,G,Q,w,⟨b,h,l,y,j,I,u,O⟩,c⟩:=s;obtain⟨v,J,P⟩:=w.sr.sh i _ I;obtain⟨a,C,z,xs,rfl,n,g,Z,q⟩:=P;obtain⟨T,Y,W,rfl,S,r2,M⟩:=q.three;subst M;refine⟨_,J,a,C,z,_,.ref l,rfl,w.sr.seen _ _ g,(k C n).1,(k C n).2,rfl,.inl ⟨rfl,_,SqL.of (w.hw.h l _ u)⟩,l,_,.bl j,rfl,rfl,w.hw.h l _ u,Pe,?_⟩;obtain⟨A,B,E⟩:=w.after (Aft.put w.hw w.sr.seen u (s':=.bls y) trivial);have:=c _ O (.bl j) _ G A B E.bare (by rw[Rp])
  have e2:HS.ho (.bls y)=HO.lst ((((y++[j]).map V.bl)).dropLast):=by rw[Pf];rfl
  rw[e2]at this
  exact this⟩
end
end
section
variable {K:W7}
def Bh(n:Nat)(b:Ha)(m:Hf):He:=λρ t Q=>b ρ t λds a=>ds.length=n/\∃R,m ds a R/\∀d t',R d t'->Q d t'
def Ie:D->Option Bool
 | .bl b=>some (!b)
 | _=>none
def Bi(f:AV):He:=λρ t Q=>∃d,f (dE t ρ)=some d/\b7 d=true/\Q d t
theorem Ph{X:Cx}{e:Expr}{f:AV}(h:ZE X e f):dX X e (Bi f):=⟨PE.imp h.un λσ H Q j=>by
 obtain⟨ρ,t,p,x,G,R,w,⟨d,i,hs,q⟩,k⟩:=j;obtain⟨n,u⟩:=w.thaw;refine⟨_,d,n,x,_,i,u,λv H' G' g r=>?_⟩
 have m:Gr H G H' (λa=>if t a=none then G' a else none):=by
  refine⟨g.h,λa o e=>?_,λa o e=>?_,λa i c=>?_⟩
  .have l:t a=none:=by
    cases z:t a with
    | none=>rfl
    | some s=>rw[w.no z]at e;cases e
   rw[if_pos l];exact g.g a o (by rw[iL l];exact e)
  .by_cases z:t a=none
   .simp  [if_pos z]at e
    exact g.s a o e
   .simp only[if_neg z]at e;cases e
  .by_cases z:t a=none
   .simp  [if_pos z]at c
    exact g.n a (by rw[iL z];exact i) c
   .simp only[if_neg z]at c;exact absurd rfl c
 refine k d t q v H' _ p OffH.refl (w.grow m) m.g (r.plain (λb ys e=>?_) hs);rw[if_pos ?_]
 .exact e
 .cases z:t b with
  | none=>rfl
  | some s=>
    have:=g.g b _ (ri z);rw[e]at this
    cases s<;>cases this⟩
section
variable {X:Cx}{e:Expr}{es:AL}{ga:Ha}{m:Hf}{p cpos pos np:Pos}{fe:He}{a b:List Stmt}{fs gs:Hm}
theorem Pj{j k n:Nat}{x:Str}{ps:AK}(c:mD X.prog X.w X.K X.mg X.base j n x ps m)(I:Room k X.A)(N:Gl X x)(S:mx X (e::es) ga)(z:j<=k:=by first|exact qv _|lia)(l:b9 x:=by decide)(he:starEach (e::es) X.env=(false,eval e X.env)::starEach es X.env:=by rfl)(h:(backTo cpos (starEach es X.env)).any (·.1)=false:=by rfl):dX X (.Call (.Name x p) (e::es) [] cpos) (Bh n ga m):=by
 obtain⟨a,fd,F,hb,O,Y⟩:=c;refine⟨PE.imp (vz  (F.mono z) I N Y O hb .nil gn S.un l he h) λσ H Q g=>?_⟩;obtain⟨ρ,t,P,W,G,R,w,q,V⟩:=g;refine⟨ρ,t,P,W,G,_,w,q,λds T i vs Z C Ha A o y u=>?_⟩;obtain⟨f,B,U,E⟩:=i;rw[w5];refine⟨by rw[u.length,f],ds,T,C,B,u,o.sr.seen,o.hw,U,λd t' i v H' G' s r=>?_⟩;obtain⟨L,J,D⟩:=o.after s;exact V d t' (E d t' i) v H' G' L (A.trans J) D (y.trans s.g) r
theorem Pk(h:dX X e fe)(D:dj X a fs)(hb:dj X b gs)(C:∀f,isTrue e X.env f=(do let v <-f;standAt e.pos;holding [v] (truthy v)):=by intro _;rfl):dO X (.If (.UnaryOp .Not e np) a b pos) (mC fe Ie fs gs):=⟨PS.imp (gY (j7 (tU h.un C)) D.un hb.un) λF σ H g=>by
 obtain⟨ρ,t,x,j,G,Q,w,q,c⟩:=g;refine⟨ρ,t,x,j,G,_,w,q,λd t' A v H' G' r n l E u=>?_⟩;obtain⟨k,z,y,B⟩:=A
 cases d<;>try cases z
 rename_i s;subst u;refine⟨s,rfl,?_⟩
 cases s with
 | false=>exact hP ⟨ρ,t',r,j,G',Q,l,y rfl,λo i=>(c o i).off n⟩
 | true=>exact hO ⟨ρ,t',r,j,G',Q,l,B rfl,λo i=>(c o i).off n⟩⟩
end
end
section
variable {K:W7}
def Pl(K:W7)(a:Addr)(n:Nat):It:=
 ⟨λi H=>∃xs x,SqL K H a xs/\xs.length=n/\xs.reverse[i]?=some x,λi H x H'=>H'=H/\∀xs,SqL K H a xs->xs.reverse[i]?=some x,λi _=>n<=i⟩
theorem Pm{P:P7}{w:World}{R:Expr}(a g:Addr)(n:Nat):dt P w K R (Pl K a n) [g] g (λi h=>i<=n/\h.IsRevIter g a ((n:Int)-1-(i:Int))) where
 mem:=by simp
 obj:=λi h st b hb=>by
  have e:=by simpa using hb
  subst e;obtain⟨_,o,e,c,d⟩:=st;exact⟨o,e,λv z=>by rw[d]at z;cases z⟩
 keep:=λi h h' st k=>⟨st.1,st.2.at λo e=>k g (by simp) o e⟩
 item:=by
  intro X J D F G i pins s σ H E I q st m;subst J D F;obtain⟨xs,x,L,Z,l⟩:=m;obtain⟨its,V,p,W⟩:=I.list L
  have Y:i<n:=by
   have:=(qo l).1;rw[List.length_reverse]at this;lia
  rw[List.getElem?_reverse (by lia)]at l;obtain⟨u,N,Q⟩:=V.get l;obtain⟨B,y,O,t,C,r⟩:=q g (by simp)
  have A:n-1-(i:Int)=((xs.length-1-i:Nat)):=by lia
  have f:=st.2;rw[A]at f;refine wpAny_pyNext_rev_item f p.isList  (by simpa using N) λh' j U=>?_;have T:=I.turned (t':=s.toks) (λb o hb e=>(U.2 b hb).trans e) B y t C r;obtain⟨o,e,c,d⟩:=id j
  have e1:(((xs.length-1-i:Nat))-1)=(n:Int)-1-((i+1:Nat)):=by lia
  refine⟨u,rfl,oI  e c d (by decide) ⟨x,H,T,Q,⟨rfl,λys M=>?_⟩,⟨by lia,by rw[<-e1];exact j⟩,λb hb=>(q b hb).1⟩⟩;rw[I.list_inj M L,List.getElem?_reverse (by lia)];exact l
 done:=by
  intro X J D F G i pins s σ H E I q st m;obtain⟨B,y,O,t,C,r⟩:=q g (by simp);have m:n<=i:=m
  have A:n-1-(i:Int)=-1:=by lia
  have f:=st.2;rw[A]at f
  exact wpAny_pyNext_rev_end (I.ok.hd G) f λh' S=>⟨rfl,I.turned  (λb o hb e=>S b o hb e) B y t C r⟩
 self:=λ_ _ _ _ _ st h=>wpAny_pyIter_revIter st.2 h
def iV:D->Option AQ
 | .lst l=>some l.reverse
 | _=>none
section
variable {X:Cx}{tg e:Expr}{f:AV}{p2 pos2:Pos}{P:P7}{w:World}{mg:AE}{base:Heap}
theorem Pn(u:Gl X "reversed")(B:X.mg "reversed"=none)(ha:ZE X e f)(hs:starEach [e] X.env=[(false,eval e X.env)]:=by rfl):ZI X tg (.Call (.Name "reversed" p2) [e] [] pos2) (b1 f iV):=⟨λpins s σ H R I A=>by
 obtain⟨ρ,ds,H0,G0,G,Y,O,h⟩:=A;obtain⟨d,T,S⟩:=dc Y
 cases d<;>try cases S
 rename_i l;refine M7 I u B (xm ha.un xl hs) (q:=λvs j=>∃a xs c,vs=[.ref a]/\Rd c a (.lst xs)/\Same c j/\RpL X.K c l xs/\Gr H G j c) (tAof.at (show Yb f ae ρ=some [.lst l] by simp[Yb,ae,T]) O λvs j c z N k=>?_) hs λvs j k r U=>?_
 .obtain⟨v,rfl,t⟩:=gv N
  obtain⟨a,xs,rfl,g,m⟩:=t;exact⟨a,xs,c,rfl,g,k.seen,m,z⟩
 .obtain⟨a,xs,c,rfl,g,L,m,z⟩:=U
  have J:SqL X.K j a xs:=.inl (Yy L g);obtain⟨its,t,p,W⟩:=r.list J;have E:=t.length;refine⟨a,xs,its,rfl,J,t,p.isList,?_⟩
  have Z:(its.toArray.size-1)=xs.length-1-(0:Int):=by
   rw[qk];lia
  have n:(k.heap.push (revObj a (its.toArray.size-1))).IsRevIter k.heap.objs.size a (xs.length-1-(0)):=by
   rw[Z];exact⟨_,qp _ rfl,rfl,rfl⟩
  refine wpAny_pyIter_revIter n (⟨k.heap.objs.size,[k.heap.objs.size],_,_,j,rfl,r.kept  λb o e=>qe _ e,Pm a _ xs.length,⟨Qh _,n⟩,λb hb=>?_,h _ j c z (k8 (by rw[List.length_reverse,<-m.length];exact W) λi H2 G2 e1 e2=>⟨λd V=>?_,λF=>?_⟩)⟩)
  .have e:=by simpa using hb
   subst e;exact r.fpOk (qv _) (r.hok.fresh (qv _))
  .obtain⟨x,C,Q⟩:=m.reverse.get V
   refine⟨⟨xs,x,.inl (Yy e2 (Yy e1 g)),rfl,C⟩,λy H3 q=>⟨q.1,?_⟩⟩;have:=q.2 xs (.inl (Yy e2 (Yy e1 g)));rw[C]at this;cases this;exact Q.mono e1
  .rw[List.length_reverse]at F
   rw[m.length]
   exact F⟩
theorem Bj{c q:Str}{st:Stmt}{k n m:Nat}{N ps:AK}{g:Hm}(F:rm K c q st)(U:∀C,W.nsIn K mainGlobals c=some (some (.ref C))->mg c=some (.ref C))(S:aD N ps (aAa st))(hb:∀{f:Addr}{b:Value}{A:Around}{i:List Env}{s:Shared}{H:Hp}{E:XK},Room k (A.deeper (envOfC q (aAa st) (~~~s) f b))->dj (bV bW P w K mg base N q (aAa st) f b A i s H E).nox (aCa st) g)(r:∀(T:Addr) (t:Tok) (kV j I:Value) (B:Option Addr) (b ct:Value) (us:AD),us.length=m->∃c:Option (Array Value)->Sem (List (Str×Value)),bindArgs (W.fnOf "__init__" q (aDa st) (aCa st) (aAa st) (.ref T) kV j I B b ct) ⟨us,[]⟩=seqItems? (.ref T)>>=c/\c (some #[.int 0 t])=pure (ps.zip us))(O:N.length=n:=by rfl)(J:ps.length=m:=by rfl):jL P w K mg base (k+1) m c ps [] (bj n g):=by
 obtain⟨C,f,fd,T,t,a,mk,L⟩:=F;obtain⟨oc,od,kV,j,I,B,b,ct,osl,rfl,D,u⟩:=L.ex;refine⟨C,f,_,[],[],a,U C a,mk,ky D u S (λvs H Q E h=>by rw[h.1,J]) λA i s H vs Q E hr h=>?_,λs us hK z=>?_,.nil,λG=>.nil⟩
 .obtain⟨z,ds,t,G,R,Y,M,y,e,q⟩:=h
  refine⟨_,((hb hr).un).nox,?_⟩
  have s0:SR K H G (start N vs) H G (Yd n ds):=by
   rw[<-O];exact SR.start  M Y
  refine⟨_,t,H,G,G,_,⟨s0,y.h,y.g,y.ok⟩,e,λo l=>?_⟩
  cases o with
  | rt d t'=>exact λv H' G' Z x p V=>q d t' l v H' G' (p.aft x rfl) V
  | nx ρ' t'=>exact λσ' H' G' Z x p=>q .non t' l .non H' G' (p.aft x rfl) (by rw[Rp])
  | bk ρ' t'=>exact l.elim
  | ct ρ' t'=>exact l.elim
 .rw[J,w5]at z
  obtain⟨_,_,_,_,l⟩:=L.df;obtain⟨c,h1,h2⟩:=r T t kV j I B b ct us z;have:=BindsTo.of_defaults  rfl (hK _ _ l) rfl h1 h2;rw[w5];exact this
end
end
section
variable {K:W7}
section
variable {X:Cx}{e:Expr}{f:AV}{pos:Pos}
def iW(f:AV):AV:=λρ=>((f ρ).bind pairsOf).bind λps=>if ps.length<a_ then some (.dct false ((bR [] [] ps).1.map D.int) (bR [] [] ps).2)else none
@[simp] theorem Ig:iW f ρ=((f ρ).bind pairsOf).bind λps=>if ps.length<a_ then some (.dct false ((bR [] [] ps).1.map D.int) (bR [] [] ps).2)else none:=jD rfl
end
end
section
section
variable {X:Cx}{e:Expr}{f:AV}{pos:Pos}
theorem Bm(B:X.calm=true){E b:Pos}(C:Gl X "dict")(w:X.mg "dict"=none)(j:ZC X e f)(g:starEach [e] X.env=[(false,eval e X.env)]:=by rfl)(n:(backTo b (starEach [] X.env)).any (·.1)=false:=by rfl):
 ZE X (.Call (.Name "dict" E) [e] [] b) (iW f):=⟨have j:=j.un;
 PE.imp (hy (Nm B) C w (by decide +kernel) (jv j ju g) (by decide) (by decide) g n) λσ H Q k=>by
  obtain⟨ρ,out,P,S,G,e,s,h⟩:=k;obtain⟨ps,O,e⟩:=qa e;obtain⟨d,T,o⟩:=qa O
  split at e
  case isFalse=>cases e
  rename_i c;cases e;refine tCAof.at (show Yb f ae ρ=some [d] by simp_all) s λvs U R K y u=>?_;obtain⟨v,rfl,x⟩:=ee y
  cases d with
  | lst l=>
    obtain⟨a,xs,rfl,J,I⟩:=x;obtain⟨r,L,t⟩:=G6 u.seen ( o) I;refine⟨a,xs,r,rfl,.inl J,L,by rw[t.length];exact c,λp M=>?_⟩;obtain⟨m,z,A,N,F⟩:=G7    t List.nodup_nil rfl .nil;have q:=Gr.new  u.seen M (.dK (fu [] r));refine h _ _ _ (K.trans q) ?_;exact⟨p,(bR [] [] ps).1.map V.int,m,rfl,x9 (by rw[<-z];exact Yk) A N,.ints _,F.mono q.g⟩
  | _=>cases o⟩
end
end
end M
namespace Lw
open PySem PySem.Spec PyProof.Rows L2 M
def top(i:Nat):Stmt:=PySem.Challenge.pw_duskbook_k42_whole_keepers_papers_win.main.body.getD i (.Pass ⟨0,0,0,0⟩)
def gt_EXCHANGED_KINDS:List (Str×Str):=[((Str.ofString "eithers"),(Str.ofString "eithers")),((Str.ofString "sums"),(Str.ofString "sums")),((Str.ofString "ifs"),(Str.ofString "nots")),((Str.ofString "nots"),(Str.ofString "ifs"))]
def Ih:AK:=[(Str.ofString "keeper"),(Str.ofString "storm")]
set_option maxHeartbeats 4000000
def Fq(K:W7)(c:AE)(x:Str)(i:Nat):Prop:=∃a d,Fun K x x (top i) a d/\c x=some (.ref a)
def Fk(K:W7)(x:Str)(i:Nat):Prop:=∃a c,W.nsIn K mainGlobals x=some (some (.ref a))/\Fun K x x (top i) a c
def Fk.on{K:W7}(F:Fk K x i)(X:K.In h)(G:h.Ns mainGlobals c):Fq K c x i:=by
 obtain⟨a,d,n,f⟩:=F;exact⟨a,d,f,W.mg_of X G n⟩
def fk_mk{K:W7}{kV e h d j:Value}(a:W.nsIn K mainGlobals x=some (some (.ref f)))(l:K.lookup f=some ⟨m,n,.func (W.fnOf x x (aDa (top i)) (aCa (top i)) (aAa (top i)) .none kV e h o d j),g⟩)(c:W.codeIn K d x=true)(k:W.keepIn K (.ref f)=true):Fk K x i:=⟨_,_,a,kK l c k⟩
theorem aJ{N ps:AK}{i:Scope}(a:i.kind=.function:=by rfl)(b:i.isCoroutine=false:=by rfl)(c:i.isGenerator=false:=by rfl)(d:N.Nodup:=by decide +kernel)(e:N.take ps.length=ps:=by rfl)(f:∀x∈ps,i.names.lookup x=some .local\/i.names.lookup x=some .cell:=by decide +kernel)(g:∀y∈i.names,y.2≠.free:=by decide +kernel):aD N ps i:=⟨a,b,c,d,e,f,g⟩
def Bn(x:Str)(i:Nat)(ps:AK):Prop:=∀(kV a e:Value) (d:Option Addr) (c f:Value) (us:AD),us.length=ps.length->bindArgs (W.fnOf x x (aDa (top i)) (aCa (top i)) (aAa (top i)) .none kV a e d c f) ⟨us,[]⟩=pure (ps.zip us)
theorem aw{K:W7}{i k n m:Nat}(F:Fq K j x i)(S:aD N ps (aAa (top i)))(hb:∀{f:Addr}{e:Value}{A:Around}{c:List Env}{s:Shared}{H:Hp}{E:XK},Room k (A.deeper (envOfC x (aAa (top i)) (~~~s) f e))->ZB (bV bW P w K j d N x (aAa (top i)) f e A c s H E).nox (aCa (top i)) fb)(o:N.length=n:=by rfl)(l:ps.length=m:=by rfl)(B:Bn x i ps:=by(intro _ _ _ _ _ _ us b;first|(obtain⟨_,rfl⟩:=el b;rfl)|(obtain⟨_,_,rfl⟩:=dB b;rfl)|(obtain⟨_,_,_,rfl⟩:=dC b;rfl)|(obtain⟨_,_,_,_,rfl⟩:=fU b;rfl)|(obtain⟨_,_,_,_,_,rfl⟩:=fV b;rfl)|(obtain⟨_,_,_,_,_,_,rfl⟩:=eU b;rfl)|(obtain⟨_,_,_,_,_,_,_,rfl⟩:=lR b;rfl))):aM P w K j d (k+1) m x ps (ao m n fb):=by
 obtain⟨a,q,f,h⟩:=F;exact xG f (f.binds B) h (zP  f S o l λ_ _ _ _ _ _ p=>hb p)
theorem mK{P:P7}{w:World}{K:W7}{d:AE}{b:Heap}{x:Str}{i m L:Nat}{ps:AK}{mr:Nat->AQ->Option D}(F:Fq K d x i)(h0:mr 0=λ_=>none)(hs:∀{k j:Nat},aM P w K d b k m x ps (mr j)->L<=k->aM P w K d b (k+1) m x ps (mr (j+1)))(g:ps.length=m:=by rfl)(B:Bn x i ps:=by(intro _ _ _ _ _ _ us c;first|(obtain⟨_,rfl⟩:=el c;rfl)|(obtain⟨_,_,rfl⟩:=dB c;rfl)|(obtain⟨_,_,_,rfl⟩:=dC c;rfl)|(obtain⟨_,_,_,_,rfl⟩:=fU c;rfl)|(obtain⟨_,_,_,_,_,rfl⟩:=fV c;rfl)|(obtain⟨_,_,_,_,_,_,rfl⟩:=eU c;rfl)|(obtain⟨_,_,_,_,_,_,_,rfl⟩:=lR c;rfl))):∀j,aM P w K d b (L+j) m x ps (mr j)
 | 0=>by
   obtain⟨a,l,f,h⟩:=F;rw[h0];exact ML f (f.binds B) h g
 | j+1=>hs (mK F h0 hs g B j) (Nat.le_add_right _ _)
def Ii:∀ρ l,Yb a ae ρ=some l->l.length=1:=jw λ_ _ h=>Ms h
def Bo:∀ρ l,Yb a (Yb b ae) ρ=some l->l.length=2:=jw Ii
def Ij:∀ρ l,Yb a (Yb c (Yb b ae)) ρ=some l->l.length=3:=jw Bo
def Ik:∀ρ l,Yb a (Yb d (Yb b (Yb c ae))) ρ=some l->l.length=4:=jw Ij
def Bp:∀ρ l,Yb a (Yb e (Yb b (Yb d (Yb c ae)))) ρ=some l->l.length=5:=jw Ik
def Po:∀ρ l,Yb a (Yb f (Yb b (Yb d (Yb c (Yb e ae))))) ρ=some l->l.length=6:=jw Bp
theorem mL{P:P7}{w:World}{K:W7}{j:AE}{b:Heap}{x:Str}{i k n m:Nat}{N ps:AK}{g:Hm}(F:Fq K j x i)(S:aD N ps (aAa (top i)))(hb:∀{f:Addr}{e:Value}{A:Around}{c:List Env}{s:Shared}{H:Hp}{E:XK},Room k (A.deeper (envOfC x (aAa (top i)) (~~~s) f e))->dj (bV bW P w K j b N x (aAa (top i)) f e A c s H E).nox (aCa (top i)) g)(o:N.length=n:=by rfl)(p:ps.length=m:=by rfl)(B:Bn x i ps:=by(intro _ _ _ _ _ _ us d;first|(obtain⟨_,rfl⟩:=el d;rfl)|(obtain⟨_,_,rfl⟩:=dB d;rfl)|(obtain⟨_,_,_,rfl⟩:=dC d;rfl)|(obtain⟨_,_,_,_,rfl⟩:=fU d;rfl)|(obtain⟨_,_,_,_,_,rfl⟩:=fV d;rfl)|(obtain⟨_,_,_,_,_,_,rfl⟩:=eU d;rfl))):mD P w K j b (k+1) m x ps (bj n g):=by
 obtain⟨a,q,f,h⟩:=F;exact⟨a,q,rk  f S o p λ_ _ _ _ _ _ r=>hb r,f.binds B,f.kp,h⟩
def c4{K:W7}{a f:Str}(h:CF K a f):∀c∈[a],CF K c f:=λc d=>by
 cases List.mem_singleton.mp d;exact h
def Bq{K:W7}{a b d f:Str}(i:CF K a f)(j:CF K b f)(h:CF K d f):∀c∈[a,b,d],CF K c f:=λc e=>by
 rcases qu e with rfl|e
 .exact i
 .rcases qu e with rfl|e
  .exact j
  .exact c4 h c e
def Pp{a b:AV}:∀ρ l,Yb a (Yb b ae) ρ=some l->l.length+([]:AQ).length=2:=Bo
def Pq{a e b d c:AV}:∀ρ l,Yb a (Yb e (Yb b (Yb d (Yb c ae)))) ρ=some l->l.length+([]:AQ).length=5:=Bp
structure Bl(K:W7)(w:World)(mg:AE):Prop where
 Len:mg "len"=none
 Range:mg "range"=none
 List:mg "list"=none
 Tuple:mg "tuple"=none
 Int:mg "int"=none
 Str:mg "str"=none
 Sorted:mg "sorted"=none
 Any:mg "any"=none
 All:mg "all"=none
 Sum:mg "sum"=none
 Isinstance:mg "isinstance"=none
 Enumerate:mg "enumerate"=none
 Reversed:mg "reversed"=none
 Set:mg "set"=none
 Dict:mg "dict"=none
 g_BEACON_COUNT:GI mg "BEACON_COUNT" 60
 g_EXCHANGED_KINDS:GD K w mg "EXCHANGED_KINDS" gt_EXCHANGED_KINDS
 g_HANDS:GT K mg "HANDS" Ih
 f1:Fq K mg "both_added" 1
 f2:Fq K mg "added" 2
 f5:Fq K mg "beacons_with" 5
 f6:Fq K mg "is_rising" 6
 f8:Fq K mg "contrary" 8
 f13:Fq K mg "exchanged_rule" 13
 f14:Fq K mg "exchanged" 14
 f23:Fq K mg "either_holds" 23
 f24:Fq K mg "sum_holds" 24
 f25:Fq K mg "if_holds" 25
 f26:Fq K mg "rule_holds" 26
 f27:Fq K mg "broken_rules" 27
 f28:Fq K mg "holds" 28
 f29:Fq K mg "beacons_in" 29
 f30:Fq K mg "beacons_of" 30
 f32:Fq K mg "without" 32
 f33:Fq K mg "either_left" 33
 f34:Fq K mg "sum_left" 34
 f35:Fq K mg "if_left" 35
 f36:Fq K mg "rule_left" 36
 f37:Fq K mg "left_behind" 37
 f58:Fq K mg "row_of" 58
 f59:Fq K mg "is_odd_count" 59
 f60:Fq K mg "plan_said" 60
 f61:Fq K mg "sums_said" 61
 f62:Fq K mg "rows_said" 62
 f67:Fq K mg "said" 67
 f72:Fq K mg "play_out" 72
 f74:Fq K mg "rows_by_beacon" 74
 f75:Fq K mg "is_plan_row" 75
 f76:Fq K mg "come_to" 76
 f77:Fq K mg "either_is_kept" 77
 f78:Fq K mg "plan_good" 78
 f79:Fq K mg "is_sum_row" 79
 f80:Fq K mg "replaced" 80
 f81:Fq K mg "sums_good" 81
 f82:Fq K mg "are_some_of" 82
 f83:Fq K mg "ahead_of" 83
 f84:Fq K mg "is_row" 84
 f85:Fq K mg "holds_where_lit" 85
 f86:Fq K mg "rows_good" 86
 f87:Fq K mg "keeper_good" 87
 f89:Fq K mg "good" 89
 f91:Fq K mg "is_hand" 91
 f92:Fq K mg "check_hands" 92
 f95:Fq K mg "_law_cell" 95
 f96:Fq K mg "_law_mixed" 96
 f97:Fq K mg "_law_bits" 97
 f98:Fq K mg "_law_so" 98
 f99:Fq K mg "_law_hands" 99
 f100:Fq K mg "_law_own" 100
 f101:Fq K mg "_law_plan" 101
 f102:Fq K mg "_law_comes" 102
 f103:Fq K mg "_law_either" 103
 f104:Fq K mg "_law_eithers" 104
 f105:Fq K mg "_law_sum_rows" 105
 f106:Fq K mg "_law_sum" 106
 f107:Fq K mg "_law_sums" 107
 f108:Fq K mg "_law_lit" 108
 f109:Fq K mg "_law_rows" 109
 f110:Fq K mg "_law_if" 110
 f111:Fq K mg "_law_ifs" 111
 f112:Fq K mg "_law_numbers_of" 112
 f113:Fq K mg "_law_paper" 113
 f114:Fq K mg "_law_played" 114
 r_Papered_says:Mq K "Papered" "says" "Papered.says" (inClass (top 71) 1)
 r_Papered_sees:Mq K "Papered" "sees" "Settler.sees" (inClass (top 69) 2)
 r_Rowed_says:Mq K "Rowed" "says" "Rowed.says" (inClass (top 70) 1)
 r_Rowed_sees:Mq K "Rowed" "sees" "Rowed.sees" (inClass (top 70) 2)
 r_Settler_says:Mq K "Settler" "says" "Settler.says" (inClass (top 69) 1)
 r_Settler_sees:Mq K "Settler" "sees" "Settler.sees" (inClass (top 69) 2)
 r_Watch_back:Mq K "Watch" "back" "Watch.back" (inClass (top 93) 6)
 r_Watch_evening:Mq K "Watch" "evening" "Watch.evening" (inClass (top 93) 2)
 r_Watch_left:Mq K "Watch" "left" "Watch.left" (inClass (top 93) 3)
 r_Watch_settle:Mq K "Watch" "settle" "Watch.settle" (inClass (top 93) 5)
 r_Watch_turn:Mq K "Watch" "turn" "Watch.turn" (inClass (top 93) 1)
 r_Watch_winner:Mq K "Watch" "winner" "Watch.winner" (inClass (top 93) 4)
 i_Rowed:jM K "Rowed" "Rowed.__init__" (inClass (top 70) 0)
 i_Papered:rm K "Papered" "Papered.__init__" (inClass (top 71) 0)
 i_Watch:jM K "Watch" "Watch.__init__" (inClass (top 93) 0)
 k_Settler:Kq K "Settler" "__init__" "Settler.__init__" (inClass (top 69) 0)
 n_Papered_book:Nq K "Papered" "book"
 n_Papered_hand:Nq K "Papered" "hand"
 n_Papered_hands:Nq K "Papered" "hands"
 n_Papered_paper:Nq K "Papered" "paper"
 n_Papered_start:Nq K "Papered" "start"
 n_Rowed_hand:Nq K "Rowed" "hand"
 n_Rowed_row:Nq K "Rowed" "row"
 n_Rowed_seen:Nq K "Rowed" "seen"
 n_Settler_hand:Nq K "Settler" "hand"
 n_Watch_book:Nq K "Watch" "book"
 n_Watch_hands:Nq K "Watch" "hands"
 n_Watch_truths:Nq K "Watch" "truths"
 c_Rowed:∀C,W.nsIn K mainGlobals "Rowed"=some (some (.ref C))->mg "Rowed"=some (.ref C)
 c_Papered:∀C,W.nsIn K mainGlobals "Papered"=some (some (.ref C))->mg "Papered"=some (.ref C)
 c_Watch:∀C,W.nsIn K mainGlobals "Watch"=some (some (.ref C))->mg "Watch"=some (.ref C)
 c_Settler:∀C,W.nsIn K mainGlobals "Settler"=some (some (.ref C))->mg "Settler"=some (.ref C)
section
variable {P:P7}{w:World}{K:W7}{mg:AE}{base:Heap}
def Pr:aD ["rule","other"] ["rule","other"] (aAa (top 1)):=aJ
def Il:AS:=(ag (aG (Yb (cC (Yb (lF (yC (b2 (aa 0) (kD (.int 0)) ak) (b2 (aa 1) (kD (.int 0)) ak))) ae) aV) (Yb (mB (b2 (b2 (aa 0) (kD (.int 1)) ak) (b2 (aa 1) (kD (.int 1)) ak) (au true))) ae))))
def mM:AQ->Option D:=ao 2 2 Il
open Lean in
def tA(h:Array Term)(ls:List (List Name)):MacroM (Array (TSyntax `Lean.Parser.Tactic.tacticSeq)):=do
 let go (l:List Name) (x:Term):MacroM (TSyntax `Lean.Parser.Tactic.tacticSeq):=do
  let a <-l.tail.toArray.mapM λn=>if n==`q then `(?_)else if n==`u then `(_)else if n==`f then `(λ_ _ _ _ _=>?_)else if n==`h then pure x else pure (mkIdent n)
  `(tacticSeq| refine $(mkIdent l.head!) $a*)
 return (<-ls.toArray.mapM λl=>if l.contains `h then h.mapM (go l)else return #[<-go l (<-`(_))]).flatten
open Lean in
def tT:List (Name×List (Nat×Name×List (List Name))):=[(`ZC,[(1,`Name,[[`yR,`u]]),(0,`u,[[`yP,`q]])]),(`ZA,[(0,`u,[[`Oi,`q,`q],[`zA]])]),(`ZE,[(3,`lF,[[`lP,`q]]),(1,`Name,[[`yQ,`u],[`OC,`bl.g_BEACON_COUNT,`rfl]]),(1,`Constant,[[`yS],[`yV],[`yT],[`yU]]),(1,`Subscript,[[`Og,`q,`q],[`OB,`bl.g_EXCHANGED_KINDS,`rfl,`q],[`OE,`hr.units,`q,`q]]),(1,`Call,[[`Hx,`h,`hr,`rfl,`q,`q],[`OX,`h,`hr,`q],[`Pa,`h,`hr,`q,`q,`q],[`pO,`LY,`xo,`rfl,`bl.Len,`PySem.boot_len,`q],[`Hw,`L0,`xp,`rfl,`bl.Tuple,`boot_tuple,`q],[`pO,`q,`xU,`rfl,`bl.All,`boot_all,`q],[`pO,`q,`xT,`rfl,`bl.Any,`boot_any,`q],[`zT,`q,`rfl,`rfl,`bl.Isinstance,`bl.Str,`boot_str,`xM],[`Hw,`LB,`xq,`rfl,`bl.Int,`boot_int,`q],[`Bm,`rfl,`rfl,`bl.Dict,`q],[`OF,`hr.units,`q,`q,`q,`q],[`Hx,`rc,`hr,`rfl,`q,`q],[`pO,`q,`xV,`rfl,`bl.Sum,`boot_sum,`q]]),(1,`Tuple,[[`zB,`q]]),(1,`Compare,[[`zd,`hr.units,`q,`q],[`ze,`hr.units,`q,`q],[`zh,`hr.units,`q,`q],[`y_,`q,`q],[`Oe,`q,`q],[`za,`q,`q],[`zw,`q,`q],[`AI,`hr.units,`bl.g_HANDS,`rfl,`q]]),(1,`BinOp,[[`yZ,`q,`q],[`yY,`q,`q],[`zQ,`q,`q],[`yW,`q,`q],[`yX,`q,`q],[`AO,`q,`q]]),(1,`BoolOp,[[`zr,`q,`q],[`Od,`q],[`zq,`q],[`zt,`q,`q]]),(1,`Attribute,[[`fA,`bl.n_Watch_truths.cf,`q],[`fA,`bl.n_Rowed_seen.cf,`q],[`fA,`bl.n_Rowed_row.cf,`q],[`fA,`bl.n_Watch_hands.cf,`q],[`fA,`bl.n_Watch_book.cf,`q],[`fA,`bl.n_Papered_paper.cf,`q],[`fA,`bl.n_Papered_book.cf,`q],[`fA,`bl.n_Papered_hands.cf,`q],[`fA,`bl.n_Papered_start.cf,`q],[`fA,`bl.n_Rowed_hand.cf,`q]]),(1,`UnaryOp,[[`zu,`q],[`zR,`q]]),(1,`IfExp,[[`zv,`q,`q,`q]]),(0,`u,[[`lP,`q]])]),(`ZB,[(0,`u,[[`zE,`q],[`Oo,`q,`q],[`zD],[`Be,`q]])]),(`ZS,[(2,`nS,[[`OD]]),(4,`wF,[[`zF,`u,`q]]),(1,`Return,[[`zI,`q]]),(1,`If,[[`zJ,`q,`q,`q]]),(1,`Assign,[[`Oy,`u,`q,`h,`rfl,`q,`f,`f,`f,`q],[`zG,`u,`q,`q],[`zH,`u,`q,`q],[`Ax,`q,`q]]),(1,`For,[[`zN,`jc,`rfl,`q,`q,`q]]),(1,`Expr,[[`Os,`u,`q],[`OA,`u,`q],[`OM,`q]]),(1,`Pass,[[`Oq]])]),(`gE,[(0,`u,[[`Oj],[`Ol,`q,`q]])]),(`ZG,[(1,`Name,[[`Ov,`u,`q]]),(1,`Tuple,[[`Ow,`u,`u,`rfl,`q],[`OV,`u,`u,`u,`rfl,`q]])]),(`ZI,[(0,`u,[[`zM,`q],[`Ou,`rfl,`bl.Range,`q],[`Ot,`rfl,`bl.Range,`q],[`Oz,`rfl,`bl.Enumerate,`q],[`Pn,`rfl,`bl.Reversed,`q]])]),(`ZF,[(1,`ListComp,[[`Ox,`h,`rfl,`q,`f,`f,`f,`q]]),(1,`List,[[`zC,`q]]),(1,`BinOp,[[`zS,`q,`q]]),(1,`Call,[[`On,`LZ,`Mt,`rfl,`bl.List,`boot_list,`q],[`OJ,`rfl,`rfl,`bl.Sorted,`rfl,`bl.Set,`q],[`Om,`MH,`MK,`rfl,`bl.Sorted,`boot_sorted,`q],[`OK,`rfl,`rfl,`bl.Sorted,`rfl,`bl.Set,`q,`q],[`OL,`rfl,`hr.units,`rfl,`bl.Sorted,`rfl,`bl.Set,`q]]),(1,`Subscript,[[`Oh,`q,`q,`q]])]),(`ZT,[(1,`Compare,[[`zf,`hr.units,`q,`q],[`zg,`hr.units,`q,`q],[`zi,`hr.units,`q,`q],[`OG,`q,`q],[`zc,`q,`q],[`zx,`q,`q],[`zb,`q,`q],[`zj,`hr.units,`q,`q],[`Of,`q,`q],[`OH,`hr.units,`q,`q],[`zU,`q,`q]]),(1,`UnaryOp,[[`zp,`q]]),(0,`u,[[`zk,`q],[`zV,`q]])]),(`eT,[(0,`u,[[`zO],[`OI,`q]])]),(`dj,[(0,`u,[[`O2,`q,`q],[`A3,`q],[`A1]])]),(`ZW,[(1,`BoolOp,[[`Oc,`q],[`zm,`q,`q],[`zo,`q,`q],[`zl,`q]])]),(`dO,[(3,`d9,[[`O1,`q]]),(1,`Expr,[[`O8,`q],[`Bb,`u,`bl.n_Watch_truths.cf,`q]]),(1,`Assign,[[`A7,`u,`q,`q],[`f7,`u,`q,`q],[`f7,`u,`q,`q],[`f7,`u,`q,`q],[`f7,`u,`q,`q],[`f7,`u,`q,`q],[`f7,`u,`q,`q],[`f7,`u,`q,`q],[`f7,`u,`q,`q],[`f7,`u,`q,`q],[`Pb,`u,`q]]),(1,`If,[[`A4,`q,`q,`q],[`Pk,`q,`q,`q]]),(1,`Return,[[`A8,`q],[`Pg,`u,`bl.n_Watch_truths.cf]]),(1,`While,[[`O3,`jc,`q,`q]]),(1,`AugAssign,[[`Ba,`u,`bl.n_Rowed_seen.cf]]),(1,`For,[[`A5,`jc,`rfl,`q,`q,`q]])]),(`ZO,[(0,`u,[[`zz,`q],[`zy]])]),(`rh,[(3,`eE,[[`O6,`q]])]),(`dX,[(3,`iN,[[`O5,`q]]),(3,`rj,[[`O4,`q]]),(3,`Bi,[[`Ph,`q]]),(1,`Call,[[`O_,`h,`hr,`q,`q,`q],[`Bd,`h,`hr,`rfl,`q,`q],[`Ib,`true,`u,`h,`hr,`rfl,`q,`q],[`O9,`h,`hr,`rfl,`q,`q],[`Ib,`false,`u,`h,`hr,`rfl,`q,`q],[`Pj,`h,`hr,`rfl,`q],[`Pd,`h,`hr,`q]])]),(`mx,[(0,`u,[[`O7,`q,`q],[`A6]])])]
set_option hygiene false in
open Lean in
local macro_rules | `(tactic| exists $xs,*)=>do
 let h:=xs.getElems
 let t <-tT.toArray.mapM fun(J,gs)=>do
  let J:=mkIdent J
  let s <-gs.toArray.mapM fun(k,c,ls)=>do
   let c:=mkIdent c
   let a <-tA h ls
   if k==0 then `(tacticSeq| first $[| $a]*)else if k==1 then `(tacticSeq| (with_reducible show $J _ (.$c ..) ..);first $[| $a]*)else
    let u <-(List.replicate (k-2) J).toArray.mapM λ_=>`(_)
    `(tacticSeq| (with_reducible show $J _ _ ($c $u*));first $[| $a]*)
  `(tacticSeq| (with_reducible show $J ..);first $[| $s]*)
 let r:Array Term:=[`Bo,`Ij,`Ii,`Ik,`Po,`Bp,`Pp,`Pq].toArray.map λn=>mkIdent n
 let b <-tA h [[`xD,`rfl],[`Mw,`rfl,`rfl],[`MQ,`rfl],[`MO,`rfl],[`MR,`rfl],[`Bq,`bl.n_Settler_hand.cf,`bl.n_Rowed_hand.cf,`bl.n_Papered_hand.cf],[`c4,`bl.n_Rowed_row.cf],[`c4,`bl.n_Rowed_seen.cf],[`c4,`bl.n_Papered_paper.cf],[`c4,`bl.n_Papered_book.cf],[`c4,`bl.n_Papered_hands.cf],[`c4,`bl.n_Papered_start.cf],[`c4,`bl.n_Watch_book.cf],[`c4,`bl.n_Watch_hands.cf],[`c4,`bl.n_Watch_truths.cf]]
 `(tactic| repeat' first $[| $t]* $[| with_reducible exact $r]* $[| exact($h).nd]*  | exact⟨rfl,rfl,rfl,rfl⟩ $[| $b]* $[| exact $h]* | fail)
def Pt(bl:Bl K w mg):aM P w K mg base 1 2 "both_added" ["rule","other"] mM:=by
 refine aw bl.f1 Pr λhr=>?_
 exists rfl
def Pu:aD ["hands","start","hand"] ["hands","start","hand"] (aAa (top 5)):=aJ
def Pv:aS ["hands","start","hand"] (aAa (top 5)) ["beacon","hands","hand"] [none,some 0,some 2] (aW [(".0",.local),("beacon",.local),("hand",.free),("hands",.free)]):=Ye (by decide +kernel)
def Br:AU:=(b2 (b2 (aa 1) (aa 0) ak) (aa 2) (au false))
def Bs:AV:=(ab 0)
def Im:AS:=(ag (lF (Yr (cF (Yb (ab 1) (Yb (cC (Yb (aa 0) ae) aH) ae)) cW) [none,some 0,some 2] (ah 0) (Br) (Bs))))
def mN:AQ->Option D:=ao 3 3 Im
def Pw(bl:Bl K w mg):aM P w K mg base 1 3 "beacons_with" ["hands","start","hand"] mN:=by
 refine aw bl.f5 Pu λhr=>?_
 exists Pv
def Px:aD ["numbers"] ["numbers"] (aAa (top 6)):=aJ
def Io:AS:=(ag (mB (b2 (lF (cF (Yb (aa 0) ae) eC)) (lF (lC (aa 0))) (au false))))
def mO:AQ->Option D:=ao 1 1 Io
def Ip(bl:Bl K w mg):aM P w K mg base 1 1 "is_rising" ["numbers"] mO:=by
 refine aw bl.f6 Px λhr=>?_
 exists rfl
def Py:aD ["saying"] ["saying"] (aAa (top 8)):=aJ
def Bt:AS:=(ag (aG (Yb (b2 (aa 0) (kD (.int 0)) ak) (Yb (ec (b2 (aa 0) (kD (.int 1)) ak)) ae))))
def iX:AQ->Option D:=ao 1 1 Bt
def Iq(bl:Bl K w mg):aM P w K mg base 1 1 "contrary" ["saying"] iX:=by
 refine aw bl.f8 Py λhr=>?_
 exists rfl
def Pz:aD ["kind","rule"] ["kind","rule"] (aAa (top 13)):=aJ
def PB:aS ["kind","rule"] (aAa (top 13)) ["saying"] [none] (aW [(".0",.local),("saying",.local),("contrary",.globalImplicit)]):=Ye (by decide +kernel)
def Bu:AV:=(cC (Yb (ab 0) ae) iX)
@[simp] def PC:AS:=(ag (ab 1))
@[simp] def PD:AS:=(af (aX (b2 (aa 0) (kD (.str "sums")) (au false)) (ag (aG (Yb (b2 (aa 1) (kD (.int 0)) ak) (Yb (mB (b2 (b2 (aa 1) (kD (.int 1)) ak) (mB (b2 (b2 (cC (Yb (b2 (aa 1) (kD (.int 0)) ak) ae) aH) (kD (.int 2)) aN) (kD (.int 1)) (au false))) (au true))) ae)))) av) PC)
def rn:AS:=(af (aX (b2 (aa 0) (kD (.str "eithers")) (au false)) (ag (cC (Yb (lF (cF (Yb (lF (Yr (b1 (ab 1) Yc) [none] (ah 0) tY (Bu))) ae) ig)) ae) aV)) av) PD)
def rq:AQ->Option D:=ao 2 2 rn
def PF(bl:Bl K w mg):aM P w K mg base 2 2 "exchanged_rule" ["kind","rule"] rq:=by
 refine aw bl.f13 Pz λhr=>?_
 exists PB,Iq bl
def Ir:aD ["book","kind"] ["book"] (aAa (top 14)):=aJ
def PH:aS ["book","kind"] (aAa (top 14)) ["rule","kind"] [none,some 1] (aW [(".0",.local),("rule",.local),("exchanged_rule",.globalImplicit),("kind",.free)]):=Ye (by decide +kernel)
def Bv:AV:=(cC (Yb (ab 1) (Yb (ab 0) ae)) rq)
def Iu:AS:=(af (az 1 (b2 (aa 0) (kD (.int 0)) ak)) (ag (aG (Yb (b1 (aa 1) (pv gt_EXCHANGED_KINDS)) (Yb (cC (Yb (lF (Yr (b1 (b2 (aa 0) (kD (.int 1)) ak) Yc) [none,some 1] (ah 0) tY (Bv))) ae) aV) ae)))))
def iY:AQ->Option D:=ao 1 2 Iu
def Iv(bl:Bl K w mg):aM P w K mg base 3 1 "exchanged" ["book"] iY:=by
 refine aw bl.f14 Ir λhr=>?_
 exists Ir,PH,PF bl
def PJ:aD ["rule","evening"] ["rule","evening"] (aAa (top 23)):=aJ
def PK:aS ["rule","evening"] (aAa (top 23)) ["saying","evening"] [none,some 1] (aW [(".0",.local),("saying",.local),("evening",.free)]):=Ye (by decide +kernel)
def Bw:AV:=(mB (b2 (b2 (aa 1) (b2 (aa 0) (kD (.int 0)) ak) ak) (b2 (aa 0) (kD (.int 1)) ak) (au false)))
def Iw:AS:=(ag (cC (Yb (lF (Yr (b1 (ab 0) Yc) [none,some 1] (ah 0) tY (Bw))) ae) dd))
def rr:AQ->Option D:=ao 2 2 Iw
def PL(bl:Bl K w mg):aM P w K mg base 1 2 "either_holds" ["rule","evening"] rr:=by
 refine aw bl.f23 PJ λhr=>?_
 exists PK
def Iy:aD ["rule","evening","lit_ones"] ["rule","evening"] (aAa (top 24)):=aJ
def PM:aS ["rule","evening","lit_ones"] (aAa (top 24)) ["beacon","evening"] [none,some 1] (aW [(".0",.local),("beacon",.local),("evening",.free)]):=Ye (by decide +kernel)
def Bx:AU:=(b1 (b2 (aa 1) (aa 0) ak) a6)
def By:AV:=(ab 0)
def Iz:AS:=(af (aO 2 (Yr (b1 (b2 (aa 0) (kD (.int 0)) ak) Yc) [none,some 1] (ah 0) (Bx) (By))) (ag (mB (b2 (mB (b2 (b2 (cC (Yb (aa 2) ae) aH) (kD (.int 2)) aN) (kD (.int 1)) (au false))) (b2 (aa 0) (kD (.int 1)) ak) (au false)))))
def ru:AQ->Option D:=ao 2 3 Iz
def PN(bl:Bl K w mg):aM P w K mg base 1 2 "sum_holds" ["rule","evening"] ru:=by
 refine aw bl.f24 Iy λhr=>?_
 exists Iy,PM
def PP:aD ["rule","evening","lit"] ["rule","evening","lit"] (aAa (top 25)):=aJ
def PQ:aS ["rule","evening","lit"] (aAa (top 25)) ["beacon","evening","lit"] [none,some 1,some 2] (aW [(".0",.local),("beacon",.local),("evening",.free),("lit",.free)]):=Ye (by decide +kernel)
def Bz:AV:=(mB (b2 (b2 (aa 1) (aa 0) ak) (aa 2) (au true)))
def ry:AS:=(af (aX (b1 (cC (Yb (lF (Yr (b1 (b2 (aa 0) (kD (.int 0)) ak) Yc) [none,some 1,some 2] (ah 0) tY (Bz))) ae) dd) a6) (ag (kD (.bl true))) av) (ag (cq (mB (b2 (b2 (aa 0) (kD (.int 1)) ak) (kD .non) (cb true))) (mB (b2 (b2 (aa 1) (b2 (aa 0) (kD (.int 1)) ak) ak) (aa 2) (au false))))))
def rz:AQ->Option D:=ao 3 3 ry
def PR(bl:Bl K w mg):aM P w K mg base 1 3 "if_holds" ["rule","evening","lit"] rz:=by
 refine aw bl.f25 PP λhr=>?_
 exists PQ
def PU:aD ["kind","rule","evening"] ["kind","rule","evening"] (aAa (top 26)):=aJ
@[simp] def PV:AS:=(ag (cC (Yb (ab 1) (Yb (ab 2) (Yb (mB (b2 (aa 0) (kD (.str "ifs")) (au false))) ae))) rz))
@[simp] def PX:AS:=(af (aX (b2 (aa 0) (kD (.str "sums")) (au false)) (ag (cC (Yb (ab 1) (Yb (ab 2) ae)) ru)) av) PV)
def mP:AS:=(af (aX (b2 (aa 0) (kD (.str "eithers")) (au false)) (ag (cC (Yb (ab 1) (Yb (ab 2) ae)) rr)) av) PX)
def rA:AQ->Option D:=ao 3 3 mP
def PY(bl:Bl K w mg):aM P w K mg base 2 3 "rule_holds" ["kind","rule","evening"] rA:=by
 refine aw bl.f26 PU λhr=>?_
 exists PL bl,PN bl,PR bl
def PZ:aD ["book","evening"] ["book","evening"] (aAa (top 27)):=aJ
def P0:aS ["book","evening"] (aAa (top 27)) ["place","rule","book","evening"] [none,none,some 0,some 1] (aW [(".0",.local),("place",.local),("rule",.local),("rule_holds",.globalImplicit),("book",.free),("evening",.free)]):=Ye (by decide +kernel)
def BA:AU:=(cK (b1 (cC (Yb (b2 (aa 2) (kD (.int 0)) ak) (Yb (ab 1) (Yb (ab 3) ae))) rA) a6))
def BB:AV:=(ab 0)
def IA:AS:=(ag (lF (Yr (b1 (b2 (aa 0) (kD (.int 1)) ak) pk) [none,none,some 0,some 1] (fj 0 1) (BA) (BB))))
def rB:AQ->Option D:=ao 2 2 IA
def P1(bl:Bl K w mg):aM P w K mg base 3 2 "broken_rules" ["book","evening"] rB:=by
 refine aw bl.f27 PZ λhr=>?_
 exists P0,PY bl
def P2:aD ["book","evening"] ["book","evening"] (aAa (top 28)):=aJ
def IB:AS:=(ag (mB (b2 (cC (Yb (cC (Yb (ab 0) (Yb (ab 1) ae)) rB) ae) aH) (kD (.int 0)) (au false))))
def mQ:AQ->Option D:=ao 2 2 IB
def IC(bl:Bl K w mg):aM P w K mg base 4 2 "holds" ["book","evening"] mQ:=by
 refine aw bl.f28 P2 λhr=>?_
 exists P1 bl
def P3:aD ["kind","rule"] ["kind","rule"] (aAa (top 29)):=aJ
def P4:aS ["kind","rule"] (aAa (top 29)) ["saying"] [none] (aW [(".0",.local),("saying",.local)]):=Ye (by decide +kernel)
def BC:AV:=(b2 (aa 0) (kD (.int 0)) ak)
@[simp] def P5:AS:=(ag (lF (b2 (lF (cF (Yb (b2 (aa 1) (kD (.int 0)) ak) ae) eC)) (lF (bc (Yb (b2 (aa 1) (kD (.int 1)) ak) ae))) bO)))
@[simp] def P6:AS:=(af (aX (eB (b2 (aa 0) (kD (.str "sums")) (au false)) (b2 (b2 (aa 1) (kD (.int 1)) ak) (kD .non) (cb false))) (ag (lF (cF (Yb (b2 (aa 1) (kD (.int 0)) ak) ae) eC))) av) P5)
def mR:AS:=(af (aX (b2 (aa 0) (kD (.str "eithers")) (au false)) (ag (lF (Yr (b1 (ab 1) Yc) [none] (ah 0) tY (BC)))) av) P6)
def mS:AQ->Option D:=ao 2 2 mR
def ID(bl:Bl K w mg):aM P w K mg base 1 2 "beacons_in" ["kind","rule"] mS:=by
 refine aw bl.f29 P3 λhr=>?_
 exists P4
def IE:aD ["book","found","rule"] ["book"] (aAa (top 30)):=aJ
def BE:AS:=(cD 1 (cC (Yb (b2 (aa 0) (kD (.int 0)) ak) (Yb (ab 2) ae)) mS) fR)
@[simp] def P8:AS:=(ag (lF (lC (aa 1))))
@[simp] def P9:AS:=(af (bY (b1 (b2 (aa 0) (kD (.int 1)) ak) Yc) (ah 2) BE) P8)
def IF:AS:=(af (aO 1 (bc ae)) P9)
def rC:AQ->Option D:=ao 1 3 IF
def P_(bl:Bl K w mg):aM P w K mg base 2 1 "beacons_of" ["book"] rC:=by
 refine aw bl.f30 IE λhr=>?_
 exists IE,ID bl
def Qs:aD ["beacons","beacon"] ["beacons","beacon"] (aAa (top 32)):=aJ
def Qt:aS ["beacons","beacon"] (aAa (top 32)) ["other","beacon"] [none,some 1] (aW [(".0",.local),("other",.local),("beacon",.free)]):=Ye (by decide +kernel)
def mT:AU:=(b2 (aa 0) (aa 1) (au true))
def mU:AV:=(ab 0)
def BF:AS:=(ag (cC (Yb (lF (Yr (b1 (ab 0) Yc) [none,some 1] (ah 0) (mT) (mU))) ae) aV))
def gL:AQ->Option D:=ao 2 2 BF
def BG(bl:Bl K w mg):aM P w K mg base 1 2 "without" ["beacons","beacon"] gL:=by
 refine aw bl.f32 Qs λhr=>?_
 exists Qt
def Qu:aD ["rule","beacon","lit"] ["rule","beacon","lit"] (aAa (top 33)):=aJ
def Qv:aS ["rule","beacon","lit"] (aAa (top 33)) ["saying","beacon"] [none,some 1] (aW [(".0",.local),("saying",.local),("beacon",.free)]):=Ye (by decide +kernel)
def BH:AU:=(b2 (b2 (aa 0) (kD (.int 0)) ak) (aa 1) (au true))
def BI:AV:=(ab 0)
def BJ:AS:=(af (aX (b2 (aG (Yb (ab 1) (Yb (ab 2) ae))) (aa 0) (cJ false)) (ag (kD .non)) av) (ag (cC (Yb (lF (Yr (b1 (ab 0) Yc) [none,some 1] (ah 0) (BH) (BI))) ae) aV)))
def rD:AQ->Option D:=ao 3 3 BJ
def Qw(bl:Bl K w mg):aM P w K mg base 1 3 "either_left" ["rule","beacon","lit"] rD:=by
 refine aw bl.f33 Qu λhr=>?_
 exists Qv
def IG:aD ["rule","beacon","lit","beacons","odd"] ["rule","beacon","lit"] (aAa (top 34)):=aJ
@[simp] def Qx:AS:=(ag (aG (Yb (ab 3) (Yb (ab 4) ae))))
@[simp] def Qy:AS:=(af (aX (bA (b2 (cC (Yb (aa 3) ae) aH) (kD (.int 0)) (au false)) (cK (b1 (aa 4) a6))) (ag (kD .non)) av) Qx)
@[simp] def Qz:AS:=(af (az 4 (mB (b2 (b2 (aa 0) (kD (.int 1)) ak) (aa 2) (au true)))) Qy)
def BK:AS:=(af (az 3 (cC (Yb (b2 (aa 0) (kD (.int 0)) ak) (Yb (ab 1) ae)) gL)) Qz)
def rE:AQ->Option D:=ao 3 5 BK
def QA(bl:Bl K w mg):aM P w K mg base 2 3 "sum_left" ["rule","beacon","lit"] rE:=by
 refine aw bl.f34 IG λhr=>?_
 exists IG,BG bl
def IH:aD ["rule","beacon","so","head"] ["rule","beacon","so"] (aAa (top 35)):=aJ
@[simp] def QB:AS:=(ag (aG (Yb (cC (Yb (b2 (aa 0) (kD (.int 0)) ak) (Yb (ab 1) ae)) gL) (Yb (ab 3) ae))))
@[simp] def QC:AS:=(af (az 3 (k3 (b2 (b2 (aa 0) (kD (.int 1)) ak) (aa 1) (au false)) (kD .non) (b2 (aa 0) (kD (.int 1)) ak))) QB)
@[simp] def QD:AS:=(af (aX (bA (cK (b1 (aa 2) a6)) (b2 (aa 1) (b2 (aa 0) (kD (.int 0)) ak) (cJ false))) (ag (kD .non)) av) QC)
def mV:AS:=(af (aX (bA (b1 (aa 2) a6) (b2 (b2 (aa 0) (kD (.int 1)) ak) (aa 1) (au false))) (ag (kD .non)) av) QD)
def rF:AQ->Option D:=ao 3 4 mV
def QE(bl:Bl K w mg):aM P w K mg base 2 3 "if_left" ["rule","beacon","so"] rF:=by
 refine aw bl.f35 IH λhr=>?_
 exists IH,BG bl
def QF:aD ["kind","rule","beacon","lit"] ["kind","rule","beacon","lit"] (aAa (top 36)):=aJ
@[simp] def QG:AS:=(ag (cC (Yb (ab 1) (Yb (ab 2) (Yb (mB (b2 (aa 3) (mB (b2 (aa 0) (kD (.str "ifs")) (au false))) (au false))) ae))) rF))
@[simp] def QH:AS:=(af (aX (b2 (aa 0) (kD (.str "sums")) (au false)) (ag (cC (Yb (ab 1) (Yb (ab 2) (Yb (ab 3) ae))) rE)) av) QG)
@[simp] def QI:AS:=(af (aX (b2 (aa 0) (kD (.str "eithers")) (au false)) (ag (cC (Yb (ab 1) (Yb (ab 2) (Yb (ab 3) ae))) rD)) av) QH)
def mW:AS:=(af (aX (b2 (aa 2) (cC (Yb (ab 0) (Yb (ab 1) ae)) mS) (cJ true)) (ag (ab 1)) av) QI)
def rG:AQ->Option D:=ao 4 4 mW
def QJ(bl:Bl K w mg):aM P w K mg base 3 4 "rule_left" ["kind","rule","beacon","lit"] rG:=by
 refine aw bl.f36 QF λhr=>?_
 exists ID bl,Qw bl,QA bl,QE bl
def II:aD ["book","beacon","lit","turned"] ["book","beacon","lit"] (aAa (top 37)):=aJ
def QK:aS ["book","beacon","lit","turned"] (aAa (top 37)) ["rule","book","beacon","lit"] [none,some 0,some 1,some 2] (aW [(".0",.local),("rule",.local),("rule_left",.globalImplicit),("beacon",.free),("book",.free),("lit",.free)]):=Ye (by decide +kernel)
def QL:aS ["book","beacon","lit","turned"] (aAa (top 37)) ["rule"] [none] (aW [(".0",.local),("rule",.local)]):=Ye (by decide +kernel)
def BL:AV:=(cC (Yb (b2 (aa 1) (kD (.int 0)) ak) (Yb (ab 0) (Yb (ab 2) (Yb (ab 3) ae)))) rG)
def rH:AU:=(b2 (aa 0) (kD .non) (cb true))
def rJ:AV:=(ab 0)
def IJ:AS:=(af (aO 3 (Yr (b1 (b2 (aa 0) (kD (.int 1)) ak) Yc) [none,some 0,some 1,some 2] (ah 0) tY (BL))) (wF [3] (ag (aG (Yb (b2 (aa 0) (kD (.int 0)) ak) (Yb (cC (Yb (lF (Yr (b1 (ab 3) Yc) [none] (ah 0) (rH) (rJ))) ae) aV) ae))))))
def rK:AQ->Option D:=ao 3 4 IJ
def QM(bl:Bl K w mg):aM P w K mg base 4 3 "left_behind" ["book","beacon","lit"] rK:=by
 refine aw bl.f37 II λhr=>?_
 exists II,QK,QJ bl,QL
def QN:aD ["rows","beacon"] ["rows","beacon"] (aAa (top 58)):=aJ
def QO:aS ["rows","beacon"] (aAa (top 58)) ["row","beacon"] [none,some 1] (aW [(".0",.local),("row",.local),("beacon",.free)]):=Ye (by decide +kernel)
def BM:AU:=(b2 (b2 (aa 0) (kD (.int 0)) ak) (aa 1) (au false))
def BN:AV:=(ab 0)
def IK:AS:=(ag (b2 (lF (Yr (b1 (ab 0) Yc) [none,some 1] (ah 0) (BM) (BN))) (kD (.int 0)) ak))
def mX:AQ->Option D:=ao 2 2 IK
def IL(bl:Bl K w mg):aM P w K mg base 1 2 "row_of" ["rows","beacon"] mX:=by
 refine aw bl.f58 QN λhr=>?_
 exists QO
def QQ:aD ["beacons","evening"] ["beacons","evening"] (aAa (top 59)):=aJ
def QR:aS ["beacons","evening"] (aAa (top 59)) ["beacon","evening"] [none,some 1] (aW [(".0",.local),("beacon",.local),("evening",.free)]):=Ye (by decide +kernel)
def BO:AU:=(b1 (b2 (aa 1) (aa 0) ak) a6)
def BP:AV:=(ab 0)
def IM:AS:=(ag (mB (b2 (b2 (cC (Yb (lF (Yr (b1 (ab 0) Yc) [none,some 1] (ah 0) (BO) (BP))) ae) aH) (kD (.int 2)) aN) (kD (.int 1)) (au false))))
def rL:AQ->Option D:=ao 2 2 IM
def QS(bl:Bl K w mg):aM P w K mg base 1 2 "is_odd_count" ["beacons","evening"] rL:=by
 refine aw bl.f59 QQ λhr=>?_
 exists QR
def IP:aD ["rows","evening","row"] ["rows","evening"] (aAa (top 60)):=aJ
@[simp] def QT:AS:=(ag (mB (b2 (b2 (aa 1) (b2 (aa 2) (kD (.int 1)) ak) ak) (b2 (aa 2) (kD (.int 2)) ak) (au false))))
@[simp] def QU:AS:=(af (aX (b2 (b2 (aa 2) (kD (.int 1)) ak) (kD .non) (cb false)) (ag (b2 (aa 2) (kD (.int 2)) ak)) av) QT)
def BQ:AS:=(af (az 2 (cC (Yb (ab 0) (Yb (cC (Yb (aa 1) ae) aH) ae)) mX)) QU)
def rM:AQ->Option D:=ao 2 3 BQ
def QV(bl:Bl K w mg):aM P w K mg base 2 2 "plan_said" ["rows","evening"] rM:=by
 refine aw bl.f60 IP λhr=>?_
 exists IP,IL bl
def IQ:aD ["rows","evening","row"] ["rows","evening"] (aAa (top 61)):=aJ
def IR:AS:=(af (az 2 (cC (Yb (ab 0) (Yb (cC (Yb (aa 1) ae) aH) ae)) mX)) (ag (mB (b2 (cC (Yb (b2 (aa 2) (kD (.int 1)) ak) (Yb (ab 1) ae)) rL) (b2 (aa 2) (kD (.int 2)) ak) (au true)))))
def rN:AQ->Option D:=ao 2 3 IR
def QW(bl:Bl K w mg):aM P w K mg base 2 2 "sums_said" ["rows","evening"] rN:=by
 refine aw bl.f61 IQ λhr=>?_
 exists IQ,IL bl,QS bl
def IS:aD ["first","rows","evening","so","beacon","asked"] ["first","rows","evening","so"] (aAa (top 62)):=aJ
def QX:aS ["first","rows","evening","so","beacon","asked"] (aAa (top 62)) ["row","beacon","evening","so"] [none,some 4,some 2,some 3] (aW [(".0",.local),("row",.local),("beacon",.free),("evening",.free),("so",.free)]):=Ye (by decide +kernel)
def QY:aS ["first","rows","evening","so","beacon","asked"] (aAa (top 62)) ["row","beacon"] [none,some 4] (aW [(".0",.local),("row",.local),("beacon",.free)]):=Ye (by decide +kernel)
def rO:AU:=(bA (b2 (b2 (aa 0) (kD (.int 0)) ak) (aa 1) fg) (b2 (b2 (aa 2) (b2 (aa 0) (kD (.int 0)) ak) ak) (aa 3) (au true)))
def BR:AV:=(ab 0)
def BS:AV:=(mB (b2 (aa 1) (b2 (aa 0) (kD (.int 1)) ak) (cJ false)))
@[simp] def QZ:AS:=(ag (ec (ab 3)))
@[simp] def Q0:AS:=(af (wF [5] (aX (bA (b2 (aa 4) (aa 0) (cJ false)) (b1 (cC (Yb (lF (Yr (b1 (ab 5) Yc) [none,some 4] (ah 0) tY (BS))) ae) bB) a6)) (ag (ab 3)) av)) QZ)
@[simp] def Q1:AS:=(af (aO 5 (Yr (b1 (ab 1) Yc) [none,some 4,some 2,some 3] (ah 0) (rO) (BR))) Q0)
def rP:AS:=(af (az 4 (cC (Yb (aa 2) ae) aH)) Q1)
def rQ:AQ->Option D:=ao 4 6 rP
def Q3(bl:Bl K w mg):aM P w K mg base 1 4 "rows_said" ["first","rows","evening","so"] rQ:=by
 refine aw bl.f62 IS λhr=>?_
 exists IS,QX,QY
def IT:aD ["paper","book","hands","start","evening","word","so","ahead"] ["paper","book","hands","start","evening"] (aAa (top 67)):=aJ
@[simp] def Q4:AS:=(ag (kD (.bl false)))
@[simp] def Q5:AS:=(af (aX (b2 (aa 5) (kD (.str "lone")) (au false)) (af nS nS) av) Q4)
@[simp] def Q6:AS:=(af (aX (b2 (aa 5) (kD (.str "odd")) (au false)) nS av) Q5)
@[simp] def Q7:AS:=(af (aX (b2 (aa 5) (kD (.str "late")) (au false)) nS av) Q6)
@[simp] def Q8:AS:=(af (aX (b2 (aa 5) (kD (.str "cross")) (au false)) nS av) Q7)
@[simp] def Q9:AS:=(af (aX (b2 (aa 5) (kD (.str "rows")) (au false)) (ag (cC (Yb (b2 (aa 0) (kD (.int 1)) ak) (Yb (b2 (aa 0) (kD (.int 2)) ak) (Yb (ab 4) (Yb (ab 6) ae)))) rQ)) av) Q8)
@[simp] def BU:AS:=(af (aX (b2 (aa 5) (kD (.str "sums")) (au false)) (ag (cC (Yb (b2 (aa 0) (kD (.int 1)) ak) (Yb (ab 4) ae)) rN)) av) Q9)
@[simp] def BV:AS:=(af (aX (b2 (aa 5) (kD (.str "plan")) (au false)) (ag (cC (Yb (b2 (aa 0) (kD (.int 1)) ak) (Yb (ab 4) ae)) rM)) av) BU)
@[simp] def BW:AS:=(af (az 6 (mB (b2 (b2 (aa 1) (kD (.int 0)) ak) (kD (.str "ifs")) (au false)))) BV)
def rR:AS:=(af (az 5 (b2 (aa 0) (kD (.int 0)) ak)) BW)
def f_:AQ->Option D:=ao 5 8 rR
def BX(bl:Bl K w mg):aM P w K mg base 3 5 "said" ["paper","book","hands","start","evening"] f_:=by
 refine aw bl.f67 IT λhr=>?_
 exists IT,QV bl,QW bl,Q3 bl
def Q_:aD ["self","watch"] ["self","watch"] (aAa (inClass (top 70) 1)):=aJ
def BY:AS:=(ag (cq (mB (b2 (b1 (ab 0) (aT "Rowed" "seen")) (cC (Yb (b1 (ab 0) (aT "Rowed" "row")) ae) aH) fg)) (mB (b2 (b2 (b2 (b1 (ab 0) (aT "Rowed" "row")) (b1 (ab 0) (aT "Rowed" "seen")) ak) (kD (.int 2)) aN) (kD (.int 1)) (au false)))))
def rS:AQ->Option D:=ao 2 2 BY
def Ra(bl:Bl K w mg){c:Str}(F:Mq K c "says" "Rowed.says" (inClass (top 70) 1)):di P w K mg base 1 c "says" ["self","watch"] (bg K 2 rS):=by
 refine dW F Q_ λhr=>?_
 exists rfl
def Rb:aD ["self"] ["self"] (aAa (inClass (top 93) 1)):=aJ
def BZ:AS:=(af (aX (b2 (cC (Yb (b1 (ab 0) (aT "Watch" "truths")) ae) aH) (cC (Yb (b1 (ab 0) (aT "Watch" "hands")) ae) aH) (au false)) (ag (kD .non)) av) (ag (b2 (b1 (ab 0) (aT "Watch" "hands")) (cC (Yb (b1 (ab 0) (aT "Watch" "truths")) ae) aH) ak)))
def Yn:AQ->Option D:=ao 1 1 BZ
def B0(bl:Bl K w mg){c:Str}(F:Mq K c "turn" "Watch.turn" (inClass (top 93) 1)):di P w K mg base 1 c "turn" ["self"] (bg K 1 Yn):=by
 refine dW F Rb λhr=>?_
 exists rfl
def Rc:aD ["self"] ["self"] (aAa (inClass (top 93) 4)):=aJ
def rT:AS:=(af (aX (b2 (b1 (ab 0) (a7 "Watch" "turn" Yn)) (kD .non) (cb true)) (ag (kD .non)) av) (ag (k3 (b1 (cC (Yb (b1 (ab 0) (aT "Watch" "book")) (Yb (b1 (ab 0) (aT "Watch" "truths")) ae)) mQ) a6) (kD (.str "keeper")) (kD (.str "storm")))))
def Yt:AQ->Option D:=ao 1 1 rT
def B1(bl:Bl K w mg){c:Str}(F:Mq K c "winner" "Watch.winner" (inClass (top 93) 4)):di P w K mg base 5 c "winner" ["self"] (bg K 1 Yt):=by
 refine dW F Rc λhr=>?_
 exists B0 bl bl.r_Watch_turn,IC bl
def Re:aD ["self","lit"] ["self","lit"] (aAa (inClass (top 93) 5)):=aJ
def Rf:Hm:=(eV (iN (b1 (ab 0) (a7 "Watch" "winner" Yt))))
def Rg:Hm:=(aK (mG 0 (ab 1)) Rf)
def Rh:Hm:=(aK (d9 (aX (bA (b2 (aa 1) (kD (.bl true)) (eD true)) (b2 (aa 1) (kD (.bl false)) (eD true))) nS av)) Rg)
def Ri:Hm:=(aK (jJ (eE (b2 (b1 (ab 0) (a7 "Watch" "turn" Yn)) (kD .non) (cb false))) (d9 nS) dY) Rh)
def mY:Hf:=bj 2 Ri
def Rj(bl:Bl K w mg){c:Str}(F:Mq K c "settle" "Watch.settle" (inClass (top 93) 5)):di P w K mg base 6 c "settle" ["self","lit"] (dP K 2 mY):=by
 refine f9 F Re λhr=>?_
 exists B0 bl bl.r_Watch_turn,B1 bl bl.r_Watch_winner
def Rk:aD ["self"] ["self"] (aAa (inClass (top 93) 2)):=aJ
def IU:AS:=(ag (cC (Yb (b1 (ab 0) (aT "Watch" "truths")) ae) aV))
def Yq:AQ->Option D:=ao 1 1 IU
def B2(bl:Bl K w mg){c:Str}(F:Mq K c "evening" "Watch.evening" (inClass (top 93) 2)):di P w K mg base 1 c "evening" ["self"] (bg K 1 Yq):=by
 refine dW F Rk λhr=>?_
 exists rfl
def Rm:aD ["self","watch"] ["self","watch"] (aAa (inClass (top 71) 1)):=aJ
def IV:AS:=(ag (cC (Yb (b1 (ab 0) (aT "Papered" "paper")) (Yb (b1 (ab 0) (aT "Papered" "book")) (Yb (b1 (ab 0) (aT "Papered" "hands")) (Yb (b1 (ab 0) (aT "Papered" "start")) (Yb (b1 (ab 1) (a7 "Watch" "evening" Yq)) ae))))) f_))
def jN:AQ->Option D:=ao 2 2 IV
def Rn(bl:Bl K w mg){c:Str}(F:Mq K c "says" "Papered.says" (inClass (top 71) 1)):di P w K mg base 4 c "says" ["self","watch"] (bg K 2 jN):=by
 refine dW F Rm λhr=>?_
 exists BX bl,B2 bl bl.r_Watch_evening
def Rq:aD ["self","watch"] ["self","watch"] (aAa (inClass (top 69) 1)):=aJ
def Rr:AS:=(ag (kD (.bl false)))
def IW:AQ->Option D:=ao 2 2 Rr
def Rt(bl:Bl K w mg){c:Str}(F:Mq K c "says" "Settler.says" (inClass (top 69) 1)):di P w K mg base 1 c "says" ["self","watch"] (bg K 2 IW):=by
 refine dW F Rq λhr=>?_
 exists rfl
def Ru:aD ["self","hand","lit"] ["self","hand","lit"] (aAa (inClass (top 70) 2)):=aJ
def Rv:Hm:=(jJ (eE (b2 (aa 1) (b1 (ab 0) (aT "Rowed" "hand")) (au false))) (mF 0) dY)
def m_:Hf:=bj 3 Rv
def Rw(bl:Bl K w mg){c:Str}(F:Mq K c "sees" "Rowed.sees" (inClass (top 70) 2)):di P w K mg base 1 c "sees" ["self","hand","lit"] (dP K 3 m_):=by
 refine f9 F Ru λhr=>?_
 exists rfl
def Rx:aD ["self","hand","lit"] ["self","hand","lit"] (aAa (inClass (top 69) 2)):=aJ
@[reducible] def Ry:Hm:=(d9 av)
def nc:Hf:=bj 3 Ry
def IX(bl:Bl K w mg){c:Str}(F:Mq K c "sees" "Settler.sees" (inClass (top 69) 2)):di P w K mg base 1 c "sees" ["self","hand","lit"] (dP K 3 nc):=by
 refine f9 F Rx λhr=>?_
 exists rfl
def IY:aD ["watch","keeper","storm","hand","mover","lit"] ["watch","keeper","storm"] (aAa (top 72)):=aJ
def ng:List (Str×(AQ->Option D)):=[("Settler",IW),("Rowed",rS),("Papered",jN)]
def B3(a:Bl K w mg):OkTb P w K mg base 4 "says" (bg K 2) ng:=⟨⟨_,iU (Rt a a.r_Settler_says)⟩,⟨⟨_,iU (Ra a a.r_Rowed_says)⟩,⟨⟨_,iU (Rn a a.r_Papered_says)⟩,trivial⟩⟩⟩
def nh:List (Str×Hf):=[("Settler",nc),("Rowed",m_),("Papered",nc)]
def B4(a:Bl K w mg):OkTb P w K mg base 1 "sees" (dP K 3) nh:=⟨⟨_,iU (IX a a.r_Settler_sees)⟩,⟨⟨_,iU (Rw a a.r_Rowed_sees)⟩,⟨⟨_,iU (IX a a.r_Papered_sees)⟩,trivial⟩⟩⟩
def rV:List (Str×Hf):=[("Watch",mY)]
def IZ(a:Bl K w mg):OkTb P w K mg base 6 "settle" (dP K 2) rV:=⟨⟨_,iU (Rj a a.r_Watch_settle)⟩,trivial⟩
def Rz:Hm:=(fY (gK "sees" nh (ab 2) (Yb (ab 3) (Yb (ab 5) ae))))
def RA:Hm:=(aK (fY (gK "sees" nh (ab 1) (Yb (ab 3) (Yb (ab 5) ae)))) Rz)
def RB:Hm:=(aK (fY (gK "settle" rV (ab 0) (Yb (ab 5) ae))) RA)
def RC:Hm:=(aK (dH 5 (iN (iR "says" ng (ab 4) (Yb (ab 0) ae)))) RB)
def RD:Hm:=(aK (d9 (az 4 (k3 (b2 (aa 3) (kD (.str "keeper")) (au false)) (ab 1) (ab 2)))) RC)
def B5:Hm:=(aK (dH 3 (iN (b1 (ab 0) (a7 "Watch" "turn" Yn)))) RD)
def RE:Hm:=(aK (A0 (eE (b2 (b1 (ab 0) (a7 "Watch" "turn" Yn)) (kD .non) (cb true))) B5) (eV (iN (b1 (ab 0) (a7 "Watch" "winner" Yt)))))
def B6:Hf:=bj 6 RE
def RF(bl:Bl K w mg):mD P w K mg base 7 3 "play_out" ["watch","keeper","storm"] B6:=by
 refine mL bl.f72 IY λhr=>?_
 exists B0 bl bl.r_Watch_turn,IY,B3 bl,IZ bl,B4 bl,B1 bl bl.r_Watch_winner
def RG:aD ["rows"] ["rows"] (aAa (top 74)):=aJ
def RH:aS ["rows"] (aAa (top 74)) ["row"] [none] (aW [(".0",.local),("row",.local)]):=Ye (by decide +kernel)
def Ys:AV:=(aG (Yb (b2 (aa 0) (kD (.int 0)) ak) (Yb (ab 0) ae)))
def B7:AS:=(ag (iW (lF (Yr (b1 (ab 0) Yc) [none] (ah 0) tY (Ys)))))
def Yv:AQ->Option D:=ao 1 1 B7
def I0(bl:Bl K w mg):aM P w K mg base 1 1 "rows_by_beacon" ["rows"] Yv:=by
 refine aw bl.f74 RG λhr=>?_
 exists RH
def RI:aD ["row","storms"] ["row","storms"] (aAa (top 75)):=aJ
def rW:AS:=(ag (k1 (mB (b2 (b2 (aa 0) (kD (.int 1)) ak) (kD .non) (cb false))) (cq (mB (b2 (b2 (aa 0) (kD (.int 1)) ak) (aa 1) (cJ false))) (mB (b2 (b2 (aa 0) (kD (.int 1)) ak) (b2 (aa 0) (kD (.int 0)) ak) fg)))))
def rX:AQ->Option D:=ao 2 2 rW
def RJ(bl:Bl K w mg):aM P w K mg base 1 2 "is_plan_row" ["row","storms"] rX:=by
 refine aw bl.f75 RI λhr=>?_
 exists rfl
def I_:aD ["saying","plan","row"] ["saying","plan"] (aAa (top 76)):=aJ
@[simp] def RK:AS:=(ag (aG (Yb (b2 (aa 2) (kD (.int 1)) ak) (Yb (mB (b2 (b2 (aa 0) (kD (.int 1)) ak) (b2 (aa 2) (kD (.int 2)) ak) (au false))) ae))))
@[simp] def RL:AS:=(af (az 2 (b2 (aa 1) (b2 (aa 0) (kD (.int 0)) ak) ej)) RK)
def B8:AS:=(af (aX (b2 (b2 (aa 0) (kD (.int 0)) ak) (aa 1) (ek true)) (ag (ab 0)) av) RL)
def rY:AQ->Option D:=ao 2 3 B8
def RM(bl:Bl K w mg):aM P w K mg base 1 2 "come_to" ["saying","plan"] rY:=by
 refine aw bl.f76 I_ λhr=>?_
 exists I_
def Ja:aD ["rule","plan","ends"] ["rule","plan"] (aAa (top 77)):=aJ
def RN:aS ["rule","plan","ends"] (aAa (top 77)) ["saying","plan"] [none,some 1] (aW [(".0",.local),("saying",.local),("come_to",.globalImplicit),("plan",.free)]):=Ye (by decide +kernel)
def RO:aS ["rule","plan","ends"] (aAa (top 77)) ["end","ends"] [none,some 2] (aW [(".0",.local),("end",.local),("contrary",.globalImplicit),("ends",.free)]):=Ye (by decide +kernel)
def B9:AV:=(cC (Yb (ab 0) (Yb (ab 1) ae)) rY)
def rZ:AV:=(k1 (mB (b2 (aa 0) (aG (Yb (kD .non) (Yb (kD (.bl true)) ae))) (au false))) (mB (b2 (cC (Yb (ab 0) ae) iX) (aa 1) (cJ false))))
def Jb:AS:=(af (aO 2 (Yr (b1 (ab 0) Yc) [none,some 1] (ah 0) tY (B9))) (wF [2] (ag (cC (Yb (lF (Yr (b1 (ab 2) Yc) [none,some 2] (ah 0) tY (rZ))) ae) dd))))
def r0:AQ->Option D:=ao 2 3 Jb
def RP(bl:Bl K w mg):aM P w K mg base 2 2 "either_is_kept" ["rule","plan"] r0:=by
 refine aw bl.f77 Ja λhr=>?_
 exists Ja,RN,RM bl,RO,Iq bl
def Jc:aD ["rows","book","keepers","storms","plan"] ["rows","book","keepers","storms"] (aAa (top 78)):=aJ
def RQ:aS ["rows","book","keepers","storms","plan"] (aAa (top 78)) ["row"] [none] (aW [(".0",.local),("row",.local)]):=Ye (by decide +kernel)
def RS:aS ["rows","book","keepers","storms","plan"] (aAa (top 78)) ["row","storms"] [none,some 3] (aW [(".0",.local),("row",.local),("is_plan_row",.globalImplicit),("storms",.free)]):=Ye (by decide +kernel)
def RT:aS ["rows","book","keepers","storms","plan"] (aAa (top 78)) ["rule","plan"] [none,some 4] (aW [(".0",.local),("rule",.local),("either_is_kept",.globalImplicit),("plan",.free)]):=Ye (by decide +kernel)
def B_:AV:=(b2 (aa 0) (kD (.int 0)) ak)
def Ca:AV:=(cC (Yb (ab 0) (Yb (ab 1) ae)) rX)
def Cb:AV:=(cC (Yb (ab 0) (Yb (ab 1) ae)) r0)
@[simp] def RU:AS:=(ag (cC (Yb (lF (Yr (b1 (b2 (aa 1) (kD (.int 1)) ak) Yc) [none,some 4] (ah 0) tY (Cb))) ae) bB))
@[simp] def RV:AS:=(af (az 4 (cC (Yb (ab 0) ae) Yv)) RU)
def r_:AS:=(af (aX (eB (b2 (lF (Yr (b1 (ab 0) Yc) [none] (ah 0) tY (B_))) (aa 2) (au true)) (cK (b1 (cC (Yb (lF (Yr (b1 (ab 0) Yc) [none,some 3] (ah 0) tY (Ca))) ae) bB) a6))) (ag (kD (.bl false))) av) RV)
def sd:AQ->Option D:=ao 4 5 r_
def RW(bl:Bl K w mg):aM P w K mg base 3 4 "plan_good" ["rows","book","keepers","storms"] sd:=by
 refine aw bl.f78 Jc λhr=>?_
 exists RQ,RS,RJ bl,Jc,I0 bl,RT,RP bl
def RX:aD ["row","storms"] ["row","storms"] (aAa (top 79)):=aJ
def RY:aS ["row","storms"] (aAa (top 79)) ["beacon","storms","row"] [none,some 1,some 0] (aW [(".0",.local),("beacon",.local),("row",.free),("storms",.free)]):=Ye (by decide +kernel)
def se:AV:=(cq (mB (b2 (aa 0) (aa 1) (cJ false))) (mB (b2 (aa 0) (b2 (aa 2) (kD (.int 0)) ak) fg)))
def Cc:AS:=(ag (cq (cC (Yb (b2 (aa 0) (kD (.int 1)) ak) ae) mO) (cC (Yb (lF (Yr (b1 (b2 (aa 0) (kD (.int 1)) ak) Yc) [none,some 1,some 0] (ah 0) tY (se))) ae) bB)))
def sg:AQ->Option D:=ao 2 2 Cc
def RZ(bl:Bl K w mg):aM P w K mg base 2 2 "is_sum_row" ["row","storms"] sg:=by
 refine aw bl.f79 RX λhr=>?_
 exists Ip bl,RY
def Jd:aD ["rule","sums","whole","beacon","row"] ["rule","sums"] (aAa (top 80)):=aJ
def Cd:AS:=(af (az 4 (b3 (aa 1) (aa 3) (aG (Yb (ab 3) (Yb (aG (Yb (ab 3) ae)) (Yb (kD (.bl false)) ae)))) jC)) (az 2 (cC (Yb (ab 2) (Yb (aG (Yb (b2 (aa 4) (kD (.int 1)) ak) (Yb (b2 (aa 4) (kD (.int 2)) ak) ae))) ae)) mM)))
@[simp] def R0:AS:=(ag (ab 2))
@[simp] def R1:AS:=(af (bY (b1 (b2 (aa 0) (kD (.int 0)) ak) Yc) (ah 3) Cd) R0)
def Je:AS:=(af (az 2 (aG (Yb (aG ae) (Yb (kD (.bl false)) ae)))) R1)
def si:AQ->Option D:=ao 2 5 Je
def R3(bl:Bl K w mg):aM P w K mg base 2 2 "replaced" ["rule","sums"] si:=by
 refine aw bl.f80 Jd λhr=>?_
 exists Jd,Pt bl
def Jf:aD ["rows","book","keepers","storms","sums"] ["rows","book","keepers","storms"] (aAa (top 81)):=aJ
def R4:aS ["rows","book","keepers","storms","sums"] (aAa (top 81)) ["row"] [none] (aW [(".0",.local),("row",.local)]):=Ye (by decide +kernel)
def R5:aS ["rows","book","keepers","storms","sums"] (aAa (top 81)) ["row","storms"] [none,some 3] (aW [(".0",.local),("row",.local),("is_sum_row",.globalImplicit),("storms",.free)]):=Ye (by decide +kernel)
def R6:aS ["rows","book","keepers","storms","sums"] (aAa (top 81)) ["rule","sums"] [none,some 4] (aW [(".0",.local),("rule",.local),("replaced",.globalImplicit),("sums",.free)]):=Ye (by decide +kernel)
def Ce:AV:=(b2 (aa 0) (kD (.int 0)) ak)
def Cg:AV:=(cC (Yb (ab 0) (Yb (ab 1) ae)) sg)
def Ci:AV:=(mB (b2 (cC (Yb (ab 0) (Yb (ab 1) ae)) si) (aG (Yb (aG ae) (Yb (b2 (aa 0) (kD (.int 1)) ak) ae))) (au false)))
@[simp] def R7:AS:=(ag (cC (Yb (lF (Yr (b1 (b2 (aa 1) (kD (.int 1)) ak) Yc) [none,some 4] (ah 0) tY (Ci))) ae) bB))
@[simp] def R8:AS:=(af (az 4 (cC (Yb (ab 0) ae) Yv)) R7)
def sj:AS:=(af (aX (eB (b2 (lF (Yr (b1 (ab 0) Yc) [none] (ah 0) tY (Ce))) (aa 2) (au true)) (cK (b1 (cC (Yb (lF (Yr (b1 (ab 0) Yc) [none,some 3] (ah 0) tY (Cg))) ae) bB) a6))) (ag (kD (.bl false))) av) R8)
def sk:AQ->Option D:=ao 4 5 sj
def R9(bl:Bl K w mg):aM P w K mg base 3 4 "sums_good" ["rows","book","keepers","storms"] sk:=by
 refine aw bl.f81 Jf λhr=>?_
 exists R4,R5,RZ bl,Jf,I0 bl,R6,R3 bl
def R_:aD ["beacons","others"] ["beacons","others"] (aAa (top 82)):=aJ
def Sa:aS ["beacons","others"] (aAa (top 82)) ["beacon","others"] [none,some 1] (aW [(".0",.local),("beacon",.local),("others",.free)]):=Ye (by decide +kernel)
def Cj:AV:=(mB (b2 (aa 0) (aa 1) (cJ false)))
def Ck:AS:=(ag (cq (cC (Yb (ab 0) ae) mO) (cC (Yb (lF (Yr (b1 (ab 0) Yc) [none,some 1] (ah 0) tY (Cj))) ae) bB)))
def ni:AQ->Option D:=ao 2 2 Ck
def Jg(bl:Bl K w mg):aM P w K mg base 2 2 "are_some_of" ["beacons","others"] ni:=by
 refine aw bl.f82 R_ λhr=>?_
 exists Ip bl,Sa
def Sb:aD ["beacons","beacon"] ["beacons","beacon"] (aAa (top 83)):=aJ
def Sd:aS ["beacons","beacon"] (aAa (top 83)) ["other","beacon"] [none,some 1] (aW [(".0",.local),("other",.local),("beacon",.free)]):=Ye (by decide +kernel)
def Cm:AU:=(b2 (aa 0) (aa 1) fg)
def Cn:AV:=(ab 0)
def Jh:AS:=(ag (lF (Yr (b1 (ab 0) Yc) [none,some 1] (ah 0) (Cm) (Cn))))
def nj:AQ->Option D:=ao 2 2 Jh
def Se(bl:Bl K w mg):aM P w K mg base 1 2 "ahead_of" ["beacons","beacon"] nj:=by
 refine aw bl.f83 Sb λhr=>?_
 exists Sd
def Sf:aD ["row","first","keepers"] ["row","first","keepers"] (aAa (top 84)):=aJ
def Co:AS:=(ag (cq (cC (Yb (b2 (aa 0) (kD (.int 1)) ak) (Yb (ab 2) ae)) ni) (mB (b2 (cC (Yb (b2 (aa 0) (kD (.int 1)) ak) (Yb (b2 (aa 0) (kD (.int 0)) ak) ae)) nj) (cC (Yb (ab 1) (Yb (b2 (aa 0) (kD (.int 0)) ak) ae)) nj) (au false)))))
def sm:AQ->Option D:=ao 3 3 Co
def Sg(bl:Bl K w mg):aM P w K mg base 3 3 "is_row" ["row","first","keepers"] sm:=by
 refine aw bl.f84 Sf λhr=>?_
 exists Jg bl,Se bl
def Sh:aD ["book","lit","count"] ["book","lit","count"] (aAa (top 85)):=aJ
def Si:aS ["book","lit","count"] (aAa (top 85)) ["beacon","lit"] [none,some 1] (aW [(".0",.local),("beacon",.local),("lit",.free)]):=Ye (by decide +kernel)
def Cp:AV:=(mB (b2 (aa 0) (aa 1) (cJ false)))
def Ji:AS:=(ag (cC (Yb (ab 0) (Yb (lF (Yr (cF (Yb (ab 2) ae) cM) [none,some 1] (ah 0) tY (Cp))) ae)) mQ))
def sq:AQ->Option D:=ao 3 3 Ji
def Sj(bl:Bl K w mg):aM P w K mg base 5 3 "holds_where_lit" ["book","lit","count"] sq:=by
 refine aw bl.f85 Sh λhr=>?_
 exists IC bl,Si
def Jj:aD ["first","rows","book","keepers","storms","count","lit_ones"] ["first","rows","book","keepers","storms","count"] (aAa (top 86)):=aJ
def Sk:aS ["first","rows","book","keepers","storms","count","lit_ones"] (aAa (top 86)) ["row"] [none] (aW [(".0",.local),("row",.local)]):=Ye (by decide +kernel)
def Sl:aS ["first","rows","book","keepers","storms","count","lit_ones"] (aAa (top 86)) ["row","first","keepers"] [none,some 0,some 3] (aW [(".0",.local),("row",.local),("is_row",.globalImplicit),("first",.free),("keepers",.free)]):=Ye (by decide +kernel)
def Sn:aS ["first","rows","book","keepers","storms","count","lit_ones"] (aAa (top 86)) ["row","storms"] [none,some 4] (aW [(".0",.local),("row",.local),("list",.globalImplicit),("without",.globalImplicit),("storms",.free)]):=Ye (by decide +kernel)
def So:aS ["first","rows","book","keepers","storms","count","lit_ones"] (aAa (top 86)) ["lit","book","count"] [none,some 2,some 5] (aW [(".0",.local),("lit",.local),("holds_where_lit",.globalImplicit),("book",.free),("count",.free)]):=Ye (by decide +kernel)
def Cq:AV:=(b2 (aa 0) (kD (.int 0)) ak)
def Cr:AV:=(cC (Yb (ab 0) (Yb (ab 1) (Yb (ab 2) ae))) sm)
def Cs:AV:=(lF (b2 (lF (cF (Yb (cC (Yb (ab 1) (Yb (b2 (aa 0) (kD (.int 0)) ak) ae)) gL) ae) eC)) (lF (cF (Yb (b2 (aa 0) (kD (.int 1)) ak) ae) eC)) bO))
def Cu:AV:=(cC (Yb (ab 1) (Yb (ab 0) (Yb (ab 2) ae))) sq)
@[simp,reducible] def Sq:AS:=(wF [6] (ag (cC (Yb (lF (Yr (b1 (ab 6) Yc) [none,some 2,some 5] (ah 0) tY (Cu))) ae) bB)))
@[simp] def Sr:AS:=(af (aO 6 (b2 (lF (bc (Yb (lF (b2 (aa 4) (lF (cF (Yb (aa 0) ae) eC)) bO)) ae))) (lF (Yr (b1 (ab 1) Yc) [none,some 4] (ah 0) tY (Cs))) bO)) Sq)
@[simp] def Ss:AS:=(af (aX (cK (b1 (cC (Yb (lF (Yr (b1 (ab 1) Yc) [none,some 0,some 3] (ah 0) tY (Cr))) ae) bB) a6)) (ag (kD (.bl false))) av) Sr)
def nk:AS:=(af (aX (eB (cK (b1 (cC (Yb (ab 0) (Yb (ab 3) ae)) ni) a6)) (b2 (lF (Yr (b1 (ab 1) Yc) [none] (ah 0) tY (Cq))) (aa 4) (au true))) (ag (kD (.bl false))) av) Ss)
def sv:AQ->Option D:=ao 6 7 nk
def Su(bl:Bl K w mg):aM P w K mg base 6 6 "rows_good" ["first","rows","book","keepers","storms","count"] sv:=by
 refine aw bl.f86 Jj λhr=>?_
 exists Jg bl,Sk,Sl,Sg bl,Jj,Sn,BG bl,So,Sj bl
def Jk:aD ["paper","book","hands","start","keepers","storms"] ["paper","book","hands","start"] (aAa (top 87)):=aJ
def nq(a:AQ->Option D):AS:=(af (aX (b2 (b2 (aa 1) (kD (.int 0)) ak) (kD (.str "nots")) (au false)) (ag (cC (Yb (ab 0) (Yb (cC (Yb (ab 1) ae) iY) (Yb (ab 2) (Yb (ab 3) ae)))) a)) av) (af (az 4 (cC (Yb (ab 2) (Yb (ab 3) (Yb (kD (.str "keeper")) ae))) mN)) (af (az 5 (cC (Yb (ab 2) (Yb (ab 3) (Yb (kD (.str "storm")) ae))) mN)) (af (aX (bA (b2 (b2 (aa 0) (kD (.int 0)) ak) (kD (.str "plan")) (au false)) (b2 (b2 (aa 1) (kD (.int 0)) ak) (kD (.str "eithers")) (au false))) (ag (cC (Yb (b2 (aa 0) (kD (.int 1)) ak) (Yb (ab 1) (Yb (ab 4) (Yb (ab 5) ae)))) sd)) av) (af (aX (bA (b2 (b2 (aa 0) (kD (.int 0)) ak) (kD (.str "sums")) (au false)) (b2 (b2 (aa 1) (kD (.int 0)) ak) (kD (.str "sums")) (au false))) (ag (cC (Yb (b2 (aa 0) (kD (.int 1)) ak) (Yb (ab 1) (Yb (ab 4) (Yb (ab 5) ae)))) sk)) av) (af (aX (bA (b2 (b2 (aa 0) (kD (.int 0)) ak) (kD (.str "rows")) (au false)) (b2 (b2 (aa 1) (kD (.int 0)) ak) (kD (.str "ifs")) (au false))) (ag (cC (Yb (b2 (aa 0) (kD (.int 1)) ak) (Yb (b2 (aa 0) (kD (.int 2)) ak) (Yb (ab 1) (Yb (ab 4) (Yb (ab 5) (Yb (cC (Yb (aa 2) ae) aH) ae)))))) sv)) av) (ag (kD (.bl false)))))))))
def Yu:Nat->AQ->Option D
 | 0=>λ_=>none
 | k+1=>ao 4 6 (nq (Yu k))
def y4:AQ->Option D:=Yu 12
def Sv(bl:Bl K w mg){k j:Nat}(rc:aM P w K mg base k 4 "keeper_good" ["paper","book","hands","start"] (Yu j))(hk:6<=k):aM P w K mg base (k+1) 4 "keeper_good" ["paper","book","hands","start"] (Yu (j+1)):=by
 refine aw bl.f87 Jk λhr=>?_
 exists Iv bl,Jk,Pw bl,RW bl,R9 bl,Su bl
def Sw(a:Bl K w mg):aM P w K mg base 18 4 "keeper_good" ["paper","book","hands","start"] y4:=mK  (mr:=Yu) a.f87 rfl (Sv a) (j:=12)
def Cv:aD ["paper","book","hands","start","hand"] ["paper","book","hands","start","hand"] (aAa (top 89)):=aJ
def nt:AS:=(af (aX (b2 (aa 4) (kD (.str "keeper")) (au false)) (ag (cC (Yb (ab 0) (Yb (ab 1) (Yb (ab 2) (Yb (ab 3) ae)))) y4)) av) nS)
def nu:AQ->Option D:=ao 5 5 nt
def Cw(bl:Bl K w mg):aM P w K mg base 19 5 "good" ["paper","book","hands","start","hand"] nu:=by
 refine aw bl.f89 Cv λhr=>?_
 exists Sw bl
def Sx:aD ["thing"] ["thing"] (aAa (top 91)):=aJ
def Sy:AS:=(ag (cq (mB (b1 (aa 0) (eQ "str"))) (mB (b1 (aa 0) (yk false Ih)))))
def Cy:AQ->Option D:=ao 1 1 Sy
def Sz(bl:Bl K w mg):aM P w K mg base 1 1 "is_hand" ["thing"] Cy:=by
 refine aw bl.f91 Sx λhr=>?_
 exists rfl
def SA:aD ["book","hands"] ["book","hands"] (aAa (top 92)):=aJ
def SB:aS ["book","hands"] (aAa (top 92)) ["thing"] [none] (aW [(".0",.local),("thing",.local),("is_hand",.globalImplicit)]):=Ye (by decide +kernel)
def SC:aS ["book","hands"] (aAa (top 92)) ["beacon","hands"] [none,some 1] (aW [(".0",.local),("beacon",.local),("len",.globalImplicit),("hands",.free)]):=Ye (by decide +kernel)
def Cz:AV:=(cC (Yb (ab 0) ae) Cy)
def CA:AV:=(mB (b2 (aa 0) (cC (Yb (aa 1) ae) aH) pf))
@[simp] def SD:AS:=(aX (b1 (cC (Yb (lF (Yr (b1 (cC (Yb (ab 0) ae) rC) Yc) [none,some 1] (ah 0) tY (CA))) ae) dd) a6) nS av)
@[simp] def SF:AS:=(af (aX (cK (b1 (cC (Yb (lF (Yr (b1 (ab 1) Yc) [none] (ah 0) tY (Cz))) ae) bB) a6)) nS av) SD)
def CB:AS:=(af (aX (b2 (cC (Yb (aa 1) ae) aH) (kD (.int 60)) fi) nS av) SF)
def jO:AQ->Option D:=ao 2 2 CB
def SG(bl:Bl K w mg):aM P w K mg base 3 2 "check_hands" ["book","hands"] jO:=by
 refine aw bl.f92 SA λhr=>?_
 exists SB,Sz bl,SC,P_ bl
def SH:aD ["script","k"] ["script","k"] (aAa (top 95)):=aJ
def CC:AS:=(af (aX (b2 (aa 1) (cC (Yb (aa 0) ae) aH) fg) (ag (b2 (aa 0) (aa 1) ak)) av) (ag (kD (.int 0))))
def Yp:AQ->Option D:=ao 2 2 CC
def sx(bl:Bl K w mg):aM P w K mg base 1 2 "_law_cell" ["script","k"] Yp:=by
 refine aw bl.f95 SH λhr=>?_
 exists rfl
theorem SI:aD ["cell","by"] ["cell","by"] (aAa (top 96)):=aJ
def Jl:AS:=(ag (b2 (b2 (b2 (aa 0) (kD (.int 2305843009213693951)) aN) (aa 1) eO) (kD (.int 2305843009213693951)) aN))
def gM:AQ->Option D:=ao 2 2 Jl
theorem nv(bl:Bl K w mg):aM P w K mg base 1 2 "_law_mixed" ["cell","by"] gM:=by
 refine aw bl.f96 SI λhr=>?_
 exists rfl
def Jm:aD ["cell","many","left","bits","k"] ["cell","many"] (aAa (top 97)):=aJ
def CD:AS:=(af (cD 3 (mB (b2 (b2 (aa 2) (kD (.int 2)) aN) (kD (.int 1)) (au false))) bu) (az 2 (b2 (aa 2) (kD (.int 2)) bF)))
@[simp,reducible] def SJ:AS:=(wF [3] (ag (ab 3)))
@[simp] def SK:AS:=(af (bY (cF (Yb (ab 1) ae) cM) (ah 4) CD) SJ)
@[simp] def SL:AS:=(af (aO 3 (bc ae)) SK)
def Jn:AS:=(af (az 2 (cC (Yb (ab 0) (Yb (kD (.int 1442695040888963407)) ae)) gM)) SL)
def fB:AQ->Option D:=ao 2 5 Jn
def nz(bl:Bl K w mg):aM P w K mg base 2 2 "_law_bits" ["cell","many"] fB:=by
 refine aw bl.f97 Jm λhr=>?_
 exists Jm,nv bl
def Jo:aD ["kind","rule","evening","way"] ["kind","rule","evening"] (aAa (top 98)):=aJ
def SM:aS ["kind","rule","evening","way"] (aAa (top 98)) ["saying","evening"] [none,some 2] (aW [(".0",.local),("saying",.local),("evening",.free)]):=Ye (by decide +kernel)
def SN:aS ["kind","rule","evening","way"] (aAa (top 98)) ["beacon","evening"] [none,some 2] (aW [(".0",.local),("beacon",.local),("int",.globalImplicit),("evening",.free)]):=Ye (by decide +kernel)
def SO:aS ["kind","rule","evening","way"] (aAa (top 98)) ["beacon","evening","way"] [none,some 2,some 3] (aW [(".0",.local),("beacon",.local),("evening",.free),("way",.free)]):=Ye (by decide +kernel)
def CG:AV:=(mB (b2 (b2 (aa 1) (b2 (aa 0) (kD (.int 0)) ak) ak) (b2 (aa 0) (kD (.int 1)) ak) (au false)))
def CH:AV:=(cC (Yb (b2 (aa 1) (aa 0) ak) ae) fO)
def CI:AV:=(mB (b2 (b2 (aa 1) (aa 0) ak) (aa 2) (au true)))
@[simp] def CJ:AS:=(ag (cq (mB (b2 (b2 (aa 1) (kD (.int 1)) ak) (kD .non) (cb true))) (mB (b2 (b2 (aa 2) (b2 (aa 1) (kD (.int 1)) ak) ak) (aa 3) (au false)))))
@[simp] def sA:AS:=(af (aX (b1 (cC (Yb (lF (Yr (b1 (b2 (aa 1) (kD (.int 0)) ak) Yc) [none,some 2,some 3] (ah 0) tY (CI))) ae) dd) a6) (ag (kD (.bl true))) av) CJ)
@[simp] def SQ:AS:=(af (az 3 (mB (b2 (aa 0) (kD (.str "ifs")) (au false)))) sA)
@[simp] def SS:AS:=(af (aX (b2 (aa 0) (kD (.str "sums")) (au false)) (ag (mB (b2 (mB (b2 (b2 (cC (Yb (lF (Yr (b1 (b2 (aa 1) (kD (.int 0)) ak) Yc) [none,some 2] (ah 0) tY (CH))) ae) fQ) (kD (.int 2)) aN) (kD (.int 1)) (au false))) (b2 (aa 1) (kD (.int 1)) ak) (au false)))) av) SQ)
def nA:AS:=(af (aX (b2 (aa 0) (kD (.str "eithers")) (au false)) (ag (cC (Yb (lF (Yr (b1 (ab 1) Yc) [none,some 2] (ah 0) tY (CG))) ae) dd)) av) SS)
def sC:AQ->Option D:=ao 3 4 nA
def SU(bl:Bl K w mg):aM P w K mg base 1 3 "_law_so" ["kind","rule","evening"] sC:=by
 refine aw bl.f98 Jo λhr=>?_
 exists SM,SN,Jo,SO
def SV:aD ["cell","many"] ["cell","many"] (aAa (top 99)):=aJ
def SW:aS ["cell","many"] (aAa (top 99)) ["bit"] [none] (aW [(".0",.local),("bit",.local),("int",.globalImplicit)]):=Ye (by decide +kernel)
def CK:AV:=(b2 (lF (bc (Yb (kD (.str "storm")) (Yb (kD (.str "keeper")) ae)))) (cC (Yb (aa 0) ae) fO) ak)
def Jp:AS:=(ag (lF (Yr (b1 (cC (Yb (ab 0) (Yb (ab 1) ae)) fB) Yc) [none] (ah 0) tY (CK))))
def nB:AQ->Option D:=ao 2 2 Jp
def SX(bl:Bl K w mg):aM P w K mg base 3 2 "_law_hands" ["cell","many"] nB:=by
 refine aw bl.f99 SV λhr=>?_
 exists SW,nz bl
def SY:aD ["hands","start","hand"] ["hands","start","hand"] (aAa (top 100)):=aJ
def SZ:aS ["hands","start","hand"] (aAa (top 100)) ["beacon","hands","hand"] [none,some 0,some 2] (aW [(".0",.local),("beacon",.local),("hand",.free),("hands",.free)]):=Ye (by decide +kernel)
def CL:AU:=(b2 (b2 (aa 1) (aa 0) ak) (aa 2) (au false))
def CM:AV:=(ab 0)
def Jq:AS:=(ag (lF (Yr (cF (Yb (ab 1) (Yb (cC (Yb (aa 0) ae) aH) ae)) cW) [none,some 0,some 2] (ah 0) (CL) (CM))))
def iZ:AQ->Option D:=ao 3 3 Jq
def CN(bl:Bl K w mg):aM P w K mg base 1 3 "_law_own" ["hands","start","hand"] iZ:=by
 refine aw bl.f100 SY λhr=>?_
 exists SZ
def Jr:aD ["script","hands","start","rows","beacon","left","sources"] ["script","hands","start"] (aAa (top 101)):=aJ
def S0:aS ["script","hands","start","rows","beacon","left","sources"] (aAa (top 101)) ["at","hands"] [none,some 1] (aW [(".0",.local),("at",.local),("hands",.free)]):=Ye (by decide +kernel)
def CO:AU:=(b2 (b2 (aa 1) (aa 0) ak) (kD (.str "storm")) (au false))
def CP:AV:=(ab 0)
def CQ:AS:=(af (az 5 (cC (Yb (cC (Yb (ab 0) (Yb (b2 (kD (.int 3)) (aa 4) bX) ae)) Yp) (Yb (kD (.int 2049848353892358983)) ae)) gM)) (af (aO 6 (b2 (lF (Yr (cF (Yb (ab 2) (Yb (ab 4) ae)) cW) [none,some 1] (ah 0) (CO) (CP))) (lF (bc (Yb (kD .non) ae))) bO)) (cD 3 (aG (Yb (ab 4) (Yb (b2 (aa 6) (b2 (aa 5) (cC (Yb (aa 6) ae) aH) aN) ak) (Yb (mB (b2 (b2 (b2 (aa 5) (kD (.int 61)) bF) (kD (.int 2)) aN) (kD (.int 1)) (au false))) ae)))) bu)))
@[simp] def S1:AS:=(ag (cC (Yb (aa 3) ae) aV))
@[simp] def S2:AS:=(af (bY (b1 (cC (Yb (ab 1) (Yb (ab 2) (Yb (kD (.str "keeper")) ae))) iZ) Yc) (ah 4) CQ) S1)
def Js:AS:=(af (aO 3 (bc ae)) S2)
def nC:AQ->Option D:=ao 3 7 Js
def S3(bl:Bl K w mg):aM P w K mg base 2 3 "_law_plan" ["script","hands","start"] nC:=by
 refine aw bl.f101 Jr λhr=>?_
 exists Jr,CN bl,nv bl,sx bl,S0
def Jt:aD ["rows","saying","beacon","source","lit"] ["rows","saying"] (aAa (top 102)):=aJ
def Ym:AS:=(aX (b2 (aa 2) (b2 (aa 1) (kD (.int 0)) ak) (au false)) (af (aX (b2 (aa 3) (kD .non) (cb false)) (ag (mB (b2 (aa 4) (b2 (aa 1) (kD (.int 1)) ak) (au false)))) av) (ag (aG (Yb (ab 3) (Yb (mB (b2 (aa 4) (b2 (aa 1) (kD (.int 1)) ak) (au false))) ae))))) av)
def CS:AS:=(af (bY (b1 (ab 0) Yc) (gI 2 3 4) Ym) (ag (ab 1)))
def nE:AQ->Option D:=ao 2 5 CS
def S4(bl:Bl K w mg):aM P w K mg base 1 2 "_law_comes" ["rows","saying"] nE:=by
 refine aw bl.f102 Jt λhr=>?_
 exists Jt
def Ju:aD ["rows","one","other","here"] ["rows","one","other"] (aAa (top 103)):=aJ
@[simp] def S5:AS:=(ag (cC (Yb (lF (yL (lF (bc (Yb (ab 1) (Yb (ab 2) ae)))))) ae) aV))
@[simp] def S6:AS:=(af (aX (b2 (aa 3) (kD (.bl false)) (eD false)) (az 1 (aG (Yb (b2 (aa 1) (kD (.int 0)) ak) (Yb (ec (b2 (aa 1) (kD (.int 1)) ak)) ae)))) (aX (bA (b2 (aa 3) (kD (.bl true)) (eD true)) (b2 (cC (Yb (ab 0) (Yb (ab 2) ae)) nE) (kD (.bl true)) (eD true))) (az 2 (aG (Yb (b2 (aa 3) (kD (.int 0)) ak) (Yb (ec (b2 (aa 3) (kD (.int 1)) ak)) ae)))) av)) S5)
def nF:AS:=(af (az 3 (cC (Yb (ab 0) (Yb (ab 1) ae)) nE)) S6)
def sD:AQ->Option D:=ao 3 4 nF
def S7(bl:Bl K w mg):aM P w K mg base 2 3 "_law_either" ["rows","one","other"] sD:=by
 refine aw bl.f103 Ju λhr=>?_
 exists Ju,S4 bl
def Jv:aD ["script","rows","hands","start","rules","many","cell","left","one","other"] ["script","rows","hands","start"] (aAa (top 104)):=aJ
def y7:AS:=(aX (b2 (aa 5) (kD (.int 0)) fi) (af (az 7 (cC (Yb (ab 6) (Yb (kD (.int 1181783497276652981)) ae)) gM)) (af (az 8 (aG (Yb (b2 (aa 3) (b2 (b2 (aa 7) (kD (.int 4)) bF) (aa 5) aN) bX) (Yb (mB (b2 (b2 (aa 7) (kD (.int 2)) aN) (kD (.int 1)) (au false))) ae)))) (af (az 9 (aG (Yb (b2 (aa 3) (b2 (b2 (b2 (aa 7) (kD (.int 4)) bF) (aa 5) bF) (aa 5) aN) bX) (Yb (mB (b2 (b2 (b2 (aa 7) (kD (.int 2)) bF) (kD (.int 2)) aN) (kD (.int 1)) (au false))) ae)))) (cD 4 (cC (Yb (ab 1) (Yb (ab 8) (Yb (ab 9) ae))) sD) bu)))) av)
@[simp] def S8:AS:=(ag (aG (Yb (kD (.str "eithers")) (Yb (cC (Yb (aa 4) ae) aV) ae))))
@[simp] def S9:AS:=(af (bY (b1 (lF (h_ (aa 0) (some (kD (.int 3))) (some (kD (.int 63))))) Yc) (ah 6) y7) S8)
@[simp] def S_:AS:=(af (az 5 (b2 (cC (Yb (aa 2) ae) aH) (aa 3) eN)) S9)
def Jw:AS:=(af (aO 4 (bc ae)) S_)
def nG:AQ->Option D:=ao 4 10 Jw
def Ta(bl:Bl K w mg):aM P w K mg base 3 4 "_law_eithers" ["script","rows","hands","start"] nG:=by
 refine aw bl.f104 Jv λhr=>?_
 exists Jv,nv bl,S7 bl
def Jx:aD ["script","hands","start","rows","beacon","bits","beacons"] ["script","hands","start"] (aAa (top 105)):=aJ
def Tb:aS ["script","hands","start","rows","beacon","bits","beacons"] (aAa (top 105)) ["at","hands","bits"] [none,some 1,some 5] (aW [(".0",.local),("at",.local),("bits",.free),("hands",.free)]):=Ye (by decide +kernel)
def CT:AU:=(bA (b2 (b2 (aa 1) (aa 0) ak) (kD (.str "storm")) (au false)) (b1 (b2 (aa 2) (aa 0) ak) a6))
def CU:AV:=(ab 0)
def CV:AS:=(af (az 5 (cC (Yb (cC (Yb (ab 0) (Yb (b2 (kD (.int 3)) (aa 4) bX) ae)) Yp) (Yb (b2 (aa 4) (kD (.int 1)) bX) ae)) fB)) (af (aO 6 (Yr (cF (Yb (ab 2) (Yb (ab 4) ae)) cW) [none,some 1,some 5] (ah 0) (CT) (CU))) (cD 3 (aG (Yb (ab 4) (Yb (cC (Yb (aa 6) ae) aV) (Yb (b2 (aa 5) (aa 4) ak) ae)))) bu)))
@[simp] def Tc:AS:=(ag (cC (Yb (aa 3) ae) aV))
@[simp] def Td:AS:=(af (bY (b1 (cC (Yb (ab 1) (Yb (ab 2) (Yb (kD (.str "keeper")) ae))) iZ) Yc) (ah 4) CV) Tc)
def Jy:AS:=(af (aO 3 (bc ae)) Td)
def nH:AQ->Option D:=ao 3 7 Jy
def Te(bl:Bl K w mg):aM P w K mg base 3 3 "_law_sum_rows" ["script","hands","start"] nH:=by
 refine aw bl.f105 Jx λhr=>?_
 exists Jx,CN bl,nz bl,sx bl,Tb
def Jz:aD ["rows","bits","odd","beacons","k","mine","both"] ["rows","bits"] (aAa (top 106)):=aJ
def Tf:aS ["rows","bits","odd","beacons","k","mine","both"] (aAa (top 106)) ["at","beacons"] [none,some 3] (aW [(".0",.local),("at",.local),("beacons",.free)]):=Ye (by decide +kernel)
def Tg:aS ["rows","bits","odd","beacons","k","mine","both"] (aAa (top 106)) ["at","both"] [none,some 6] (aW [(".0",.local),("at",.local),("both",.free)]):=Ye (by decide +kernel)
def CW:AU:=(b2 (aa 0) (aa 1) (cJ false))
def CY:AV:=(ab 0)
def CZ:AU:=(b2 (aa 0) (aa 1) (cJ true))
def C0:AV:=(ab 0)
def sE:AS:=(aX (b1 (b2 (aa 1) (aa 4) ak) a6) (af (az 2 (mB (b2 (aa 2) (b2 (b2 (aa 0) (aa 4) ak) (kD (.int 2)) ak) (au true)))) (af (aO 5 (b2 (lF (bc (Yb (b2 (b2 (aa 0) (aa 4) ak) (kD (.int 0)) ak) ae))) (lF (cF (Yb (b2 (b2 (aa 0) (aa 4) ak) (kD (.int 1)) ak) ae) eC)) bO)) (af (wF [3,5] (aO 6 (Yr (b1 (ab 5) Yc) [none,some 3] (ah 0) (CW) (CY)))) (wF [6] (aO 3 (Yr (b1 (lF (b2 (aa 3) (aa 5) bO)) Yc) [none,some 6] (ah 0) (CZ) (C0))))))) av)
@[simp] def Th:AS:=(ag (aG (Yb (cC (Yb (lF (cF (Yb (aa 3) ae) ig)) ae) aV) (Yb (ab 2) ae))))
@[simp] def Ti:AS:=(af (bY (cF (Yb (cC (Yb (aa 0) ae) aH) ae) cM) (ah 4) sE) Th)
@[simp] def Tj:AS:=(af (aO 3 (bc ae)) Ti)
def JA:AS:=(af (az 2 (kD (.bl false))) Tj)
def sF:AQ->Option D:=ao 2 7 JA
def Tn(bl:Bl K w mg):aM P w K mg base 1 2 "_law_sum" ["rows","bits"] sF:=by
 refine aw bl.f106 Jz λhr=>?_
 exists Jz,Tf,Tg
def JB:aD ["script","rows","rules"] ["script","rows"] (aAa (top 107)):=aJ
def To:aS ["script","rows","rules"] (aAa (top 107)) ["cell","rows"] [none,some 1] (aW [(".0",.local),("cell",.local),("_law_sum",.globalImplicit),("_law_bits",.globalImplicit),("_law_mixed",.globalImplicit),("len",.globalImplicit),("rows",.free)]):=Ye (by decide +kernel)
def nI:AV:=(cC (Yb (ab 1) (Yb (cC (Yb (cC (Yb (ab 0) (Yb (kD (.int 1865811235122147685)) ae)) gM) (Yb (cC (Yb (aa 1) ae) aH) ae)) fB) ae)) sF)
def JC:AS:=(af (aO 2 (Yr (b1 (lF (h_ (aa 0) (some (kD (.int 3))) (some (kD (.int 63))))) Yc) [none,some 1] (ah 0) tY (nI))) (ag (aG (Yb (kD (.str "sums")) (Yb (cC (Yb (aa 2) ae) aV) ae)))))
def nJ:AQ->Option D:=ao 2 3 JC
def Tp(bl:Bl K w mg):aM P w K mg base 3 2 "_law_sums" ["script","rows"] nJ:=by
 refine aw bl.f107 JB λhr=>?_
 exists JB,To,Tn bl,nz bl,nv bl
def JD:aD ["hands","start","dark","own","lit","beacon"] ["hands","start","dark","own"] (aAa (top 108)):=aJ
def jP:AS:=(cD 4 (k1 (mB (b2 (aa 5) (aa 3) (cJ false))) (cq (mB (b2 (aa 5) (aa 1) pf)) (cq (mB (b2 (b2 (aa 0) (aa 5) ak) (kD (.str "storm")) (au false))) (mB (b2 (aa 5) (aa 2) (au true)))))) bu)
@[simp,reducible] def Tq:AS:=(wF [4] (ag (ab 4)))
@[simp] def Tr:AS:=(af (bY (cF (Yb (cC (Yb (aa 0) ae) aH) ae) cM) (ah 5) jP) Tq)
def JE:AS:=(af (aO 4 (bc ae)) Tr)
def nK:AQ->Option D:=ao 4 6 JE
def Ts(bl:Bl K w mg):aM P w K mg base 1 4 "_law_lit" ["hands","start","dark","own"] nK:=by
 refine aw bl.f108 JD λhr=>?_
 exists JD
def JF:aD ["script","hands","start","bits","own","ahead","rows","dark","row"] ["script","hands","start"] (aAa (top 109)):=aJ
def Tt:aS ["script","hands","start","bits","own","ahead","rows","dark","row"] (aAa (top 109)) ["beacon","bits"] [none,some 3] (aW [(".0",.local),("beacon",.local),("bits",.free)]):=Ye (by decide +kernel)
def Tu:aS ["script","hands","start","bits","own","ahead","rows","dark","row"] (aAa (top 109)) ["beacon","ahead","dark","bits"] [none,some 5,some 7,some 3] (aW [(".0",.local),("beacon",.local),("ahead",.free),("bits",.free),("dark",.free)]):=Ye (by decide +kernel)
def C1:AU:=(b1 (b2 (aa 1) (aa 0) ak) a6)
def C2:AV:=(ab 0)
def C3:AU:=(eB (bA (b2 (aa 0) (aa 1) (cJ false)) (b2 (aa 0) (aa 2) fg)) (bA (b1 (b2 (aa 3) (aa 0) ak) a6) (b2 (aa 0) (aa 2) fi)))
def C4:AV:=(ab 0)
def C5:AS:=(af (az 3 (cC (Yb (cC (Yb (ab 0) (Yb (b2 (kD (.int 3)) (aa 7) bX) ae)) Yp) (Yb (cC (Yb (aa 1) ae) aH) ae)) fB)) (af (aO 8 (Yr (b1 (ab 4) Yc) [none,some 5,some 7,some 3] (ah 0) (C3) (C4))) (cD 6 (aG (Yb (ab 7) (Yb (cC (Yb (aa 8) ae) aV) ae))) bu)))
@[simp] def Tv:AS:=(ag (aG (Yb (kD (.str "rows")) (Yb (ab 5) (Yb (cC (Yb (aa 6) ae) aV) ae)))))
@[simp] def Tw:AS:=(af (bY (b1 (cC (Yb (ab 1) (Yb (ab 2) (Yb (kD (.str "storm")) ae))) iZ) Yc) (ah 7) C5) Tv)
@[simp] def Tx:AS:=(af (aO 6 (bc ae)) Tw)
@[simp] def Tz:AS:=(af (az 5 (cC (Yb (lF (Yr (b1 (ab 4) Yc) [none,some 3] (ah 0) (C1) (C2))) ae) aV)) Tx)
@[simp] def TB:AS:=(af (az 4 (cC (Yb (ab 1) (Yb (ab 2) (Yb (kD (.str "keeper")) ae))) iZ)) Tz)
def JG:AS:=(af (az 3 (cC (Yb (cC (Yb (ab 0) (Yb (kD (.int 2)) ae)) Yp) (Yb (cC (Yb (aa 1) ae) aH) ae)) fB)) TB)
def nL:AQ->Option D:=ao 3 9 JG
def TC(bl:Bl K w mg):aM P w K mg base 3 3 "_law_rows" ["script","hands","start"] nL:=by
 refine aw bl.f109 JF λhr=>?_
 exists JF,nz bl,sx bl,CN bl,Tt,Tu
def JH:aD ["body","start","evenings","pick","here","heads"] ["body","start","evenings","pick"] (aAa (top 110)):=aJ
def TF:aS ["body","start","evenings","pick","here","heads"] (aAa (top 110)) ["lit","body"] [none,some 0] (aW [(".0",.local),("lit",.cell),("all",.globalImplicit),("body",.free)]):=Ye (by decide +kernel)
def TH(env:Env)(h:env.scope=aAa (top 110)):relabel (aW [(".0",.local),("lit",.cell),("all",.globalImplicit),("body",.free)]) env=(aW [(".0",.local),("lit",.cell),("all",.globalImplicit),("body",.cell)]):=by unfold relabel Env.kindOf;rw[h];rfl
def TJ:(["beacon","lit"]:AK).Nodup:=by decide +kernel
theorem TK(env:Env)(h:env.scope=aAa (top 110)):aS ["lit","body"] (relabel (aW [(".0",.local),("lit",.cell),("all",.globalImplicit),("body",.free)]) env) ["beacon","lit"] [none,some 0] (aW [(".0",.local),("beacon",.local),("lit",.free)]):=by rw[TH env h];exact Ye (by decide +kernel)
def TL:aS ["body","start","evenings","pick","here","heads"] (aAa (top 110)) ["at","body","here"] [none,some 0,some 4] (aW [(".0",.local),("at",.cell),("all",.globalImplicit),("body",.free),("here",.free)]):=Ye (by decide +kernel)
def TM(env:Env)(h:env.scope=aAa (top 110)):relabel (aW [(".0",.local),("at",.cell),("all",.globalImplicit),("body",.free),("here",.free)]) env=(aW [(".0",.local),("at",.cell),("all",.globalImplicit),("body",.cell),("here",.cell)]):=by unfold relabel Env.kindOf;rw[h];rfl
def TN:(["lit","at"]:AK).Nodup:=by decide +kernel
theorem TQ(env:Env)(h:env.scope=aAa (top 110)):aS ["at","body","here"] (relabel (aW [(".0",.local),("at",.cell),("all",.globalImplicit),("body",.free),("here",.free)]) env) ["lit","at"] [none,some 0] (aW [(".0",.local),("lit",.local),("at",.free)]):=by rw[TM env h];exact Ye (by decide +kernel)
def C6:AV:=(b2 (aa 1) (aa 0) ak)
def C7:AU:=(b1 (cC (Yb (lF (Yr (b1 (ab 1) Yc) [none,some 0] (ah 0) tY (C6))) ae) bB) a6)
def C8:AV:=(ab 0)
def C9:AV:=(b2 (aa 0) (aa 1) ak)
def nM:AU:=(bA (b2 (aa 0) (aa 1) (cJ true)) (b1 (cC (Yb (lF (Yr (b1 (ab 2) Yc) [none,some 0] (ah 0) tY (C9))) ae) bB) a6))
def sG:AV:=(ab 0)
@[simp] def TR:AS:=(ag (aG (Yb (ab 0) (Yb (b2 (aa 5) (b2 (aa 3) (cC (Yb (aa 5) ae) aH) aN) ak) ae))))
@[simp] def TU:AS:=(af (aX (b2 (aa 5) (lF (bc ae)) (au false)) (ag (aG (Yb (ab 0) (Yb (b2 (aa 0) (kD (.int 0)) ak) ae)))) av) TR)
@[simp] def TV:AS:=(af (wF [4] (aO 5 (Yr (cF (Yb (ab 1) (Yb (cC (Yb (b2 (aa 2) (kD (.int 0)) ak) ae) aH) ae)) cW) [none,some 0,some 4] (ah 0) (nM) (sG)))) TU)
@[simp] def TX:AS:=(af (aX (b2 (aa 4) (lF (bc ae)) (au false)) (ag (aG (Yb (ab 0) (Yb (kD .non) ae)))) av) TV)
def sH:AS:=(af (aO 4 (Yr (b1 (ab 2) Yc) [none,some 0] (ah 0) (C7) (C8))) TX)
def sI:AQ->Option D:=ao 4 6 sH
def TY(bl:Bl K w mg):aM P w K mg base 1 4 "_law_if" ["body","start","evenings","pick"] sI:=by
 refine aw bl.f110 JH λhr=>?_
 exists JH,TF,TK _ rfl,TJ,TL,TQ _ rfl,TN
def JI:aD ["script","paper","hands","start","evenings","rules","many","cell","left","body"] ["script","paper","hands","start"] (aAa (top 111)):=aJ
def TZ:aS ["script","paper","hands","start","evenings","rules","many","cell","left","body"] (aAa (top 111)) ["row","hands","start"] [none,some 2,some 3] (aW [(".0",.local),("row",.local),("_law_lit",.globalImplicit),("hands",.free),("start",.free)]):=Ye (by decide +kernel)
def C_:AV:=(cC (Yb (ab 1) (Yb (ab 2) (Yb (b2 (aa 0) (kD (.int 0)) ak) (Yb (b2 (aa 0) (kD (.int 1)) ak) ae)))) nK)
def i0:AS:=(aX (b2 (aa 6) (kD (.int 0)) fi) (af (az 8 (cC (Yb (ab 7) (Yb (kD (.int 1181783497276652981)) ae)) gM)) (af (aO 9 (bc (Yb (b2 (aa 3) (b2 (b2 (aa 8) (kD (.int 64)) bF) (aa 6) aN) bX) (Yb (b2 (aa 3) (b2 (b2 (aa 8) (kD (.int 3840)) bF) (aa 6) aN) bX) (Yb (b2 (aa 3) (b2 (b2 (aa 8) (kD (.int 230400)) bF) (aa 6) aN) bX) ae))))) (af (az 9 (cC (Yb (lF (lC (lF (h_ (aa 9) none (some (b2 (kD (.int 1)) (b2 (aa 8) (kD (.int 3)) aN) bX)))))) ae) aV)) (wF [4,9] (cD 5 (cC (Yb (ab 9) (Yb (ab 3) (Yb (ab 4) (Yb (b2 (aa 8) (kD (.int 13824000)) bF) ae)))) sI) bu))))) av)
@[simp] def T1:AS:=(ag (aG (Yb (kD (.str "ifs")) (Yb (cC (Yb (aa 5) ae) aV) ae))))
@[simp] def T2:AS:=(af (bY (b1 (lF (h_ (aa 0) (some (kD (.int 3))) (some (kD (.int 63))))) Yc) (ah 7) i0) T1)
@[simp] def T3:AS:=(af (az 6 (b2 (cC (Yb (aa 2) ae) aH) (aa 3) eN)) T2)
@[simp] def T4:AS:=(af (aO 5 (bc ae)) T3)
@[simp] def T5:AS:=(af (aO 4 (b2 (aa 4) (lF (Yr (b1 (b2 (aa 1) (kD (.int 2)) ak) Yc) [none,some 2,some 3] (ah 0) tY (C_))) bO)) T4)
def JJ:AS:=(af (aO 4 (bc (Yb (cC (Yb (ab 2) (Yb (ab 3) (Yb (kD .non) (Yb (b2 (aa 1) (kD (.int 1)) ak) ae)))) nK) ae))) T5)
def nN:AQ->Option D:=ao 4 10 JJ
def T6(bl:Bl K w mg):aM P w K mg base 2 4 "_law_ifs" ["script","paper","hands","start"] nN:=by
 refine aw bl.f111 JI λhr=>?_
 exists JI,Ts bl,TZ,nv bl,TY bl
def JK:aD ["cells","row","cell","number"] ["cells"] (aAa (top 112)):=aJ
def sJ:AS:=(af (az 3 (b2 (aa 2) (b2 (kD (.int 10)) (kD (.int 60)) iI) aN)) (af (aX (b2 (b2 (cC (Yb (aa 1) ae) aH) (kD (.int 3)) aN) (kD (.int 2)) (au false)) (az 3 (b2 (b1 (kD (.int 1)) fP) (aa 3) eN)) av) (cD 1 (ab 3) bu)))
@[simp,reducible] def T7:AS:=(wF [1] (ag (ab 1)))
@[simp] def T8:AS:=(af (bY (b1 (ab 0) Yc) (ah 2) sJ) T7)
def JL:AS:=(af (aO 1 (bc ae)) T8)
def sL:AQ->Option D:=ao 1 4 JL
def T9(bl:Bl K w mg):aM P w K mg base 1 1 "_law_numbers_of" ["cells"] sL:=by
 refine aw bl.f112 JK λhr=>?_
 exists JK
def JM:aD ["script","way","hands","start","paper","book"] ["script","way","hands","start"] (aAa (top 113)):=aJ
@[simp] def T_:AS:=(ag (aG (Yb (ab 4) (Yb (ab 5) ae))))
@[simp] def Ua:AS:=(af (aX (b2 (aa 1) (kD (.int 3)) (au false)) (az 5 (cC (Yb (ab 5) ae) iY)) av) T_)
@[simp] def Ub:AS:=(af (az 5 (cC (Yb (ab 0) (Yb (ab 4) (Yb (ab 2) (Yb (ab 3) ae)))) nN)) Ua)
@[simp] def Uc:AS:=(af (az 4 (cC (Yb (ab 0) (Yb (ab 2) (Yb (ab 3) ae))) nL)) Ub)
@[simp] def Ud:AS:=(af (aX (b2 (aa 1) (kD (.int 1)) (au false)) (af (az 4 (aG (Yb (kD (.str "sums")) (Yb (cC (Yb (ab 0) (Yb (ab 2) (Yb (ab 3) ae))) nH) ae)))) (ag (aG (Yb (ab 4) (Yb (cC (Yb (ab 0) (Yb (b2 (aa 4) (kD (.int 1)) ak) ae)) nJ) ae))))) av) Uc)
def nO:AS:=(af (aX (b2 (aa 1) (kD (.int 0)) (au false)) (af (az 4 (aG (Yb (kD (.str "plan")) (Yb (cC (Yb (ab 0) (Yb (ab 2) (Yb (ab 3) ae))) nC) ae)))) (ag (aG (Yb (ab 4) (Yb (cC (Yb (ab 0) (Yb (b2 (aa 4) (kD (.int 1)) ak) (Yb (ab 2) (Yb (ab 3) ae)))) nG) ae))))) av) Ud)
def nP:AQ->Option D:=ao 4 6 nO
def Ue(bl:Bl K w mg):aM P w K mg base 4 4 "_law_paper" ["script","way","hands","start"] nP:=by
 refine aw bl.f113 JM λhr=>?_
 exists JM,S3 bl,Ta bl,Te bl,Tp bl,TC bl,T6 bl,Iv bl
def Ug:aD ["self","hand"] ["self","hand"] (aAa (inClass (top 69) 0)):=aJ
def Uh:Hm:=(c1 0 "hand" ["Settler","Rowed","Papered"] (ab 1))
def sM:Hf:=bj 2 Uh
def JN(bl:Bl K w mg):Bc P w K mg base 1 2 "Settler" "__init__" ["self","hand"] sM:=by
 refine Bg bl.k_Settler bl.c_Settler Ug (λhr=>?_)
 exists rfl
def Ui:aD ["self","hand","row"] ["self","hand","row"] (aAa (inClass (top 70) 0)):=aJ
def Uj:Hm:=(c1 0 "seen" ["Rowed"] (kD (.int 0)))
def Uk:Hm:=(aK (c1 0 "row" ["Rowed"] (cC (Yb (aa 2) ae) aV)) Uj)
def Ul:Hm:=(aK (fY (jK (Yb (ab 0) (Yb (ab 1) ae)) sM)) Uk)
def sN:Hf:=bj 3 Ul
def Um(bl:Bl K w mg):jL P w K mg base 3 3 "Rowed" ["self","hand","row"] [] sN:=by
 refine mH bl.i_Rowed bl.c_Rowed Ui (λhr=>?_)
 exists JN bl
def JO:aD ["self","book","beacon","lit"] ["self"] (aAa (inClass (top 93) 3)):=aJ
def sO:AS:=(az 1 (cC (Yb (ab 1) (Yb (ab 2) (Yb (ab 3) ae))) rK))
@[simp] def Uo:AS:=(ag (ab 1))
@[simp] def Up:AS:=(af (bY (b1 (b1 (ab 0) (aT "Watch" "truths")) pk) (fj 2 3) sO) Uo)
def JP:AS:=(af (az 1 (b1 (ab 0) (aT "Watch" "book"))) Up)
def gN:AQ->Option D:=ao 1 4 JP
def Uq(bl:Bl K w mg){c:Str}(F:Mq K c "left" "Watch.left" (inClass (top 93) 3)):di P w K mg base 5 c "left" ["self"] (bg K 1 gN):=by
 refine dW F JO λhr=>?_
 exists JO,QM bl
def Ur:aD ["self","hand","paper","book","hands","start"] ["self","hand","paper","book","hands","start"] (aAa (inClass (top 71) 0)):=aJ
def Us:Hm:=(c1 0 "start" ["Papered"] (ab 5))
def Ut:Hm:=(aK (c1 0 "hands" ["Papered"] (cC (Yb (aa 4) ae) aV)) Us)
def Uu:Hm:=(aK (c1 0 "book" ["Papered"] (ab 3)) Ut)
def Uv:Hm:=(aK (c1 0 "paper" ["Papered"] (ab 2)) Uu)
def Uw:Hm:=(aK (fY (jK (Yb (ab 0) (Yb (ab 1) ae)) sM)) Uv)
def sP:Hf:=bj 6 Uw
theorem Ux(bl:Bl K w mg):jL P w K mg base 3 6 "Papered" ["self","hand","paper","book","hands","start"] [] sP:=by
 refine Bj bl.i_Papered bl.c_Papered Ur (λhr=>?_) (λ_ _ _ _ _ _ _ _ us hl=>by obtain⟨_,_,_,_,_,_,rfl⟩:=eU hl;exact⟨_,rfl,rfl⟩)
 exists JN bl
def JQ:aD ["watch","paper","book","hands","start","numbers","rest","player","found"] ["watch","paper","book","hands","start","numbers"] (aAa (top 114)):=aJ
def Uy:aS ["watch","paper","book","hands","start","numbers","rest","player","found"] (aAa (top 114)) ["rule","book","watch"] [none,some 2,some 0] (aW [(".0",.local),("rule",.local),("_law_so",.globalImplicit),("book",.free),("watch",.free)]):=Ye (by decide +kernel)
def sQ:AV:=(cC (Yb (b2 (aa 1) (kD (.int 0)) ak) (Yb (ab 0) (Yb (b1 (ab 2) (a7 "Watch" "evening" Yq)) ae))) sC)
def Uz:Hm:=(eV (iN (cC (Yb (lF (Yr (b1 (b2 (aa 2) (kD (.int 1)) ak) Yc) [none,some 2,some 0] (ah 0) tY (sQ))) ae) bB)))
def UA:Hm:=(aK (jJ (eE (eB (cK (b1 (mB (b1 (aa 8) (eQ "str"))) a6)) (eB (b2 (aa 8) (kD (.str "keeper")) (au true)) (b2 (b1 (ab 0) (a7 "Watch" "winner" Yt)) (kD (.str "keeper")) (au true))))) (d9 (ag (kD (.bl false)))) dY) Uz)
def JR:Hm:=(aK (dH 8 (Bh 3 (mz (rj (ab 0)) (mz (rj (ab 7)) (mz (iS "Rowed" false [] [] (Yb (kD (.str "storm")) (Yb (ab 5) ae)) sN) iO))) B6)) UA)
def UB:Hm:=(aK (dH 7 (iS "Papered" true [] [] (Yb (kD (.str "keeper")) (Yb (ab 1) (Yb (ab 6) (Yb (ab 3) (Yb (ab 4) ae))))) sP)) JR)
def UC:Hm:=(aK (d9 (aX (b2 (cC (Yb (ab 1) (Yb (ab 6) (Yb (ab 3) (Yb (ab 4) (Yb (kD (.str "keeper")) ae))))) nu) (kD (.bl true)) (eD true)) (ag (kD (.bl false))) av)) UB)
def JS:Hm:=(aK (dH 6 (Bi (b1 (ab 0) (a7 "Watch" "left" gN)))) UC)
def nQ:Hf:=bj 9 JS
def UD(bl:Bl K w mg):mD P w K mg base 20 6 "_law_played" ["watch","paper","book","hands","start","numbers"] nQ:=by
 refine mL bl.f114 JQ λhr=>?_
 exists JQ,Uq bl bl.r_Watch_left,Cw bl,Ux bl,RF bl,Um bl,B1 bl bl.r_Watch_winner,Uy,SU bl,B2 bl bl.r_Watch_evening
def UE:aD ["self","book","hands"] ["self","book","hands"] (aAa (inClass (top 93) 0)):=aJ
def UF:Hm:=(mE 0 "truths" ["Watch"])
def UG:Hm:=(aK (c1 0 "hands" ["Watch"] (cC (Yb (aa 2) ae) aV)) UF)
def UH:Hm:=(aK (c1 0 "book" ["Watch"] (ab 1)) UG)
def UI:Hm:=(aK (d9 (ix (cC (Yb (ab 1) (Yb (ab 2) ae)) jO))) UH)
def nR:Hf:=bj 3 UI
def UJ(bl:Bl K w mg):jL P w K mg base 4 3 "Watch" ["self","book","hands"] [] nR:=by
 refine mH bl.i_Watch bl.c_Watch UE (λhr=>?_)
 exists SG bl
def UK:aD ["self"] ["self"] (aAa (inClass (top 93) 6)):=aJ
def UL:Hm:=(aK (jJ (eE (b2 (cC (Yb (b1 (ab 0) (aT "Watch" "truths")) ae) aH) (kD (.int 0)) (au false))) (d9 nS) dY) (mJ 0))
def sR:Hf:=bj 1 UL
def UM(bl:Bl K w mg){c:Str}(F:Mq K c "back" "Watch.back" (inClass (top 93) 6)):di P w K mg base 1 c "back" ["self"] (dP K 1 sR):=by
 refine f9 F UK λhr=>?_
 exists rfl
def nT:aD ["script","many","hands","start","paper","book","watch","ahead","beacon","numbers"] ["script"] (aAa (top 115)):=aJ
def Da:aS ["script","many","hands","start","paper","book","watch","ahead","beacon","numbers"] (aAa (top 115)) ["number"] [none] (aW [(".0",.local),("number",.local)]):=Ye (by decide +kernel)
def De:Hm:=(fY (gK "settle" rV (ab 6) (Yb (b2 (aa 7) (aa 8) ak) ae)))
def JT:Hm:=(fY (mI "Watch" "back" sR (ab 6)))
def Df:AV:=(b2 (kD (.int 1)) (aa 0) bX)
def Dg:Hm:=(eV (jK (Yb (ab 6) (Yb (ab 4) (Yb (ab 5) (Yb (ab 2) (Yb (ab 3) (Yb (lF (Yr (b1 (ab 9) iV) [none] (ah 0) tY (Df))) ae)))))) nQ))
def Dh:Hm:=(aK (A0 (eE (b2 (cC (Yb (b1 (ab 6) (a7 "Watch" "evening" Yq)) ae) aH) (aa 3) fi)) JT) Dg)
def JU:Hm:=(aK (mC (jK (Yb (ab 6) (Yb (ab 4) (Yb (ab 5) (Yb (ab 2) (Yb (ab 3) (Yb (ab 9) ae)))))) nQ) Ie (d9 (ag (kD (.bl false)))) dY) Dh)
def Di:Hm:=(aK (d9 (az 9 (cC (Yb (lF (h_ (aa 0) none (some (kD (.int 63))))) ae) sL))) JU)
def JV:Hm:=(aK (iJ (cF (Yb (ab 3) ae) cM) (ah 8) De) Di)
def Dj:Hm:=(aK (d9 (az 7 (cC (Yb (b2 (cC (Yb (ab 0) (Yb (kD (.int 2)) ae)) Yp) (kD (.int 61)) bF) (Yb (ab 1) ae)) fB))) JV)
def nU:Hm:=(aK (dH 6 (iS "Watch" true [] [] (Yb (ab 5) (Yb (ab 2) ae)) nR)) Dj)
def Dk:AS:=(iT nU)
def sS:AS:=(af (iH (cC (Yb (ab 0) (Yb (b2 (cC (Yb (ab 0) (Yb (kD (.int 0)) ae)) Yp) (kD (.int 4)) aN) (Yb (ab 2) (Yb (ab 3) ae)))) nP) (fj 4 5)) Dk)
def nV:AS:=(af (az 3 (b2 (lF (bc (Yb (kD (.int 0)) (Yb (b2 (cC (Yb (ab 0) (Yb (kD (.int 2)) ae)) Yp) (b2 (aa 1) (kD (.int 1)) bX) aN) ae)))) (b2 (b2 (cC (Yb (ab 0) (Yb (kD (.int 0)) ae)) Yp) (kD (.int 4)) bF) (kD (.int 2)) aN) ak)) sS)
def sT:AS:=(af (az 2 (cC (Yb (cC (Yb (ab 0) (Yb (kD (.int 1)) ae)) Yp) (Yb (ab 1) ae)) nB)) nV)
def i3:AS:=(af (az 1 (b2 (kD (.int 1)) (b2 (b2 (cC (Yb (ab 0) (Yb (kD (.int 0)) ae)) Yp) (kD (.int 8)) bF) (kD (.int 16)) aN) bX)) sT)
def jQ:AQ->Option D:=ao 1 10 i3
def Dl(bl:Bl K w mg)(F:Fun K "law" "law" (top 115) a fd):FnOk P w K mg base bW 21 a fd ["script"] (bg K 1 jQ):=by
 refine zP (k:=20) F nT rfl rfl λcdv A outer s H E hr=>?_
 exists nT,sx bl,SX bl,Ue bl,UJ bl,nz bl,IZ bl,T9 bl,UD bl,B2 bl bl.r_Watch_evening,UM bl bl.r_Watch_back,Da
end
abbrev JW:Nat:=21
theorem all_mk{l:W.OpenLaw}{w:World}{K:W7}{h:Heap}{mg:AE}{fa ue:Addr}(X:K.In h)(G:h.Ns mainGlobals mg)(hfa:mg "law"=some (.ref fa)){uu uh:Option Addr}{uv:Array (Option Value)}{uw ui uj uk uc ul:Value}(F_both_added:Fk K "both_added" 1)(F_added:Fk K "added" 2)(I:Fk K "beacons_with" 5)(F_is_rising:Fk K "is_rising" 6)(F_contrary:Fk K "contrary" 8)(t:Fk K "exchanged_rule" 13)(F_exchanged:Fk K "exchanged" 14)(y:Fk K "either_holds" 23)(F_sum_holds:Fk K "sum_holds" 24)(F_if_holds:Fk K "if_holds" 25)(F_rule_holds:Fk K "rule_holds" 26)(H:Fk K "broken_rules" 27)(F_holds:Fk K "holds" 28)(F_beacons_in:Fk K "beacons_in" 29)(F_beacons_of:Fk K "beacons_of" 30)(F_without:Fk K "without" 32)(Z:Fk K "either_left" 33)(F_sum_left:Fk K "sum_left" 34)(F_if_left:Fk K "if_left" 35)(F_rule_left:Fk K "rule_left" 36)(F_left_behind:Fk K "left_behind" 37)(F_row_of:Fk K "row_of" 58)(U:Fk K "is_odd_count" 59)(F_plan_said:Fk K "plan_said" 60)(F_sums_said:Fk K "sums_said" 61)(F_rows_said:Fk K "rows_said" 62)(F_said:Fk K "said" 67)(F_play_out:Fk K "play_out" 72)(x:Fk K "rows_by_beacon" 74)(Y:Fk K "is_plan_row" 75)(F_come_to:Fk K "come_to" 76)(r:Fk K "either_is_kept" 77)(F_plan_good:Fk K "plan_good" 78)(F_is_sum_row:Fk K "is_sum_row" 79)(F_replaced:Fk K "replaced" 80)(F_sums_good:Fk K "sums_good" 81)(F_are_some_of:Fk K "are_some_of" 82)(F_ahead_of:Fk K "ahead_of" 83)(F_is_row:Fk K "is_row" 84)(q:Fk K "holds_where_lit" 85)(F_rows_good:Fk K "rows_good" 86)(F_keeper_good:Fk K "keeper_good" 87)(F_good:Fk K "good" 89)(F_is_hand:Fk K "is_hand" 91)(F_check_hands:Fk K "check_hands" 92)(F_law_cell:Fk K "_law_cell" 95)(F_law_mixed:Fk K "_law_mixed" 96)(F_law_bits:Fk K "_law_bits" 97)(F_law_so:Fk K "_law_so" 98)(F_law_hands:Fk K "_law_hands" 99)(F_law_own:Fk K "_law_own" 100)(F_law_plan:Fk K "_law_plan" 101)(F_law_comes:Fk K "_law_comes" 102)(F_law_either:Fk K "_law_either" 103)(F_law_eithers:Fk K "_law_eithers" 104)(a:Fk K "_law_sum_rows" 105)(F_law_sum:Fk K "_law_sum" 106)(F_law_sums:Fk K "_law_sums" 107)(F_law_lit:Fk K "_law_lit" 108)(F_law_rows:Fk K "_law_rows" 109)(F_law_if:Fk K "_law_if" 110)(F_law_ifs:Fk K "_law_ifs" 111)(u:Fk K "_law_numbers_of" 112)(F_law_paper:Fk K "_law_paper" 113)(F_law_played:Fk K "_law_played" 114)(ux:W.nsIn K mainGlobals "law"=some (some (.ref ue)))(uy:K.lookup ue=some ⟨uw,uu,.func (W.fnOf "law" "law" (aDa (top 115)) (aCa (top 115)) (aAa (top 115)) .none ui uj uk uh uc ul),uv⟩)(uz:W.codeIn K uc "law"=true)(u0:W.keepIn K (.ref ue)=true)(R:Mq K "Papered" "says" "Papered.says" (inClass (top 71) 1))(L:Mq K "Papered" "sees" "Settler.sees" (inClass (top 69) 2))(R_Rowed_says:Mq K "Rowed" "says" "Rowed.says" (inClass (top 70) 1))(R_Rowed_sees:Mq K "Rowed" "sees" "Rowed.sees" (inClass (top 70) 2))(Q:Mq K "Settler" "says" "Settler.says" (inClass (top 69) 1))(N:Mq K "Settler" "sees" "Settler.sees" (inClass (top 69) 2))(R_Watch_back:Mq K "Watch" "back" "Watch.back" (inClass (top 93) 6))(D:Mq K "Watch" "evening" "Watch.evening" (inClass (top 93) 2))(R_Watch_left:Mq K "Watch" "left" "Watch.left" (inClass (top 93) 3))(J:Mq K "Watch" "settle" "Watch.settle" (inClass (top 93) 5))(R_Watch_turn:Mq K "Watch" "turn" "Watch.turn" (inClass (top 93) 1))(O:Mq K "Watch" "winner" "Watch.winner" (inClass (top 93) 4))(I_Rowed:jM K "Rowed" "Rowed.__init__" (inClass (top 70) 0))(I_Papered:rm K "Papered" "Papered.__init__" (inClass (top 71) 0))(I_Watch:jM K "Watch" "Watch.__init__" (inClass (top 93) 0))(Q_Settler:Kq K "Settler" "__init__" "Settler.__init__" (inClass (top 69) 0))(V:Nq K "Papered" "book")(S:Nq K "Papered" "hand")(z:Nq K "Papered" "hands")(B:Nq K "Papered" "paper")(E:Nq K "Papered" "start")(N_Rowed_hand:Nq K "Rowed" "hand")(N_Rowed_row:Nq K "Rowed" "row")(N_Rowed_seen:Nq K "Rowed" "seen")(T:Nq K "Settler" "hand")(N_Watch_book:Nq K "Watch" "book")(N_Watch_hands:Nq K "Watch" "hands")(M:Nq K "Watch" "truths"){A:Tok}(F:W.nsIn K mainGlobals "BEACON_COUNT"=some (some (.int 60 A))){b:Addr}{n:_}{i k g m f d c j:_}(o:W.nsIn K mainGlobals "EXCHANGED_KINDS"=some (some (.ref b)))(p:K.lookup b=some ⟨.type "dict",none,.dict #[⟨PyData.keyHash w.params (Str.ofString "eithers"),.str "eithers" i,.str "eithers" k⟩,⟨PyData.keyHash w.params (Str.ofString "sums"),.str "sums" g,.str "sums" m⟩,⟨PyData.keyHash w.params (Str.ofString "ifs"),.str "ifs" f,.str "nots" d⟩,⟨PyData.keyHash w.params (Str.ofString "nots"),.str "nots" c,.str "ifs" j⟩] n,#[]⟩){ud:Addr}{um:_}{uo:_}{up:_}{uf ug:_}(uq:W.nsIn K mainGlobals "HANDS"=some (some (.ref ud)))(ut:K.lookup ud=some ⟨.type "tuple",um,.seq #[.str "keeper" uf,.str "storm" ug] uo,up⟩)(z_len:W.nsIn K mainGlobals "len"=some none)(z_range:W.nsIn K mainGlobals "range"=some none)(z_list:W.nsIn K mainGlobals "list"=some none)(z_tuple:W.nsIn K mainGlobals "tuple"=some none)(z_int:W.nsIn K mainGlobals "int"=some none)(z_str:W.nsIn K mainGlobals "str"=some none)(z_sorted:W.nsIn K mainGlobals "sorted"=some none)(z_any:W.nsIn K mainGlobals "any"=some none)(z_all:W.nsIn K mainGlobals "all"=some none)(z_sum:W.nsIn K mainGlobals "sum"=some none)(z_isinstance:W.nsIn K mainGlobals "isinstance"=some none)(z_enumerate:W.nsIn K mainGlobals "enumerate"=some none)(z_reversed:W.nsIn K mainGlobals "reversed"=some none)(z_set:W.nsIn K mainGlobals "set"=some none)(z_dict:W.nsIn K mainGlobals "dict"=some none): ∃fd:FuncData,(∀(s:Shared) (v:Value),BindsTo s fd ⟨[v],[]⟩ [("script",v)])/\∀base:Heap,K.In base->base.Ns mainGlobals mg->FnOk l.prog w K mg base bW JW fa fd ["script"] (bg K 1 jQ):=by
 have e:=hfa.symm.trans (W.mg_of X G ux);cases e;exact⟨W.fnOf "law" "law" (aDa (top 115)) (aCa (top 115)) (aAa (top 115)) .none ui uj uk uh uc ul,λs v=>.of_eq rfl,λbase _ _=>(Dl (⟨W.mg_none_of X G z_len,W.mg_none_of X G z_range,W.mg_none_of X G z_list,W.mg_none_of X G z_tuple,W.mg_none_of X G z_int,W.mg_none_of X G z_str,W.mg_none_of X G z_sorted,W.mg_none_of X G z_any,W.mg_none_of X G z_all,W.mg_none_of X G z_sum,W.mg_none_of X G z_isinstance,W.mg_none_of X G z_enumerate,W.mg_none_of X G z_reversed,W.mg_none_of X G z_set,W.mg_none_of X G z_dict,⟨_,W.mg_of X G F⟩,⟨_,_,_,_,W.mg_of X G o,p,⟨rfl,rfl,rfl⟩,rfl,(.cons ⟨rfl,⟨_,rfl⟩,⟨_,rfl⟩,by decide +kernel⟩ (.cons ⟨rfl,⟨_,rfl⟩,⟨_,rfl⟩,by decide +kernel⟩ (.cons ⟨rfl,⟨_,rfl⟩,⟨_,rfl⟩,by decide +kernel⟩ (.cons ⟨rfl,⟨_,rfl⟩,⟨_,rfl⟩,by decide +kernel⟩ .nil))))⟩,⟨_,_,_,_,W.mg_of X G uq,ut,rfl,rfl,(.cons ⟨⟨_,rfl⟩,by decide +kernel⟩ (.cons ⟨⟨_,rfl⟩,by decide +kernel⟩ .nil))⟩,F_both_added.on X G,F_added.on X G,I.on X G,F_is_rising.on X G,F_contrary.on X G,t.on X G,F_exchanged.on X G,y.on X G,F_sum_holds.on X G,F_if_holds.on X G,F_rule_holds.on X G,H.on X G,F_holds.on X G,F_beacons_in.on X G,F_beacons_of.on X G,F_without.on X G,Z.on X G,F_sum_left.on X G,F_if_left.on X G,F_rule_left.on X G,F_left_behind.on X G,F_row_of.on X G,U.on X G,F_plan_said.on X G,F_sums_said.on X G,F_rows_said.on X G,F_said.on X G,F_play_out.on X G,x.on X G,Y.on X G,F_come_to.on X G,r.on X G,F_plan_good.on X G,F_is_sum_row.on X G,F_replaced.on X G,F_sums_good.on X G,F_are_some_of.on X G,F_ahead_of.on X G,F_is_row.on X G,q.on X G,F_rows_good.on X G,F_keeper_good.on X G,F_good.on X G,F_is_hand.on X G,F_check_hands.on X G,F_law_cell.on X G,F_law_mixed.on X G,F_law_bits.on X G,F_law_so.on X G,F_law_hands.on X G,F_law_own.on X G,F_law_plan.on X G,F_law_comes.on X G,F_law_either.on X G,F_law_eithers.on X G,a.on X G,F_law_sum.on X G,F_law_sums.on X G,F_law_lit.on X G,F_law_rows.on X G,F_law_if.on X G,F_law_ifs.on X G,u.on X G,F_law_paper.on X G,F_law_played.on X G,R,L,R_Rowed_says,R_Rowed_sees,Q,N,R_Watch_back,D,R_Watch_left,J,R_Watch_turn,O,I_Rowed,I_Papered,I_Watch,Q_Settler,V,S,z,B,E,N_Rowed_hand,N_Rowed_row,N_Rowed_seen,T,N_Watch_book,N_Watch_hands,M,λC h=>W.mg_of X G h,λC h=>W.mg_of X G h,λC h=>W.mg_of X G h,λC h=>W.mg_of X G h⟩) (kK  uy uz u0))⟩
theorem walk(e:∀ns:AG,ns.length<=63->jQ [.scr ns]=some (.bl true)){l:W.OpenLaw}{K:Params->W7}(p:l.most=some 63)(j:d.params.defaults=[])(n:∀(w:World) (h:Heap),YP w h->(K w.params).In h)(F:∀(w:World) (i:AE) (m:Addr) (h:Heap),(K w.params).In h->h.Ns mainGlobals i->i d.name=some (.ref m)->
  ∃k:FuncData,(∀(s:Shared) (u:Value),BindsTo s k ⟨[u],[]⟩ [("script",u)])/\∀c:Heap,(K w.params).In c->c.Ns mainGlobals i->FnOk l.prog w (K w.params) i c bW JW m k ["script"] (bg (K w.params) 1 jQ)):
 W.WalkO q loose XP YP l.row.toRowW d [] (λf vs=>PySem.call f vs):=
 L2.walk_of      p (by decide) j ⟨rfl,by decide,by decide⟩ n F
  (λw H a ns o _ t=>⟨rfl,[.scr ns],.bl true,H,Same.refl H,.one (by rw[Rp];grind),e ns o,λv H' G' g r=>r⟩) λ_ _ _ _ _ z=>z
end Lw
namespace Lw
open PySem L2 M Bk
theorem JX:∀(l a:AG) (x:Int),x∈aY a l↔x∈a\/x∈l
 | [],a,x=>by simp[aY]
 | k::l,a,x=>by
   rw[aY,JX];by_cases h:k∈a
   .rw[if_pos h]
    simp;constructor
    .rintro(b|b)
     .exact .inl b
     .exact .inr (.inr b)
    .rintro(b|b|b)
     .exact .inl b
     .subst b;exact .inl h
     .exact .inr b
   .rw[if_neg h]
    simp[or_assoc]
theorem JY:∀(l a:AG),a.Nodup->(aY a l).Nodup
 | [],_,h=>h
 | k::l,a,h=>by
   refine JY l _ ?_;by_cases b:k∈a
   .rw[if_pos b];exact h
   .rw[if_neg b,List.nodup_append]
    refine⟨h,by simp,λx d y c z=>?_⟩;simp at c;subst c;exact b (z ▸ d)
theorem Dm{n:Nat}(s:n<64)(l:AF)(h:∀x∈l,x<n)(r:l.length<4000):∃b:AF,b.Pairwise (·<·)/\(∀x,x∈b↔x∈l)/\gA (l.map nD)=some (b.map nD):=by
 have e1:l.map nD=(l.map Int.ofNat).map D.int:=by simp[wt]
 generalize hd:aY [] (l.map Int.ofNat)=d
 have k:d.Nodup:=by rw[<-hd];exact JY _ _ .nil
 have c:∀x,x∈d↔∃y∈l,y=x:=λx=>by rw[<-hd,JX];simp
 have i:=eR d;have hs:=gy d
 obtain⟨b,e2⟩:∃b:AF,dz d=b.map Int.ofNat:=by
  refine⟨(dz d).map Int.toNat,?_⟩;rw[Qf];refine(List.map_id _).symm.trans (Qq λx j=>?_);obtain⟨y,_,rfl⟩:=(c x).mp (i.mem_iff.mp j);simp[wt]
 have e:∀x,x∈b↔x∈l:=λx=>by
  have q:x∈b↔(x:Int)∈dz d:=by
   rw[e2];constructor
   .exact λh=>List.mem_map_of_mem  h
   .intro h
    obtain⟨y,m,g⟩:=qy h
    have:=by simpa using g
    exact this ▸ m
  rw[q,i.mem_iff,c];constructor
  .rintro⟨y,m,g⟩
   have:y=x:=by lia
   exact this ▸ m
  .exact λh=>⟨x,h,rfl⟩
 have f:=by
  rw[e2]at i hs
  have o:b.Nodup:=by
   have:=i.nodup_iff.mpr k;rw[List.nodup_iff_pairwise_ne,List.pairwise_map]at this;exact this.imp λh z=>h (by rw[z])
  exact(((List.pairwise_map.mp hs).imp λh=>by simpa using h).and o).imp λh=>Nat.lt_of_le_of_ne h.1 h.2
 have p:d.length<=n:=by
  rw[<-i.length_eq,e2,qf];exact mm f λx j=>h x ((e x).mp j)
 refine⟨b,f,e,?_⟩;unfold gA;rw[e1,OP];dsimp only;rw[if_pos ⟨by rw[qf];exact r,by lia⟩,hd,e2];simp[wt]
theorem nW(ns:AG)(k:Nat):Yp [.scr ns,.int k]=some (.int (ns.getD k 0)):=by
 rw[Yp,Yg (by rfl)];by_cases h:k<ns.length
 .have e:bf (ns.map D.int) k=some (.int ns[k]):=by
   rw[er,fx h];rfl
  simp[CC,Yd,h,e]
 .simp[CC,Yd,h]
def jR(ns:AG)(k:Nat)(i:Int)(a:i=(k:Int)):Yp [.scr ns,.int i]=some (.int (ns.getD k 0)):=by
 subst a;exact nW ns k
def Dn(ns:AG)(a b:Nat):dy (ns.map D.int) (some (a:Int)) (some (b:Int))=((ns.drop (min a ns.length)).take (min b ns.length-min a ns.length)).map D.int:=by
 unfold dy;rw[HT.sIx_nat,HT.sIx_nat];simp
theorem nX(c m:Int):∃v:Int,0<=v/\gM [.int c,.int m]=some (.int v):=by
 refine⟨c%2305843009213693951*m%2305843009213693951,Int.emod_nonneg _ (by decide),?_⟩;rw[gM,Yg (by rfl)];have a:eO (.int (c%2305843009213693951)) (.int m)=some (.int (c%2305843009213693951*m)):=ON ⟨by lia,by lia⟩;simp[Jl,Yd,a]
theorem jS(c:Int)(n:Nat)(m:n<=1000):∃ev:AH,ev.length=n/\fB [.int c,.int n]=some (.lst (ev.map D.bl)):=by
 obtain⟨v,_,k⟩:=nX c 1442695040888963407
 obtain⟨ρ',e1,d,b,y,h,rfl⟩:=d8 (gt:=ah 4) (fb:=CD) (λi:Nat=>D.int (0+i)) (λg ρ=>∃(d:AH) (b:Int) (y:AR),d.length=g.length/\
  ρ=[↑(.int c),↑(.int n),↑(.int b),some (.ow (d.map D.bl)),y]) (List.range n) []
  [↑(.int c),↑(.int n),↑(.int v),some (.ow []),none] ⟨[],v,none,rfl,rfl⟩ (by
   rintro q a r ρ e ⟨d,b,y,h,rfl⟩
   have l:q.length<n:=by have:=congrArg List.length e;simp at this;lia
   have f:d.length<1000000:=by lia
   refine⟨_,_,rfl,by simp[CD,bu,f];rfl,d++[decide (b%2=1)],b/2,↑(.int (0+a)),by simp[h],by simp⟩)
 refine⟨d,by simpa using h,?_⟩;rw[fB,Yg (by rfl)];have j:=l9 (n:=n) (by lia) (by lia);rw[fv]at j;simp[Jn,Yd,k,j]at e1 ⊢;rw[e1];simp
theorem Do(ev:AH)(b:AF):(b.map λx=>if aB ev x=true then (1:Int)else 0).sum=((b.filter (aB ev)).length:Int):=by
 induction b with
 | nil=>rfl
 | cons a b c=>
   rw[Qd,List.sum_cons,c]
   cases h:aB ev a with
   | true=>rw[List.filter_cons_of_pos h,qt];lia
   | false=>rw[List.filter_cons_of_neg (by simp[h])];simp
theorem Dp{c:D}{ev:AH}(g:Yc c=some (ev.map D.bl)){k:Kd}{r:Rl}(m:In k ev.length r):sC [br k,aE r,c]=some (.bl (so k ev r)):=by
 rw[sC,Yg (by rfl)]
 cases r with
 | ei l=>
   obtain⟨rfl,d⟩:=m
   have h:=bG (fe:=CG) (r:=[↑c]) (enc:=aj) (λs=>.bl (aB ev s.1==s.2)) (l:=l) (λs hs=>by
    simp[CG,g,dD (d s hs)])
   simp[nA,Yd,ai,h,so]
 | su b o=>
   obtain⟨rfl,d⟩:=m
   have h:=bG (fe:=CH) (r:=[↑c]) (enc:=nD) (λx=>.int (if aB ev x=true then 1 else 0)) (l:=b) (λs hs=>by
    simp[CH,g,nD,dD (d s hs)])
   have e:∀n:Nat,decide ((n:Int)%2=1)=decide (n%2=1):=λn=>by
    by_cases z:n%2=1
    .have:(n:Int)%2=1:=by lia
     simp[z,this]
    .have:¬(n:Int)%2=1:=by lia
     simp[z,this]
   simp[nA,Yd,ai,h,so,Do,e]
 | im b h=>
   obtain⟨t,d,u⟩:=m;generalize f:decide (k=Kd.i)=w
   have p:=bG (fe:=CI) (r:=[↑c,↑(.bl w)]) (enc:=nD) (λx=>.bl (aB ev x != w)) (l:=b) (λs hs=>by
    simp[CI,g,nD,dD (d s hs),bne])
   have j:¬k=.e:=by rcases t with rfl|rfl<;>decide
   have i:¬k=.s:=by rcases t with rfl|rfl<;>decide
   have a:nA (Yd 4 [br k,aE (.im b h),c])=sA [↑(br k),↑(aE (.im b h)),↑c,↑(.bl w)]:=by
    simp[nA,Yd,j,i,f,-sA]
   have q:sA [↑(br k),↑(aE (.im b h)),↑c,↑(.bl w)]=if (b.any λx=>aB ev x != w)=true then some (.rt (.bl true))else CJ [↑(br k),↑(aE (.im b h)),↑c,↑(.bl w)]:=by
    cases hb:(b.any λx=>aB ev x != w)<;>simp[ai,p,hb,-CJ]
   rw[a,q];clear a q p
   cases hb:(b.any λx=>aB ev x != w)with
   | true=>simp[hb,so,f]
   | false=>
     cases h with
     | none=>simp[hb,so,f,ax,hd]
     | some x=>simp[hb,so,f,ax,hd,g,dD (u x rfl)]
section
variable {c:D}{ev:AH} (hc:Yc c=some (ev.map D.bl))
include hc
theorem UN(a:∀s∈l,s.1<ev.length):rr [aE (.ei l),c]=some (.bl (l.any λs=>aB ev s.1==s.2)):=by
 rw[rr,Yg (by rfl)]
 simp[Iw,Yd,ai,(bG (fe:=Bw) (r:=[↑c]) (enc:=aj) (λs=>.bl (aB ev s.1==s.2)) (l:=l) (λs hs=>by
  simp[Bw,hc,dD (a s hs)]))]
theorem UO(a:∀x∈b,x<ev.length):ru [aE (.su b o),c]=some (.bl (decide ((b.filter (aB ev)).length%2=1)==o)):=by
 have e:∀n:Nat,decide ((n:Int)%2=1)=decide (n%2=1):=λn=>by
  grind
 rw[ru,Yg (by rfl)]
 simp[Iz,Yd,ai,(dh (fc:=Bx) (fe:=By) (r:=[↑c]) (enc:=nD) (aB ev) nD (l:=b) (λs hs=>by
  simp[Bx,hc,dD (a s hs)]) (λs _ _=>by simp[By])),e]
theorem JZ(d:∀x∈b,x<ev.length)(e:∀x,h=some x->x<ev.length):rz [aE (.im b h),c,.bl w]=some (.bl ((b.any λx=>aB ev x != w)||hd ev w h)):=by
 have a:=bG (fe:=Bz) (r:=[↑c,↑(.bl w)]) (enc:=nD) (λx=>.bl (aB ev x != w)) (l:=b) (λs hs=>by
  simp[Bz,hc,dD (d s hs),bne])
 rw[rz,Yg (by rfl)]
 cases hb:(b.any λx=>aB ev x != w)with
 | true=>simp[ry,Yd,ai,a,hb]
 | false=>
   cases h with
   | none=>simp[ry,Yd,ai,a,hb,ax,hd]
   | some x=>simp[ry,Yd,ai,a,hb,ax,hd,hc,dD (e x rfl)]
theorem UP{r:Rl}(d:In k ev.length r):rA [br k,aE r,c]=some (.bl (so k ev r)):=by
 rw[rA,Yg (by rfl)]
 cases r with
 | ei l=>
   obtain⟨rfl,a⟩:=d;simp[mP,Yd,UN hc a,so]
 | su b o=>
   obtain⟨rfl,a⟩:=d;simp[mP,Yd,UO hc a,so]
 | im b h=>
   obtain⟨f,a,e⟩:=d;rcases f with rfl|rfl
   .simp[mP,Yd,JZ hc a e,so]
   .simp[mP,Yd,JZ hc a e,so]
end
section
variable {c:D}{ev:AH} (hc:Yc c=some (ev.map D.bl))
include hc
theorem UQ{k:Kd}{R:List Rl}(b:∀r∈R,In k ev.length r):rB [Yj k R,c]=some (.lst ((brk k ev R).map nD)):=by
 rw[rB,Yg (by rfl)]
 simp[IA,Yd,ai,Au,(Al (fc:=BA) (fe:=BB) (r:=[↑(Yj k R),↑c]) (e1:=λi:Nat=>.int i) (e2:=λi=>aE (fX R i)) (λi=>!so k ev (fX R i)) nD (l:=List.range R.length) (λi a=>by
  simp[BA,(UP hc (b (fX R i) (HV (Qb a))))]) (λi _ _=>by simp[BB])),brk]
end
section
variable {c:D}{ev:AH} (hc:Yc c=some (ev.map D.bl))
include hc
theorem J0{k:Kd}{R:List Rl}(a:∀r∈R,In k ev.length r):mQ [Yj k R,c]=some (.bl (decide (brk k ev R=[]))):=by
 rw[mQ,Yg (by rfl)];simp[IB,Yd,UQ hc a]
end
theorem J1{r:Rl}(f:In k n r)(hs:sz r<=999999):mS [br k,aE r]=some (.lst ((cT r).map nD)):=by
 rw[mS,Yg (by rfl)]
 cases r with
 | ei l=>
   obtain⟨rfl,_⟩:=f;have h:=bG (fe:=BC) (r:=[]) (enc:=aj) (λs=>nD s.1) (l:=l) (λs _=>by simp[BC]);simp[mR,Yd,ai,h,cT,wt]
 | su b o=>
   obtain⟨rfl,_⟩:=f;simp[mR,Yd,cT]
 | im b h=>
   obtain⟨g,_⟩:=f
   have c:¬k=.e:=by grind
   have d:¬k=.s:=by grind
   have e:b.length+1<=1000000:=by simp[sz]at hs;lia
   cases h with
   | none=>simp[mR,Yd,cT,c,ax]
   | some x=>simp[mR,Yd,cT,c,d,ax,bO,e]
def Dq(r:Rl):(cT r).length<=sz r+1:=by
 cases r with
 | ei l=>simp[cT,sz]
 | su l o=>simp[cT,sz]
 | im l h=>cases h<;>simp[cT,sz]
theorem UR{k:Kd}{n m:Nat}(t:n<64){R:List Rl}(o:∀r∈R,In k n r/\sz r+1<=m)(A:R.length*m<4000):∃l:AF,l.Pairwise (·<·)/\(∀x,x∈l↔∃r∈R,x∈cT r)/\rC [Yj k R]=some (.lst (l.map nD)):=by
 obtain⟨ρ',e1,f,y,b,d,rfl⟩:=d8 (gt:=ah 2) (fb:=BE) aE (λc ρ=>∃(f:AF) (y:AR),f=c.flatMap cT/\f.length<=c.length*m/\
  ρ=[↑(Yj k R),some (.ow (f.map nD)),y]) R [] [↑(Yj k R),some (.ow []),none] ⟨[],none,rfl,by simp,rfl⟩ (by
  rintro q a r ρ e ⟨f,y,b,d,rfl⟩
  have u:a∈R:=by rw[Qj]at e;rw[e];simp
  obtain⟨i,p⟩:=o a u
  have v:q.length<R.length:=by rw[Qj]at e;rw[e];simp
  have j:=by
   have:=Nat.mul_le_mul_right m (show q.length+1<=R.length from v);exact this
  have z:=Dq a
  have g:f.length+(cT a).length<=1000000:=by lia
  refine⟨_,_,rfl,?_,f++cT a,↑(aE a),by rw[b];simp,?_,rfl⟩
  .simp[BE,(J1 i (by lia)),fR,g]
  .simp
   lia)
 rw[Qj]at b d
 obtain⟨l,i,p,s⟩:=Dm t f (λx h=>by
  rw[b]at h;obtain⟨r,w,h⟩:=List.mem_flatMap.mp h
  exact mn (o r w).1 x h) (by lia)
 refine⟨l,i,λx=>?_,?_⟩
 .rw[p,b,List.mem_flatMap]
 .rw[rC,Yg (by rfl)]
  simp[IF,Yd,e1,s]
theorem J2(l:AF)(b:Nat):gL [.tup (l.map nD),.int (b:Int)]=some (.tup ((Bk.wo b l).map nD)):=by
 rw[gL,Yg (by rfl)]
 simp[BF,Yd,ai,(dh (fc:=mT) (fe:=mU) (r:=[↑(.int b)]) (enc:=nD) (λx=>!decide (x=b)) nD (l:=l) (λx _=>by
  simp[mT]) (λx _ _=>by simp[mU])),Bk.wo]
theorem US(l:AY)(b:Nat)(lit:Bool):rD [aE (.ei l),.int (b:Int),.bl lit]=some (bC (cA .e b lit (.ei l))):=by
 have c:D.tup [.int b,.bl lit]=aj (b,lit):=rfl;have a:=Aq (c:=aE (.ei l)) (b,lit) l false rfl;rw[rD,Yg (by rfl)];by_cases d:(b,lit)∈l
 .simp[BJ,Yd,c,a,d,cA,bC]
 .simp[BJ,Yd,ai,c,a,d,cA,bC,(dh (fc:=BH) (fe:=BI) (r:=[↑(.int b)]) (enc:=aj) (λs=>!decide (s.1=b)) aj (l:=l) (λx _=>by
  simp[BH]) (λx _ _=>by simp[BI])),iF,HX]
theorem UT(l:AF)(o:Bool)(b:Nat)(lit:Bool)(hb:b∈l):rE [aE (.su l o),.int (b:Int),.bl lit]=some (bC (cA .s b lit (.su l o))):=by
 have c:=J2 l b;rw[rE,Yg (by rfl)];rw[cA];generalize Bk.wo b l=q at c ⊢
 cases q with
 | nil=>cases o<;>cases lit<;>simp[BK,Yd,c,hb]<;>rfl
 | cons a q=>cases o<;>cases lit<;>simp[BK,Yd,c,hb]<;>first|rfl|lia
theorem UU(k:Kd)(l:AF)(h:AM)(b:Nat)(lit:Bool):rF [aE (.im l h),.int (b:Int),.bl (lit==decide (k=.i))]=some (bC (cA k b lit (.im l h))):=by
 have f:=J2 l b;have a:=cw (c:=.tup (l.map nD)) b l false rfl;rw[rF,Yg (by rfl)];generalize g:(lit==decide (k=Kd.i))=w
 have d:(lit=decide (k=.i))↔w=true:=by rw[<-g];simp
 rw[cA];simp  [d];by_cases e:h=some b
 .by_cases c:b∈l
  .cases w<;>simp[mV,Yd,a,e,c,bC]
  .cases w<;>simp[mV,Yd,a,e,c,f,bC,OS]
 .by_cases c:b∈l
  .cases w<;>simp[mV,Yd,a,e,c,f,bC,HY]
  .cases w<;>simp[mV,Yd,a,e,c,f,bC,HY]
theorem UV{k:Kd}{n:Nat}{r:Rl}(d:In k n r)(hs:sz r<=999999)(b:Nat)(lit:Bool):rG [br k,aE r,.int (b:Int),.bl lit]=some (bC (cA k b lit r)):=by
 have hb:=J1 d hs;have a:=cw (c:=.lst ((cT r).map nD)) b (cT r) true rfl;rw[rG,Yg (by rfl)];by_cases c:b∈cT r
 .cases r with
  | ei l=>
    obtain⟨rfl,_⟩:=d;simp[mW,Yd,hb,a,c,US]
  | su l o=>
    obtain⟨rfl,_⟩:=d;simp[mW,Yd,hb,a,c,UT l o b lit c]
  | im l h=>
    obtain⟨g,_⟩:=d
    have f:¬k=.e:=by rcases g with rfl|rfl<;>decide
    have e:¬k=.s:=by rcases g with rfl|rfl<;>decide
    simp[mW,Yd,hb,a,c,f,e,UU]
 .have:cA k b lit r=some r:=OT c
  simp[mW,Yd,hb,a,c,this,bC]
theorem UW{k:Kd}{n:Nat}{R:List Rl}(f:∀r∈R,In k n r)(hs:∀r∈R,sz r<=999999)(b:Nat)(lit:Bool):rK [Yj k R,.int (b:Int),.bl lit]=some (Yj k (R.filterMap (cA k b lit))):=by
 have e:∀Q:List (Option Rl),dN (ah 0) rH rJ [none] (Q.map bC)=some ((Q.filterMap id).map aE):=λQ=>by
  have:=dh (fc:=rH) (fe:=rJ) (r:=[]) (enc:=bC) (λo=>o.isSome) bC (l:=Q) (λo _=>by
   cases o<;>simp[rH,bC]) (λo _ _=>by simp[rJ])
  rw[this,iG]
 have c:=e (R.map (cA k b lit));rw[rK,Yg (by rfl)];simp[wt]at c
 simp[IJ,Yd,ai,(bG (fe:=BL) (r:=[↑(Yj k R),↑(.int b),↑(.bl lit)]) (enc:=aE) (λr=>bC (cA k b lit r)) (l:=R) (λr d=>by
  simp[BL,UV (f r d) (hs r d)])),c,OR]
def nY(s:cv):cv:=(s.1,!s.2)
theorem UX(s:cv):iX [aj s]=some (aj (nY s)):=by
 rw[iX,Yg (by rfl)];simp[Bt,Yd,aj,nY]
def i4:AY->AY
 | [a,b]=>if bZ b.1 b.2 a.1 a.2=true then [b,a]else [a,b]
 | l=>l
def Dr(h:l.length<=2):ig [.lst (l.map aj)]=some ((i4 l).map aj):=by
 match l,h with
 | [],_=>rfl
 | [a],_=>rfl
 | [a,b],_=>
   have e:ig [.lst ([a,b].map aj)]=some (if bZ b.1 b.2 a.1 a.2=true then [aj b,aj a]else [aj a,aj b]):=rfl;rw[e,i4]
   split<;>rfl
def gO:Rl->Rl
 | .ei l=>.ei (i4 (l.map nY))
 | .su l o=>.su l (o != decide (l.length%2=1))
 | .im l h=>.im l h
def sU:Kd->Kd
 | .e=>.e
 | .s=>.s
 | .i=>.n
 | .n=>.i
theorem UY{r:Rl}(h:In k n r)(hs:fy r):rq [br k,aE r]=some (aE (gO r)):=by
 rw[rq,Yg (by rfl)]
 cases r with
 | ei l=>
   obtain⟨rfl,_⟩:=h;have b:=Dr (l:=l.map nY) (by simpa using hs.1);simp[wt]at b;simp[rn,Yd,ai,(bG (fe:=Bu) (r:=[]) (enc:=aj) (λs=>aj (nY s)) (l:=l) (λs _=>by simp[Bu,UX])),b,gO,HX]
 | su l o=>
   obtain⟨rfl,_⟩:=h
   have e:((l.length:Int)%2=1)↔(l.length%2=1):=by lia
   simp[rn,Yd,gO];cases o<;>by_cases h:l.length%2=1<;>simp[aE,e]
 | im l h=>
   obtain⟨c,_⟩:=h;rcases c with rfl|rfl<;>simp[rn,Yd,gO]
theorem UZ(k:Kd):pv gt_EXCHANGED_KINDS (br k)=some (br (sU k)):=by
 have h:gt_EXCHANGED_KINDS.lookup (kS k)=some (kS (sU k)):=by cases k<;>decide +kernel
 show(gt_EXCHANGED_KINDS.lookup (kS k)).map D.str=_;rw[h];rfl
theorem J3{R:List Rl}(h:∀r∈R,In k n r/\fy r):iY [Yj k R]=some (Yj (sU k) (R.map gO)):=by
 rw[iY,Yg (by rfl)];simp[Iu,Yd,Yj,ai,UZ,(bG (fe:=Bv) (r:=[↑(br k)]) (enc:=aE) (λr=>aE (gO r)) (l:=R) (λr b=>by simp[Bv,UY (h r b).1 (h r b).2])),wt]
def kn(b a:AF):Bool:=b.all λx=>decide (x∈a)
abbrev U0:=List Nat×AM
structure U1(r:U0):Prop where
 b:∀x∈r.1,x<60
 h:∀x,r.2=some x->x<60
 p:r.1.Pairwise (·<·)
 l:r.1.length<=3
abbrev fl(n:Nat)(P:AJ):AF:=(List.range n).filter P
theorem Ds(d:l.Pairwise (·<·))(h:∀x∈l,x<n):l=fl n λx=>decide (x∈l):=by
 have c:(fl n λx=>decide (x∈l)).Pairwise (·<·):=List.pairwise_lt_range.filter _;have e:∀{m:AF},m.Pairwise (·<·)->m.Nodup:=λh=>h.imp qm
 exact((List.perm_ext_iff_of_nodup (e d) (e c)).mpr λx=>by
  grind).eq_of_pairwise  (λa b _ _ c f=>absurd (Nat.lt_trans c f) (Nat.lt_irrefl _)) d c
theorem nZ(l:AF):b0 (l.map nD)=some (l.map λx:Nat=>(x:Int)):=by simp_all
theorem Dt(n:Nat)(P:AJ):(fl n P).length<=n:=by grind
theorem J4(c:m.Nodup)(h:∀x:Int,x∈m↔∃y:Nat,y∈fl n R/\(y:Int)=x):dz m=(fl n R).map λy:Nat=>(y:Int):=by
 have hs:((fl n R).map λy:Nat=>(y:Int)).Pairwise (·<=·):=by
  rw[List.pairwise_map]
  exact(List.pairwise_lt_range.filter R).imp λh=>by lia
 have b:((fl n R).map λy:Nat=>(y:Int)).Nodup:=by
  rw[List.nodup_iff_pairwise_ne,List.pairwise_map]
  exact(List.pairwise_lt_range.filter R).imp λh=>by lia
 exact W.ksm_same ((eR m).trans ((List.perm_ext_iff_of_nodup c b).mpr λx=>by
  grind)) (gy m) hs
theorem Du(q:n<64)(P Q:AJ):pL ((fl n P).map nD) ((fl n Q).map nD)=some ((fl n λx=>P x != Q x).map nD):=by
 unfold pL;rw[nZ,nZ,qd,qd];generalize i:((fl n P).map λx:Nat=>(x:Int))=a;generalize hb:((fl n Q).map λx:Nat=>(x:Int))=b
 have s:a.length<=n:=by grind
 have m:b.length<=n:=by grind
 have d:∀l,(aY [] l).length<=l.length:=λl=>by
  have:∀(r c:AG),(aY c r).length<=c.length+r.length:=λr=>by
   induction r with
   | nil=>intro c;simp[aY]
   | cons k r j=>
     intro c;rw[aY];grind
  grind
 have f:∀x,x∈de a b↔∃y:Nat,y∈(fl n λx=>P x != Q x)/\y=x:=λx=>by
  rw[Hl,<-hb];grind
 have h:(de a b).length<=n:=by
  have e:=J4 (yB a b) f;have:=(eR (de a b)).length_eq;grind
 have g:(b.all λk=>decide (0<=k/\k<1024))=true:=by
  grind
 have o:=d a;have p:=d b;rw[if_pos ⟨by lia,by lia,by lia,by lia,g,by lia⟩,J4 (yB a b) f,Qf];rfl
abbrev cN(P:AJ)(o:Bool):D:=.tup [.tup ((fl 60 P).map nD),.bl o]
theorem U2(P Q:AJ)(o a:Bool):mM [cN P o,cN Q a]=some (cN (λx=>P x != Q x) (o != a)):=by
 rw[mM,Yg (by rfl)];have e:(!(o==a))=(o != a):=rfl;have d:Yd 2 [cN P o,cN Q a]=[↑(cN P o),↑(cN Q a)]:=rfl;have b:Yc (cN P o)=some [.tup ((fl 60 P).map nD),.bl o]:=rfl;have c:Yc (cN Q a)=some [.tup ((fl 60 Q).map nD),.bl a]:=rfl;rw[d];simp[Il,(Du (n:=60) (by decide) P Q),b,c,e]
abbrev Sm:=(AJ)×Bool
abbrev cx(r:Sm):D:=cN r.1 r.2
theorem U3(l:AF)(e:l.Nodup)(f:l.length<64):∃b:AF,b.Perm l/\b.Pairwise (·<·)/\ig [.lst (l.map nD)]=some (b.map nD):=by
 have d:=eR (l.map λx:Nat=>x);have hs:=gy (l.map λx:Nat=>x)
 have e2:∃b:AF,dz (l.map λx:Nat=>x)=b.map λx:Nat=>(x:Int):=by
  refine⟨(dz (l.map λx:Nat=>x)).map Int.toNat,?_⟩;rw[Qf];refine(List.map_id _).symm.trans (Qq λx g=>?_);obtain⟨y,_,rfl⟩:=qy (d.mem_iff.mp g);simp
 obtain⟨b,e2⟩:=e2;rw[e2]at d hs
 have c:=by
  have:=d.map Int.toNat;simpa [wt]using this
 refine⟨b,c,?_,?_⟩
 .exact(((List.pairwise_map.mp hs).imp λh=>by lia).and (c.nodup_iff.mpr e)).imp λh=>Nat.lt_of_le_of_ne h.1 h.2
 .show pj (l.map nD)=_
  unfold pj;simp[f,e2,wt]
def n0{l:AF}(a:l.Pairwise (·<·))(h:∀x∈l,x<60)(o:Bool):D.tup [.tup (l.map nD),.bl o]=cx (λx=>decide (x∈l),o):=by
 unfold cx cN;rw[<-Ds a h]
def ar(b:Bool):D:=.str (if b=true then Str.ofString "keeper" else Str.ofString "storm")
theorem gb{a b:String}(h:(Str.ofString a==Str.ofString b)=false)(c:Bool):au c (.str (Str.ofString a)) (.str (Str.ofString b))=some c:=by
 rw[d7 (by simp) (by simp),z_,h];cases c<;>rfl
theorem gc(a:String)(b:Bool):au b (.str (Str.ofString a)) (.str (Str.ofString a))=some (!b):=by
 rw[d7 (by simp) (by simp)];cases b<;>simp
theorem U4(c:Int)(n:Nat)(a:n<=1000):∃hs:AH,hs.length=n/\nB [.int c,.int n]=some (.lst (hs.map ar)):=by
 obtain⟨ev,e,d⟩:=jS c n a;refine⟨ev,e,?_⟩;rw[nB,Yg (by rfl)]
 simp[Jp,Yd,d,ai,(bG (fe:=CK) (r:=[]) (enc:=D.bl) ar (l:=ev) (λb _=>by
  cases b<;>simp[CK,ar]))]
def i5(a b:Bool):au false (ar a) (ar b)=some (a==b):=by
 cases a<;>cases b<;>decide +kernel
def aA(hs:AH)(st:Nat)(b:Bool):AF:=(List.range hs.length).filter λi=>decide (st<=i)&&(hs.getD i false==b)
theorem jT(hs:AH)(h:Yc c=some (hs.map ar))(q:hs.length<=1000)(st:Nat)(n:st<=hs.length)(b:Bool):mN [c,.int st,ar b]=some (.lst ((aA hs st b).map nD)):=by
 rw[mN,Yg (by rfl)];have g:=l_ (a:=st) (n:=hs.length) (by lia) (by lia) (by lia) (by lia);rw[fv]at g
 have d:=dh (fc:=Br) (fe:=Bs) (r:=[↑c,↑(ar b)]) (enc:=λi:Nat=>D.int (st+i)) (λi=>hs.getD (st+i) false==b) (λi=>nD (st+i)) (l:=List.range ((hs.length:Int)-st).toNat) (λi p=>by
  have e:st+i<hs.length:=by grind
  have k:st+(i:Int)=((st+i:Nat)):=by lia
  have f:bf (hs.map ar) ((st+i:Nat))=some (ar (hs.getD (st+i) false)):=by
   rw[er,fx e];simp[e]
  rw[k]
  simp only[Br,iy,Ak,Aj,qd,HH,h,f,i5]) (λi _ _=>by simp[Bs,nD])
 have m:(((List.range ((hs.length:Int)-st).toNat).filter λi=>hs.getD (st+i) false==b).map λi=>nD (st+i))=(aA hs st b).map nD:=by
  unfold aA
  have o:List.range hs.length=List.range st++(List.range (hs.length-st)).map (st+·):=by
   rw[<-List.range_add];grind
  rw[o,List.filter_append,List.filter_map]
  have l:(List.range st).filter (λi=>decide (st<=i)&&(hs.getD i false==b))=[]:=by
   rw[List.filter_eq_nil_iff];grind
  rw[l,Qj];simp[wt]
 have j:((hs.length:Int)-st).toNat=hs.length-st:=by lia
 rw[m,j]at d;simp[Im,Yd,h,g,ai,d]
theorem sV{c:D}(hs:AH)(h:Yc c=some (hs.map ar))(r:hs.length<=1000)(st:Nat)(q:st<=hs.length)(b:Bool):iZ [c,.int st,ar b]=some (.lst ((aA hs st b).map nD)):=by
 rw[iZ,Yg (by rfl)];have g:=l_ (a:=st) (n:=hs.length) (by lia) (by lia) (by lia) (by lia);rw[fv]at g
 have d:=dh (fc:=CL) (fe:=CM) (r:=[↑c,↑(ar b)]) (enc:=λi:Nat=>D.int (st+i)) (λi=>hs.getD (st+i) false==b) (λi=>nD (st+i)) (l:=List.range ((hs.length:Int)-st).toNat) (λi o=>by
  have e:st+i<hs.length:=by simp at o;lia
  have l:st+(i:Int)=((st+i:Nat)):=by lia
  have f:bf (hs.map ar) ((st+i:Nat))=some (ar (hs.getD (st+i) false)):=by
   rw[er,fx e];simp[e]
  rw[l]
  simp only[CL,iy,Ak,Aj,qd,HH,h,f,i5]) (λi _ _=>by simp[CM,nD])
 have k:(((List.range ((hs.length:Int)-st).toNat).filter λi=>hs.getD (st+i) false==b).map λi=>nD (st+i))=(aA hs st b).map nD:=by
  unfold aA
  have p:List.range hs.length=List.range st++(List.range (hs.length-st)).map (st+·):=by
   rw[<-List.range_add]
   congr 1
   lia
  rw[p,List.filter_append,List.filter_map]
  have m:(List.range st).filter (λi=>decide (st<=i)&&(hs.getD i false==b))=[]:=by
   rw[List.filter_eq_nil_iff];intro x j;have:=Qb j;lia
  rw[m,Qj];simp[wt]
 have n:((hs.length:Int)-st).toNat=hs.length-st:=by lia
 rw[k,n]at d;simp[Jq,Yd,h,g,ai,d]
def sW(h:x∈aA hs st b):x<hs.length:=Qb (Qc h).1
def i6:AG:=(List.range 120).map λi=>pH (((i/2:Nat)),decide (i%2=1))
def sX:AG->Bool
 | []=>true
 | a::l=>!(l.contains a)&&sX l
def Dv:sX i6=true:=by decide +kernel
theorem J5:∀{l:AG},sX l=true->l.Nodup
 | [],_=>.nil
 | a::l,h=>by
   rw[sX,Qe]at h;refine List.nodup_cons.mpr ⟨λb=>?_,J5 h.2⟩
   have:l.contains a=true:=by simpa using b
   rw[this]at h;exact Bool.noConfusion h.1
def cg(s:cv):Nat:=2*s.1+if s.2 then 1 else 0
theorem n3(s:cv)(h:s.1<60):i6[cg s]?=some (pH ((s.1:Int),s.2)):=by
 obtain⟨b,l⟩:=s
 have a:cg (b,l)<120:=by cases l<;>simp[cg]at *<;>lia
 unfold i6;rw[Qm,List.getElem?_range a,Option.map_some];cases l
 .have e1:cg (b,false)/2=b:=by simp[cg]
  have e2:cg (b,false)%2=0:=by simp[cg]
  rw[e1,e2];rfl
 .have e1:cg (b,true)/2=b:=by simp  [cg];lia
  have e2:cg (b,true)%2=1:=by simp only[cg];lia
  rw[e1,e2];rfl
def Dw{T:AG}(a:T.Nodup){i j:Nat}{x:Int}(d:T[i]?=some x)(b:T[j]?=some x):i=j:=by
 obtain⟨f,c⟩:=qo d;obtain⟨g,e⟩:=qo b;exact(List.getElem_inj a).mp (c.trans e.symm)
theorem U5{s t:cv}(h:cg s=cg t):s=t:=by
 obtain⟨b,l⟩:=s;obtain⟨c,m⟩:=t;cases l<;>cases m<;>simp[cg]at h ⊢<;>lia
def Dx{s t:cv}(hs:s.1<60)(c:t.1<60)(a:s≠t):pH ((s.1:Int),s.2)≠pH ((t.1:Int),t.2):=λe=>by
 have b:=n3 t c;rw[<-e]at b;exact a (U5 (Dw (J5 Dv) (n3 s hs) b))
abbrev bz:=Nat×Option Nat×Bool
def aq(r:bz):D:=.tup [.int r.1,ax r.2.1,.bl r.2.2]
@[simp] theorem Dy(r:bz):Yc (aq r)=some [.int r.1,ax r.2.1,.bl r.2.2]:=nr rfl
def J6(a b c:D):bf [a,b,c] 1=some b:=rfl
def i7(a b c:D):bf [a,b,c] 2=some c:=rfl
abbrev d0:=Option Nat×Bool
def bh(e:d0):D:=.tup [ax e.1,.bl e.2]
@[simp] theorem jU(e:d0):Yc (bh e)=some [ax e.1,.bl e.2]:=nr rfl
def n4(a:Bool)(b:AM):cb a (ax b) .non=some (if a then !decide (b=none)else decide (b=none)):=by
 cases b<;>cases a<;>rfl
theorem Dz(a b:AM):bE (ax a) (ax b)=decide (a=b):=by
 cases a with
 | none=>
   cases b with
   | none=>simp[ax,bE,aF,PyData.eqv]
   | some y=>simp[ax,bE,aF,PyData.eqv]
 | some x=>
   cases b with
   | none=>simp[ax,bE,aF,PyData.eqv]
   | some y=>exact(jH x y).trans (by simp)
def J7(e f:d0):bE (bh e) (bh f)=decide (e=f):=by
 obtain⟨a,p⟩:=e;obtain⟨b,q⟩:=f;simp  [bh,Dz,z7];by_cases d:a=b<;>by_cases c:p=q<;>simp[c]
def sY(e:d0):bb (bh e)<=60:=by simp[bh]
def DA(e:d0)(l:List d0):cJ false (bh e) (.lst (l.map bh))=some (decide (e∈l)):=by
 rw[Ae rfl (sY e) (iD sY l),qZ J7];simp
def DB(e f:d0):au false (bh e) (bh f)=some (decide (e=f)):=by
 rw[d7 (sY e) (sY f),J7];simp
theorem DC(c:Bool)(a b:AF):au c (.lst (a.map nD)) (.lst (b.map nD))=some (if c then !decide (a=b)else decide (a=b)):=by
 have h:∀l:AF,a9 (l.map nD)<=1:=λl=>iD (λx=>by simp) l;have f:=h a;have d:=h b
 have e:bE (.lst (a.map nD)) (.lst (b.map nD))=dw (a.map nD) (b.map nD):=by simp
 rw[d7 (by simp;lia) (by simp;lia),e,q4 jH]
def Yw(rows:List bz)(s:cv):d0:=
 match rows.find? (λr=>r.1==s.1)with
 | none=>(some s.1,s.2)
 | some r=>(r.2.1,s.2==r.2.2)
def fC(rows:List bz):D:=.dct false (rows.map λr=>nD r.1) (rows.map aq)
theorem J8:∀rows:List bz,gz (rows.map λr=>.tup [.int r.1,aq r])=some (rows.map λr=>((r.1:Int),aq r))
 | []=>rfl
 | r::l=>by rw[Qd,gz,J8 l];rfl
theorem J9{a:Type}:∀(ps:List (Int×a)) (ns:AG) (vs:List a),(ns++ps.map (·.1)).Nodup->bR ns vs ps=(ns++ps.map (·.1),vs++ps.map (·.2))
 | [],ns,vs,_=>by simp[bR]
 | p::ps,ns,vs,h=>by
   rw[bR,cG,if_neg (λb=>by
    rw[List.nodup_append]at h
    exact h.2.2 _ b p.1 (by simp) rfl)]
   have h':((ns++[p.1])++ps.map (·.1)).Nodup:=by simpa using h
   rw[J9 ps _ _ h'];simp
theorem U6{l:AF}(h:l.Nodup):(l.map λx:Nat=>(x:Int)).Nodup:=by
 induction l with
 | nil=>simp
 | cons a l d=>
   rw[Qd,List.nodup_cons];rw[List.nodup_cons]at h;refine⟨λc=>?_,d h.2⟩;obtain⟨b,hb,e⟩:=qy c
   have:b=a:=by lia
   exact h.1 (this ▸ hb)
theorem U7{rows:List bz}(h:rows.length<=1000)(f:(rows.map (·.1)).Nodup):Yv [.tup (rows.map aq)]=some (fC rows):=by
 have g:pairsOf (.lst (rows.map λr=>.tup [.int r.1,aq r]))=some (rows.map λr=>((r.1:Int),aq r)):=J8 rows;have d:=U6 f
 have c:(rows.map λr=>((r.1:Int),aq r)).length<1000000:=by rw[qf];lia
 rw[Yv,Yg (by rfl)]
 have a:(lF (Yr (b1 (ab 0) Yc) [none] (ah 0) tY Ys)) [↑(.tup (rows.map aq))]=some (.lst (rows.map λr=>.tup [.int r.1,aq r])):=by
  simp[ai,(bG (fe:=Ys) (r:=[]) (enc:=aq) (λr=>.tup [.int r.1,aq r]) (l:=rows) (λr _=>by
  simp[Ys]))]
 have e:Yd 1 [D.tup (rows.map aq)]=[↑(.tup (rows.map aq))]:=rfl
 rw[B7,e,HF,Ig,a,qd,g,qd,HJ,if_pos c,(J9 (rows.map λr=>(r.1,aq r)) [] [] (by
  rw[Qf];rw[Qf]at d
  exact d))]
 simp[fC,wt]
theorem J_(x:Nat):∀rows:List bz,bP (rows.map λr=>((r.1:Nat):Int)) (rows.map aq) (x:Int)=(rows.find? (λr=>r.1==x)).map aq
 | []=>rfl
 | r::l=>by
   rw[Qd,Qd,bP,J_ x l,List.find?_cons];by_cases h:r.1=x
   .simp[h]
   .have h':¬(r.1)=(x:Int):=by lia
    have a:(r.1==x)=false:=by simp[h]
    rw[if_neg h',a]
theorem U8(rows:List bz)(s:cv):rY [aj s,fC rows]=some (bh (Yw rows s)):=by
 have f:b0 (rows.map λr=>nD r.1)=some (rows.map λr=>(r.1:Int)):=qV _ rows
 have d:ej (fC rows) (.int s.1)=(rows.find? (λr=>r.1==s.1)).map aq:=by
  rw[fC,Nd,f,qd,(J_ s.1 rows)]
 have b:ek true (.int s.1) (fC rows)=some (rows.find? (λr=>r.1==s.1)).isNone:=by
  rw[fC,Nx,f,Option.map_some]
  cases a:rows.find? (λr=>r.1==s.1)with
  | none=>
    rw[List.find?_eq_none]at a
    have:¬(s.1:Int)∈rows.map λr=>r.1:=λg=>by
     obtain⟨r,c,e⟩:=qy g;have:=a r c;lia
    simp only[wm this];rfl
  | some r=>
    have h:=List.find?_some a;have:(s.1:Int)∈rows.map λr=>r.1:=List.mem_map.mpr ⟨r,(List.mem_of_find?_eq_some a),by lia⟩;simp only[wj this];rfl
 rw[rY,Yg (by rfl)];unfold Yw
 cases a:rows.find? (λr=>r.1==s.1)with
 | none=>
   rw[a]at b;have hs:bh (some s.1,s.2)=aj s:=rfl;rw[hs];have h0:=Ar s;simp[B8,Yd,b]
 | some r=>
   rw[a]at b d;have c:=Dy r;simp[B8,Yd,b,d,i7,bh]
def gP(e:d0):d0:=(e.1,!e.2)
theorem U9(e:d0):iX [bh e]=some (bh (gP e)):=by
 rw[iX,Yg (by rfl)];have a:bh (gP e)=.tup [ax e.1,.bl !e.2]:=rfl;rw[a];simp[Bt,Yd]
def d3(a:List d0):Bool:=a.any λe=>decide (e=(none,true))||decide (gP e∈a)
theorem U_(rows:List bz)(l:AY):r0 [aE (.ei l),fC rows]=some (.bl (d3 (l.map (Yw rows)))):=by
 have c:=bG (fe:=B9) (r:=[↑(fC rows)]) (enc:=aj) (λs=>bh (Yw rows s)) (l:=l) (λs _=>by
  simp[B9,(U8 rows s)])
 have e1:(l.map λs=>bh (Yw rows s))=(l.map (Yw rows)).map bh:=by rw[Qf];rfl
 rw[e1]at c;generalize l.map (Yw rows)=b at *;rw[r0,Yg (by rfl)]
 simp[Jb,Yd,ai,c,(bG (fe:=rZ) (r:=[↑(.lst (b.map bh))]) (enc:=bh) (λe=>.bl (decide (e=(none,true))||decide (gP e∈b))) (l:=b) (λe _=>by
  have a:=DB e (none,true);have d:bh (none,true)=.tup [.non,.bl true]:=rfl;rw[d]at a;by_cases hd:e=(none,true)
  .rw[wj hd]at a ⊢
   simp[rZ,a]
  .rw[wm hd]at a ⊢
   simp[rZ,a,(DA (gP e) b),(U9 e)])),d3]
def d4(S:AF)(r:bz):Bool:=match r.2.1 with
 | none=>true
 | some x=>decide (x∈S)&&decide (x<r.1)
theorem Va(r:bz)(S:AF):rX [aq r,.lst (S.map nD)]=some (.bl (d4 S r)):=by
 rw[rX,Yg (by rfl)];have a:=Dy r;unfold d4
 cases h:r.2.1 with
 | none=>
   rw[h]at a;have b:=n4 false none;simp[rW,Yd,a,b]
 | some x=>
   rw[h]at a;have b:=n4 false (some x);have i2:=cw (c:=.lst (S.map nD)) x S false rfl;have d:ax (some x)=.int x:=rfl;rw[d]at a b;by_cases c:x∈S
   .simp[rW,Yd,a,b,i2,c]
   .simp[rW,Yd,a,b,i2,c]
def gQ(rows:List bz)(L:AX)(K S:AF):Bool:=decide (rows.map (·.1)=K)&&rows.all (d4 S)&&L.all λl=>d3 (l.map (Yw rows))
theorem Vb{rows:List bz}(g:rows.length<=1000)(L:AX){K:AF}(j:K.Nodup)(S:AF):
 sd [.tup (rows.map aq),Yj .e (L.map Rl.ei),.lst (K.map nD),.lst (S.map nD)]=some (.bl (gQ rows L K S)):=by
 have h0:=bG (fe:=B_) (r:=[]) (enc:=aq) (λr=>nD r.1) (l:=rows) (λr _=>by
  simp[B_])
 have i:(rows.map λr=>nD r.1)=(rows.map (·.1)).map nD:=by rw[Qf];rfl
 rw[i]at h0
 have f:=bG (fe:=Ca) (r:=[↑(.lst (S.map nD))]) (enc:=aq) (λr=>.bl (d4 S r)) (l:=rows) (λr _=>by
  have h:=Va r S
  simp[Ca,h])
 have b:=DC true (rows.map (·.1)) K;rw[sd,Yg (by rfl)];have hb:Yc (Yj .e (L.map Rl.ei))=some [br .e,.tup ((L.map Rl.ei).map aE)]:=rfl;by_cases a:rows.map (·.1)=K
 .have n:(rows.map (·.1)).Nodup:=by rw[a];exact j
  have hd:=U7 g n
  have d:=bG (fe:=Cb) (r:=[↑(fC rows)]) (enc:=λl=>aE (.ei l)) (λl=>.bl (d3 (l.map (Yw rows)))) (l:=L) (λl _=>by
   have h:=U_ rows l
   simp[Cb,h])
  have e2:(L.map λl=>aE (.ei l))=(L.map Rl.ei).map aE:=by rw[Qf];rfl
  rw[e2]at d;simp  [a]at b
  have c:gQ rows L K S=(rows.all (d4 S)&&L.all λl=>d3 (l.map (Yw rows))):=by simp[gQ,a]
  rw[c];rw[a]at h0;generalize (L.map Rl.ei).map aE=o at *;generalize m:d4 S=k at *
  cases e:rows.all k with
  | true=>simp[r_,Yd,ai,h0,f,b,e,hd,hb,d]
  | false=>simp[r_,Yd,ai,h0,f,b,e]
 .have c:gQ rows L K S=false:=by simp[gQ,a]
  rw[c];simp only[a]at b;generalize (rows.map (·.1)).map nD=p at *;simp[r_,Yd,ai,h0,b]
theorem sZ(c:Bool)(a b:AF):au c (.lst (a.map nD)) (.lst (b.map nD))=some (if c then !decide (a=b)else decide (a=b)):=by
 have h:∀l:AF,a9 (l.map nD)<=1:=λl=>iD (λx=>by simp) l;have f:=h a;have d:=h b
 have e:bE (.lst (a.map nD)) (.lst (b.map nD))=dw (a.map nD) (b.map nD):=by simp
 rw[d7 (by simp;lia) (by simp;lia),e,q4 jH]
def fD(l:AF):Bool:=decide (l.Pairwise (·<·))
theorem Ka:∀{a b:AF},a.Pairwise (·<·)->b.Pairwise (·<·)->(∀x,x∈a↔x∈b)->a=b
 | [],[],_,_,_=>rfl
 | [],y::b,_,_,h=>absurd ((h y).mpr qh) (by simp)
 | x::a,[],_,_,h=>absurd ((h x).mp qh) (by simp)
 | x::a,y::b,d,hb,h=>by
   rw[List.pairwise_cons]at d hb
   have c:x=y:=by
    have f:=(h x).mp qh;have e:=(h y).mpr qh;grind
   subst c
   have:=Ka d.2 hb.2 λz=>by
    grind
   rw[this]
theorem DD{l:AF}(h:∀x∈l,x<60)(g:l.length<=3700):∃a:AF,gA (l.map nD)=some (a.map nD)/\decide (l=a)=fD l:=by
 obtain⟨a,b,c,f⟩:=Dm  (by lia) l h (by lia);refine⟨a,f,?_⟩;unfold fD;by_cases d:l.Pairwise (·<·)
 .have:=Ka d b λx=>(c x).symm
  simp[d,<-this]
 .have:¬l=a:=λe=>d (e ▸ b)
  simp[d,this]
theorem Kb{l:AF}(h:∀x∈l,x<60)(d:l.length<=3700):mO [.tup (l.map nD)]=some (.bl (fD l)):=by
 obtain⟨c,a,e⟩:=DD h d;have b:=sZ false l c;simp  [e]at b;rw[mO,Yg (by rfl)];simp[Io,Yd,a,b]
abbrev a8:=Nat×List Nat×Bool
def ay(r:a8):D:=.tup [.int r.1,.tup (r.2.1.map nD),.bl r.2.2]
@[simp] theorem DE(r:a8):Yc (ay r)=some [.int r.1,.tup (r.2.1.map nD),.bl r.2.2]:=nr rfl
def DF(a b c:D):bf [a,b,c] 1=some b:=rfl
def DG(a b c:D):bf [a,b,c] 2=some c:=rfl
def fE(S:AF)(r:a8):Bool:=fD r.2.1&&r.2.1.all λx=>decide (x∈S)&&decide (x<r.1)
theorem Vc{r:a8}(h:∀x∈r.2.1,x<60)(f:r.2.1.length<=3700)(S:AF):sg [ay r,.lst (S.map nD)]=some (.bl (fE S r)):=by
 have b:=DE r;have a:=Kb h f
 have e:=bG (fe:=se) (r:=[↑(.lst (S.map nD)),↑(ay r)]) (enc:=nD) (λx=>.bl (decide (x∈S)&&decide (x<r.1))) (l:=r.2.1) (λx _=>by
  have i2:=cw (c:=.lst (S.map nD)) x S false rfl;by_cases c:x∈S
  .simp[se,b,i2,c]
  .simp[se,b,i2,c])
 rw[sg,Yg (by rfl)];unfold fE;generalize fD r.2.1=d at *
 cases d with
 | true=>simp[Cc,Yd,b,a,ai,e]
 | false=>simp[Cc,Yd,b,a]
def gg(rows:List a8):D:=.dct false (rows.map λr=>nD r.1) (rows.map ay)
theorem Kc:∀rows:List a8,gz (rows.map λr=>.tup [.int r.1,ay r])=some (rows.map λr=>((r.1:Int),ay r))
 | []=>rfl
 | r::l=>by rw[Qd,gz,Kc l];rfl
theorem Ke:∀(ps:List (Int×a)) (ns:AG) (vs:List a),(ns++ps.map (·.1)).Nodup->bR ns vs ps=(ns++ps.map (·.1),vs++ps.map (·.2))
 | [],ns,vs,_=>by simp[bR]
 | p::ps,ns,vs,h=>by
   rw[bR,cG,if_neg (λb=>by
    grind)]
   have h':((ns++[p.1])++ps.map (·.1)).Nodup:=by simpa using h
   rw[Ke ps _ _ h'];simp
theorem Vd{l:AF}(h:l.Nodup):(l.map λx:Nat=>(x:Int)).Nodup:=by grind
theorem Ve{rows:List a8}(h:rows.length<=1000)(f:(rows.map (·.1)).Nodup):Yv [.tup (rows.map ay)]=some (gg rows):=by
 have g:pairsOf (.lst (rows.map λr=>.tup [.int r.1,ay r]))=some (rows.map λr=>((r.1:Int),ay r)):=Kc rows;have d:=Vd f
 have c:(rows.map λr=>((r.1:Int),ay r)).length<1000000:=by rw[qf];lia
 rw[Yv,Yg (by rfl)]
 have a:(lF (Yr (b1 (ab 0) Yc) [none] (ah 0) tY Ys)) [↑(.tup (rows.map ay))]=some (.lst (rows.map λr=>.tup [.int r.1,ay r])):=by
  simp[ai,(bG (fe:=Ys) (r:=[]) (enc:=ay) (λr=>.tup [.int r.1,ay r]) (l:=rows) (λr _=>by
  simp[Ys]))]
 have e:Yd 1 [D.tup (rows.map ay)]=[↑(.tup (rows.map ay))]:=rfl
 rw[B7,e,HF,Ig,a,qd,g,qd,HJ,if_pos c,(Ke (rows.map λr=>(r.1,ay r)) [] [] (by
  rw[Qf];rw[Qf]at d
  exact d))]
 simp[gg,wt]
theorem Kf(x:Nat):∀rows:List a8,bP (rows.map λr=>((r.1:Nat):Int)) (rows.map ay) (x:Int)=(rows.find? (λr=>r.1==x)).map ay
 | []=>rfl
 | r::l=>by
   rw[Qd,Qd,bP,Kf x l];grind
def d_(rows:List a8)(x:Nat):a8:=(rows.find? (λr=>r.1==x)).getD (x,[x],false)
def c7(rows:List a8)(x:Nat):Sm:=(λy=>decide (y∈(d_ rows x).2.1),(d_ rows x).2.2)
theorem DH(h:∀r∈rows,r.2.1.Pairwise (·<·)/\∀y∈r.2.1,y<60)(a:x<60):(d_ rows x).2.1.Pairwise (·<·)/\∀y∈(d_ rows x).2.1,y<60:=by
 unfold d_
 cases e:rows.find? (λr=>r.1==x)with
 | none=>grind
 | some r=>grind
def DI(rows:List a8)(x:Nat):jC (gg rows) (.int (x:Int)) (.tup [.int (x:Int),.tup [.int (x:Int)],.bl false])=some (ay (d_ rows x)):=by
 rw[gg,Nf,(qV _ rows),Option.map_some,Kf];unfold d_;cases rows.find? (λr=>r.1==x)<;>rfl
def DJ(h:∀r∈rows,r.2.1.Pairwise (·<·)/\∀y∈r.2.1,y<60)(b:x<60):D.tup [.tup ((d_ rows x).2.1.map nD),.bl (d_ rows x).2.2]=cx (c7 rows x):=by
 obtain⟨a,c⟩:=DH h b;exact n0 a c _
def eW(rows:List a8)(a:Sm)(x:Nat):Sm:=(λy=>a.1 y != (c7 rows x).1 y,a.2 != (c7 rows x).2)
def bx(rows:List a8)(l:AF):Sm:=l.foldl (eW rows) (λ_=>false,false)
theorem DK(rows:List a8)(q:AF)(x:Nat):bx rows (q++[x])=eW rows (bx rows q) x:=by
 unfold bx;grind
theorem Vf(h:∀r∈rows,r.2.1.Pairwise (·<·)/\∀y∈r.2.1,y<60)(a:Sm):si [cx a,gg rows]=some (cx (bx rows (fl 60 a.1))):=by
 have k:∀x∈fl 60 a.1,x<60:=λx c=>Qb (Qc c).1;have i:Yc (cx a)=some [.tup ((fl 60 a.1).map nD),.bl a.2]:=rfl;generalize cx a=d,fl 60 a.1=F at *
 obtain⟨ρ',e1,g,f,rfl⟩:=d8 (gt:=ah 3) (fb:=Cd) nD (λj ρ=>∃(g f:AR),ρ=[↑d,↑(gg rows),↑(cx (bx rows j)),g,f]) F []
  [↑d,↑(gg rows),↑(cx (bx rows [])),none,none] ⟨none,none,rfl⟩ (by
   rintro q x r ρ e ⟨g,f,rfl⟩;have c:=k x (by grind)
   have b:mM [cx (bx rows q),cx (c7 rows x)]=some (cx (bx rows (q++[x]))):=by rw[DK];exact(U2 (bx rows q).1 (c7 rows x).1 (bx rows q).2 (c7 rows x).2)
   rw[<-(DJ h c)]at b;refine⟨_,[↑d,↑(gg rows),↑(cx (bx rows (q++[x]))),↑(nD x),↑(ay (d_ rows x))],rfl,?_,_,_,rfl⟩
   simp[Cd,(DI rows x),DG,b])
 rw[si,Yg (by rfl)];have h0:D.tup [.tup [],.bl false]=cx (bx rows []):=rfl;simp[Je,Yd,h0,i,e1]
def gR(rows:List a8)(a:Sm):Bool:=decide (fl 60 (bx rows (fl 60 a.1)).1=[])&&((bx rows (fl 60 a.1)).2==a.2)
theorem DL(a:Sm)(o:Bool):au false (cx a) (.tup [.tup [],.bl o])=some (decide (fl 60 a.1=[])&&(a.2==o)):=by
 have hd:a9 ((fl 60 a.1).map nD)<=1:=iD (λx=>by simp) _;have e:dw ((fl 60 a.1).map nD) []=decide (fl 60 a.1=[]):=q4 jH (fl 60 a.1) [];rw[d7 (by simp;lia) (by simp)];simp only[Aa,HI,e];simp
def gS(rows:List a8)(R:List Sm)(K S:AF):Bool:=decide (rows.map (·.1)=K)&&rows.all (fE S)&&R.all (gR rows)
theorem Vg{rows:List a8}(s:rows.length<=1000)(f:∀r∈rows,r.2.1.length<=3700/\∀y∈r.2.1,y<60)(R:List Sm){K:AF}(n:K.Nodup)(S:AF):
 sk [.tup (rows.map ay),.tup [.str "sums",.tup (R.map cx)],.lst (K.map nD),.lst (S.map nD)]=some (.bl (gS rows R K S)):=by
 have h0:=bG (fe:=Ce) (r:=[]) (enc:=ay) (λr=>nD r.1) (l:=rows) (λr _=>by
  have u:=DE r
  simp[Ce])
 have m:(rows.map λr=>nD r.1)=(rows.map (·.1)).map nD:=by rw[Qf];rfl
 rw[m]at h0
 have l:=bG (fe:=Cg) (r:=[↑(.lst (S.map nD))]) (enc:=ay) (λr=>.bl (fE S r))  (λr d=>by
  have h:=Vc (f r d).2 (f r d).1 S
  simp[Cg,h])
 have e:=sZ true (rows.map (·.1)) K;rw[sk,Yg (by rfl)];have k:ba (rows.map λr=>D.bl (fE S r))=some (rows.map (fE S)):=fW _ rows;have hb:Yc (.tup [.str "sums",.tup (R.map cx)])=some [.str "sums",.tup (R.map cx)]:=rfl;by_cases c:rows.map (·.1)=K
 .have t:(rows.map (·.1)).Nodup:=by rw[c];exact n
  have hd:=Ve s t;simp  [c]at e
  have g:gS rows R K S=(rows.all (fE S)&&R.all (gR rows)):=by simp[gS,c]
  rw[g];rw[c]at h0
  cases i:rows.all (fE S)with
  | false=>
    simp[sj,Yd,ai,h0,l,e,i]
  | true=>
    have b:∀r∈rows,r.2.1.Pairwise (·<·)/\∀y∈r.2.1,y<60:=λr d=>by
     have h:=List.all_eq_true.mp i r d;unfold fE fD at h;simp only[Qe,wh]at h;exact⟨h.1,(f r d).2⟩
    have o:=bG (fe:=Ci) (r:=[↑(gg rows)]) (enc:=cx) (λa=>.bl (gR rows a)) (l:=R) (λa _=>by
     have h:=Vf b a;have p:Yc (cx a)=some [.tup ((fl 60 a.1).map nD),.bl a.2]:=rfl;have q:=DL (bx rows (fl 60 a.1)) a.2;unfold gR
     simp[Ci,h,q])
    have j:ba (R.map λa=>D.bl (gR rows a))=some (R.map (gR rows)):=fW _ R;simp[sj,Yd,ai,h0,l,e,i,hd,o]
 .have g:gS rows R K S=false:=by simp[gS,c]
  rw[g];simp only[c]at e;generalize (rows.map (·.1)).map nD=v at *;simp[sj,Yd,ai,h0,e]
abbrev cy:=Nat×AF
def aZ(r:cy):D:=.tup [.int r.1,.tup (r.2.map nD)]
@[simp] theorem DM(r:cy):Yc (aZ r)=some [.int r.1,.tup (r.2.map nD)]:=nr rfl
def gT(l K:AF):Bool:=fD l&&l.all λx=>decide (x∈K)
theorem Kg{l:AF}(h:∀x∈l,x<60)(c:l.length<=3700)(K:AF):ni [.tup (l.map nD),.lst (K.map nD)]=some (.bl (gT l K)):=by
 have b:=Kb h c;have hb:ba (l.map λx=>D.bl (decide (x∈K)))=some (l.map λx=>decide (x∈K)):=fW _ _
 have a:(l.map λx=>decide (x∈K)).all id=l.all λx=>decide (x∈K):=by rw[List.all_map];rfl
 rw[ni,Yg (by rfl)];unfold gT;rw[<-a];generalize (l.map λx=>decide (x∈K))=e,fD l=d at *
 cases d with
 | true=>simp[Ck,Yd,b,ai,(bG (fe:=Cj) (r:=[↑(.lst (K.map nD))]) (enc:=nD) (λx=>.bl (decide (x∈K))) (l:=l) (λx _=>by
   simp[Cj,(cw (c:=.lst (K.map nD)) x K false rfl)])),hb]
 | false=>simp[Ck,Yd,b]
theorem Kh(l:AF)(x:Nat):nj [.tup (l.map nD),.int x]=some (.lst ((l.filter λy=>decide (y<x)).map nD)):=by
 rw[nj,Yg (by rfl)]
 simp[Jh,Yd,ai,(dh (fc:=Cm) (fe:=Cn) (r:=[↑(.int x)]) (enc:=nD) (λy=>decide (y<x)) nD (l:=l) (λy _=>by
  simp[Cm]) (λy _ _=>by simp[Cn]))]
def dI(first K:AF)(r:cy):Bool:=gT r.2 K&&decide ((r.2.filter λy=>decide (y<r.1))=first.filter λy=>decide (y<r.1))
theorem DN{r:cy}(h:∀x∈r.2,x<60)(c:r.2.length<=3700)(first K:AF):sm [aZ r,.tup (first.map nD),.lst (K.map nD)]=some (.bl (dI first K r)):=by
 have b:=DM r;have a:=Kg h c K;rw[sm,Yg (by rfl)];unfold dI;generalize gT r.2 K=d at *
 cases d with
 | true=>simp[Co,Yd,b,a,(Kh r.2 r.1),(Kh first r.1),(sZ false (r.2.filter λy=>decide (y<r.1)) (first.filter λy=>decide (y<r.1)))]
 | false=>simp[Co,Yd,b,a]
def aQ(n:Nat)(l:AF):AH:=(List.range n).map λx=>decide (x∈l)
theorem Vh{n:Nat}(e:n<=1000){R:List Rl}(d:∀r∈R,In .i n r)(l:AF):sq [Yj .i R,.lst (l.map nD),.int n]=some (.bl (decide (brk .i (aQ n l) R=[]))):=by
 have c:=l9 (n:=n) (by lia) (by lia);rw[fv]at c
 have b:=bG (fe:=Cp) (r:=[↑(.lst (l.map nD))]) (enc:=λi=>D.int ((i:Nat))) (λx=>D.bl (decide (x∈l))) (l:=List.range n) (λx _=>by
  simp[Cp,(cw (c:=.lst (l.map nD)) x l false rfl)])
 have e1:((List.range n).map λx=>D.bl (decide (x∈l)))=(aQ n l).map D.bl:=by unfold aQ;rw[Qf];rfl
 rw[e1]at b
 have a:(aQ n l).length=n:=by unfold aQ;simp
 rw[sq,Yg (by rfl)];simp[Ji,Yd,ai,c,b,(J0  (c:=.lst ((aQ n l).map D.bl)) rfl   (by rw[a];exact d))]
theorem Vi(S:AF)(x:Nat):gL [.lst (S.map nD),.int x]=some (.tup ((S.filter λy=>!decide (y=x)).map nD)):=by
 rw[gL,Yg (by rfl)]
 simp[BF,Yd,ai,(dh (fc:=mT) (fe:=mU) (r:=[↑(.int x)]) (enc:=nD) (λy=>!decide (y=x)) nD (l:=S) (λy _=>by
  simp[mT]) (λy _ _=>by simp[mU]))]
def bK(first:AF)(rows:List cy)(S:AF):List AF:=(S++first)::rows.map λr=>(S.filter λy=>!decide (y=r.1))++r.2
def jV(first:AF)(rows:List cy)(R:List Rl)(K S:AF)(n:Nat):Bool:=gT first K&&decide (rows.map (·.1)=S)&&rows.all (dI first K)&&(bK first rows S).all λl=>decide (brk .i (aQ n l) R=[])
theorem Vj{first:AF}(F:∀x∈first,x<60)(E:first.length<=100){rows:List cy}(O:rows.length<=100)(k:∀r∈rows,r.2.length<=100/\∀y∈r.2,y<60){n:Nat}(B:n<=1000){R:List Rl}(H:∀r∈R,In .i n r)(K:AF){S:AF}(M:S.length<=100):
 sv [.tup (first.map nD),.tup (rows.map aZ),Yj .i R,.lst (K.map nD),.lst (S.map nD),.int n]=some (.bl (jV first rows R K S n)):=by
 have hs:=Kg F (by lia) K
 have h0:=bG (fe:=Cq) (r:=[]) (enc:=aZ) (λr=>nD r.1) (l:=rows) (λr _=>by
  have m:=DM r
  simp[Cq,m])
 have w:(rows.map λr=>nD r.1)=(rows.map (·.1)).map nD:=by rw[Qf];rfl
 rw[w]at h0;have g:=sZ true (rows.map (·.1)) S
 have q:=bG (fe:=Cr) (r:=[↑(.tup (first.map nD)),↑(.lst (K.map nD))]) (enc:=aZ) (λr=>.bl (dI first K r)) (l:=rows) (λr f=>by
  have h:=DN (k r f).2 (by have:=(k r f).1;lia) first K
  simp[Cr,h])
 have b:ba (rows.map λr=>D.bl (dI first K r))=some (rows.map (dI first K)):=fW _ rows
 have t:=bG (fe:=Cs) (r:=[↑(.lst (S.map nD))]) (enc:=aZ) (λr=>.lst (((S.filter λy=>!decide (y=r.1))++r.2).map nD)) (l:=rows) (λr f=>by
  have m:=DM r;have u:=Vi S r.1;have I:(S.filter λy=>!decide (y=r.1)).length<=S.length:=Qn _ _;have p:=iB (a:=(S.filter λy=>!decide (y=r.1)).map nD) (b:=r.2.map nD) (by have:=(k r f).1;rw[qf,qf];lia);rw[<-Qk]at p;have J:∀l:AQ,eC [.tup l]=some l:=λl=>rfl
  simp[Cs,m,u,J,p])
 have e2:(rows.map λr=>D.lst (((S.filter λy=>!decide (y=r.1))++r.2).map nD))=(rows.map λr=>(S.filter λy=>!decide (y=r.1))++r.2).map λl=>D.lst (l.map nD):=by rw[Qf];rfl
 rw[e2]at t;have e:=iB (a:=S.map nD) (b:=first.map nD) (by rw[qf,qf];lia);rw[<-Qk]at e;have d:=iB (a:=[D.lst ((S++first).map nD)]) (b:=(rows.map λr=>(S.filter λy=>!decide (y=r.1))++r.2).map λl=>D.lst (l.map nD)) (by simp;lia);have C:[D.lst ((S++first).map nD)]++((rows.map λr=>(S.filter λy=>!decide (y=r.1))++r.2).map λl=>D.lst (l.map nD))=(bK first rows S).map λl=>D.lst (l.map nD):=rfl;rw[C]at d
 have A:=bG (fe:=Cu) (r:=[↑(Yj .i R),↑(.int (n:Int))]) (enc:=λl:AF=>D.lst (l.map nD)) (λl=>.bl (decide (brk .i (aQ n l) R=[]))) (l:=bK first rows S) (λl _=>by
  have h:=Vh B H l
  simp[Cu,h])
 have c:ba ((bK first rows S).map λl=>D.bl (decide (brk .i (aQ n l) R=[])))=some ((bK first rows S).map λl=>decide (brk .i (aQ n l) R=[])):=fW _ _
 have j:((bK first rows S).map λl=>decide (brk .i (aQ n l) R=[])).all id=(bK first rows S).all λl=>decide (brk .i (aQ n l) R=[]):=by rw[List.all_map];rfl
 have o:eC [.tup (first.map nD)]=some (first.map nD):=rfl;rw[sv,Yg (by rfl)];unfold jV;rw[<-j];generalize ((rows.map λr=>(S.filter λy=>!decide (y=r.1))++r.2).map λl=>D.lst (l.map nD))=P,(S++first).map nD=L at *
 generalize gT first K=z at *
 generalize v:dI first K=G at *
 cases z with
 | false=>simp[nk,Yd,hs]
 | true=>
   by_cases i:rows.map (·.1)=S
   .simp only[i,decide_true]at g
    rw[i]at h0
    cases s:rows.all G with
    | false=>simp[nk,Yd,hs,ai,h0,g,q,b,s,wt]
    | true=>simp[nk,Yd,hs,ai,h0,g,q,b,s,wt,i,o,e,t,d,A,c]
   .generalize (rows.map (·.1)).map nD=N at *
    simp[nk,Yd,hs,ai,h0,g,i]
def bo(n:Nat)(l:AF):D:=.lst ((aQ n l).map D.bl)
def mem_ofH{hs:AH}{st:Nat}{b:Bool}{x:Nat}:x∈aA hs st b↔x<hs.length/\st<=x/\hs.getD x false=b:=by
 unfold aA;simp
def cj(hs:AH)(st:Nat)(a:AM)(c:AF)(b:Nat):Bool:=decide (b∈c)||(decide (st<=b)&&((hs.getD b false==false)&&!decide (a=some b)))
theorem DO(b:Nat)(a:AM):au true (.int (b:Int)) (ax a)=some (!decide (a=some b)):=by
 cases a with
 | none=>
   rw[d7 (by simp) (by simp)]
   have:bE (.int b) (ax none)=false:=by simp[ax,bE,aF,PyData.eqv]
   rw[this];simp
 | some x=>
   show au true (.int b) (.int x)=_;by_cases h:x=b
   .subst h
    simp
   .have c:¬b=x:=by lia
    simp[h,c]
theorem Ki(hs:AH)(x:hs.length<=1000)(st:Nat)(a:AM)(c:AF):
 nK [.lst (hs.map ar),.int st,ax a,.tup (c.map nD)]=some (.lst (((List.range hs.length).map (cj hs st a c)).map D.bl)):=by
 have u:=l9 (n:=hs.length) (by lia) (by lia);rw[fv]at u
 have z:((hs.length:Int)-0).toNat=hs.length:=by lia
 have j:aH [.lst (hs.map ar)]=some (.int hs.length):=by simp
 obtain⟨ρ',e1,y,rfl⟩:=d8 (gt:=ah 5) (fb:=jP) (λi:Nat=>D.int ((i:Nat))) (λt ρ=>∃y:AR,ρ=[↑(.lst (hs.map ar)),↑(.int st),↑(ax a),↑(.tup (c.map nD)),some (.ow ((t.map (cj hs st a c)).map D.bl)),y]) (List.range hs.length) []
  [↑(.lst (hs.map ar)),↑(.int st),↑(ax a),↑(.tup (c.map nD)),some (.ow []),none] ⟨none,rfl⟩ (by
   rintro q b r ρ e ⟨y,rfl⟩;rw[Qj]at e;have hb:b<hs.length:=Qb (by rw[e];simp)
   have A:q.length<=1000:=by
    have:=congrArg List.length e;simp at this;lia
   have l:=cw (c:=.tup (c.map nD)) b c false rfl
   have k:bf (hs.map ar) b=some (ar (hs.getD b false)):=by
    rw[er,fx hb];simp[hb]
   have v:ar false=.str "storm":=rfl;have h:au false (ar (hs.getD b false)) (ar false)=some (hs.getD b false==false):=i5 _ _;rw[v]at h;have o:=DO b a;have f:∀d:D,bu ((q.map (cj hs st a c)).map D.bl) d=some ((q.map (cj hs st a c)).map D.bl++[d]):=λd=>iC (by simp;lia);refine⟨_,[↑(.lst (hs.map ar)),↑(.int st),↑(ax a),↑(.tup (c.map nD)),some (.ow (((q++[b]).map (cj hs st a c)).map D.bl)),↑(.int b)],rfl,?_,_,rfl⟩
   have s:((q++[b]).map (cj hs st a c)).map D.bl=(q.map (cj hs st a c)).map D.bl++[.bl (cj hs st a c b)]:=by rw[Qk,Qk];rfl
   rw[s];unfold cj at f ⊢;generalize (q.map (λb=>decide (b∈c)||(decide (st<=b)&&((hs.getD b false==false)&&!decide (a=some b))))).map D.bl=L,ar (hs.getD b false)=w at *;generalize (hs.getD b false==false)=n at *;by_cases m:b∈c
   .simp[jP,l,m,f]
   .by_cases p:st<=b
    .have g:st<=(b:Int):=by lia
     cases n with
     | true=>simp[jP,l,m,p,g,k,h,o,f]
     | false=>simp[jP,l,m,p,g,k,h,f]
    .have g:¬st<=b:=by lia
     simp[jP,l,m,p,g,f])
 rw[Qj]at e1;rw[nK,Yg (by rfl)];generalize ((List.range hs.length).map (cj hs st a c)).map D.bl=L at *;simp[JE,Yd,j,u,e1]
theorem Vk{hs:AH}{st:Nat}{a:AF}:(List.range hs.length).map (cj hs st none a)=aQ hs.length (aA hs st false++a):=by
 refine Qq λx b=>?_
 have d:x∈aA hs st false++a↔(st<=x/\hs.getD x false=false)\/x∈a:=by
  rw[List.mem_append,mem_ofH];simp[(Qb b)]
 rw[show decide (x∈aA hs st false++a)=decide ((st<=x/\hs.getD x false=false)\/x∈a) from decide_eq_decide.mpr d];unfold cj;by_cases c:x∈a<;>by_cases f:st<=x<;>cases e:hs.getD x false<;>simp[c]
theorem Vl{hs:AH}{st d:Nat}{a:AF}:(List.range hs.length).map (cj hs st (some d) a)=aQ hs.length ((aA hs st false).filter (λy=>!decide (y=d))++a):=by
 refine Qq λx f=>?_
 have g:x∈(aA hs st false).filter (λy=>!decide (y=d))++a↔((st<=x/\hs.getD x false=false)/\¬x=d)\/x∈a:=by
  rw[List.mem_append,Ql,mem_ofH];simp[(Qb f)]
 rw[show decide (x∈(aA hs st false).filter (λy=>!decide (y=d))++a)=decide (((st<=x/\hs.getD x false=false)/\¬x=d)\/x∈a) from decide_eq_decide.mpr g];unfold cj;by_cases b:x=d
 .subst b
  by_cases i:x∈a<;>by_cases c:st<=x<;>cases e:hs.getD x false<;>simp[c]
 .have h:¬d=x:=λz=>b z.symm
  by_cases i:x∈a<;>by_cases c:st<=x<;>cases e:hs.getD x false<;>simp[c,b,h]
def bT(first:AF)(rows:List cy):D:=.tup [.str "rows",.tup (first.map nD),.tup (rows.map aZ)]
def cO(K first:AF)(q:AJ)(d:Nat):AF:=K.filter λb=>(decide (b∈first)&&decide (b<d))||(q b&&decide (d<b))
theorem DP(ns:AG){hs:AH}(u:hs.length<=1000){K:AF}(n:∀x∈K,x<hs.length)(first:AF)(d:Nat){rows:List cy}(y:rows.length<=1000)(i p v:AR):
 ∃(q:AJ) (m o:AR),C5 [↑(.scr ns),↑(.lst (hs.map ar)),i,p,↑(.lst (K.map nD)),↑(.tup (first.map nD)),some (.ow (rows.map aZ)),↑(.int (d:Int)),v] =
  some (.nx [↑(.scr ns),↑(.lst (hs.map ar)),i,m,↑(.lst (K.map nD)),↑(.tup (first.map nD)),some (.ow ((rows++[(d,cO K first q d)]).map aZ)),↑(.int (d:Int)),o]):=by
 have c:=jR ns (3+d) (3+d) (by lia);obtain⟨ev,f,r⟩:=jS (ns.getD (3+d) 0) hs.length u;generalize ns.getD (3+d) 0=x at *
 have j:((hs.map ar).length)=hs.length:=by simp
 have w:=dh (fc:=C3) (fe:=C4) (r:=[↑(.tup (first.map nD)),↑(.int d),↑(.lst (ev.map D.bl))]) (enc:=nD) (λb=>(decide (b∈first)&&decide (b<d))||(aB ev b&&decide (d<b))) nD  (λb hb=>by
  have s:=cw (c:=.tup (first.map nD)) b first false rfl
  have h:=dD   (by rw[f];exact n b hb);generalize aB ev b=k at *
  by_cases l:b∈first<;>by_cases t:b<d<;>by_cases z:d<b<;>cases k<;>simp[C3,s,h,l,t]) (λb _ _=>by simp[C4])
 refine⟨aB ev,↑(.lst (ev.map D.bl)),some (.ow ((cO K first (aB ev) d).map nD)),?_⟩;have a:∀e,bu (rows.map aZ) e=some (rows.map aZ++[e]):=λe=>iC (by rw[qf];lia)
 have g:(rows++[((d,cO K first (aB ev) d))]).map aZ=rows.map aZ++[.tup [.int d,.tup ((cO K first (aB ev) d).map nD)]]:=by rw[Qk];rfl
 rw[g];unfold cO;simp[C5,c,r,ai,w,a]
theorem Vm(ns:AG){hs:AH}(A:hs.length<=60){st:Nat}(g:st<=hs.length):
 ∃(s:AJ) (rows:List cy),rows.map (·.1)=aA hs st false/\(∀r∈rows,∃q:AJ,r.2=cO (aA hs st true) ((aA hs st true).filter s) q r.1)/\
  nL [.scr ns,.lst (hs.map ar),.int st]=some (bT ((aA hs st true).filter s) rows):=by
 have p:=sV (c:=.lst (hs.map ar)) hs rfl (by lia) st g true;have u:=sV (c:=.lst (hs.map ar)) hs rfl (by lia) st g false;simp  [ar,if_true,if_false]at p u;have h:∀x∈aA hs st true,x<hs.length:=λx c=>sW c;have w:(aA hs st false).length<=60:=Qg (Qn _ _) (by simpa using A);generalize aA hs st true=K,aA hs st false=S at *;have o:=nW ns 2;generalize ns.getD 2 0=F at o;obtain⟨ev,k,z⟩:=jS F hs.length (by lia)
 have y:=dh (fc:=C1) (fe:=C2) (r:=[↑(.lst (ev.map D.bl))]) (enc:=nD) (aB ev) nD  (λb hb=>by
  have l:=dD   (by rw[k];exact h b hb)
  simp[C1,l]) (λb _ _=>by simp[C2])
 refine⟨aB ev,?_⟩
 generalize K.filter (aB ev)=first at *
 obtain⟨ρ',e1,rows,i,m,j,a,f,rfl⟩:=d8 (gt:=ah 7)  nD (λn ρ=>∃(rows:List cy) (i m j:AR),rows.map (·.1)=n/\(∀r∈rows,∃q:AJ,r.2=cO K first q r.1)/\
  ρ=[↑(.scr ns),↑(.lst (hs.map ar)),↑(.int st),i,↑(.lst (K.map nD)),↑(.tup (first.map nD)),some (.ow (rows.map aZ)),m,j]) S []
  [↑(.scr ns),↑(.lst (hs.map ar)),↑(.int st),↑(.lst (ev.map D.bl)),↑(.lst (K.map nD)),↑(.tup (first.map nD)),some (.ow []),none,none] ⟨[],_,_,_,rfl,by simp,rfl⟩ (by
   rintro q d r ρ e ⟨rows,i,m,j,a,f,rfl⟩
   have v:q.length<=60:=by
    have:=congrArg List.length e;simp at this;lia
   have C:=by rw[<-a]at v;simpa using v
   obtain⟨t,G,H,E⟩:=DP ns  (by lia) h first d (rows:=rows) (by lia) (↑(.int st)) i j
   refine⟨_,_,rfl,E,rows++[(d,cO K first t d)],_,_,_,by simp[a],λx c=>?_,rfl⟩;rcases qw c with c|c
   .exact f x c
   .rw[List.mem_singleton]at c
    subst c
    exact⟨t,rfl⟩)
 refine⟨rows,a,f,?_⟩;rw[nL,Yg (by rfl)];simp at o;unfold bT;simp[JG,Yd,o,z,p,u,ai,y,e1]
def n5{n:Nat}{l:AF}{x:Nat}(h:x<n):aB (aQ n l) x=decide (x∈l):=by
 unfold aQ aB;simp[h]
def Kj(n:Nat)(l:AF):(aQ n l).length=n:=by unfold aQ;simp
def Kk(n:Nat)(l:AF):Yc (bo n l)=some ((aQ n l).map D.bl):=rfl
theorem n6{n:Nat}{l:AF}{x:Nat}(h:x<n):bf ((aQ n l).map D.bl) (x:Int)=some (.bl (decide (x∈l))):=by
 rw[dD (by rw[Kj];exact h),n5 h]
theorem DR(n:Nat)(l:AF):bb (bo n l)<=2:=by
 unfold bo;have:a9 ((aQ n l).map D.bl)<=1:=iD (λb=>by simp) _;simp;lia
theorem Kl(l:AQ)(h:a9 l<=50):au false (.lst l) (.lst [])=some (decide (l=[])):=by
 rw[d7 (by simp;lia) (by simp)]
 cases l with
 | nil=>simp
 | cons a l=>
   simp
def eF(b l:AF):Bool:=b.all λx=>decide (x∈l)
theorem DS{n:Nat}{b:AF}(hb:∀x∈b,x<n)(a:List AF):
 dN (ah 0) C7 C8 [none,↑(.tup (b.map nD))] (a.map (bo n))=some ((a.filter (eF b)).map (bo n)):=
 dh     (eF b) (bo n)  (λl _=>by
  have d:(b.map λx=>decide (x∈l)).all id=eF b l:=by rw[List.all_map];rfl
  rw[<-d]
  simp[C7,ai,(bG (fe:=C6) (r:=[↑(bo n l)]) (enc:=nD) (λx=>.bl (decide (x∈l)))  (λx e=>by
   have c:=n6 (l:=l) (hb x e)
   simp[C6,(Kk n l),c]))]) (λl _ _=>by simp[C8])
theorem DT{n st:Nat}(f:st<=n)(b:AF)(Hs:List AF):
 dN (ah 0) nM sG [none,↑(.tup (b.map nD)),↑(.lst (Hs.map (bo n)))] ((List.range (n-st)).map λi:Nat=>D.int ((st:Int)+(i:Nat))) =
  some ((((List.range (n-st)).filter λi=>!decide (st+i∈b)&&Hs.all λl=>decide (st+i∈l)).map (st+·)).map nD):=by
 rw[(dh (fc:=nM) (fe:=sG) (r:=[↑(.tup (b.map nD)),↑(.lst (Hs.map (bo n)))]) (enc:=λi:Nat=>D.int (st+i)) (λi=>!decide (st+i∈b)&&Hs.all λl=>decide (st+i∈l)) (λi=>nD (st+i)) (l:=List.range (n-st)) (λi c=>by
  have a:st+i<n:=by have:=Qb c;lia
  have e:st+(i:Int)=((st+i:Nat)):=by lia
  rw[e];generalize st+i=x at *;have d:=cw (c:=.tup (b.map nD)) x b true rfl;by_cases m:x∈b
  .simp[nM,d,m]
  .simp[nM,d,m,ai,(bG (fe:=C9) (r:=[↑(.int x)]) (enc:=bo n) (λl=>.bl (decide (x∈l))) (l:=Hs) (λl _=>by
   have c:=Kk n l
   simp[C9,c,(n6 (l:=l) a)]))]) (λi _ _=>by simp[sG,nD])),Qf]
 rfl
theorem DU{n:Nat}{b:AF}(hb:∀x∈b,x<n){h:AM}(i:∀x,h=some x->x<n)(l:AF):
 so .i (aQ n l) (.im b h)=true↔(eF b l=true->∃y,h=some y/\y∈l):=by
 constructor
 .intro hs c
  have e1:(b.any λx=>aB (aQ n l) x != true)=false:=by
   rw[List.any_eq_false];intro x d;have:=List.all_eq_true.mp c x d;rw[n5 (hb x d)];simpa using this
  have a:((b.any λx=>aB (aQ n l) x != true)||Bk.hd (aQ n l) true h)=true:=hs;rw[e1]at a
  cases h with
  | none=>cases a
  | some y=>
    refine⟨y,rfl,?_⟩;have f:(aB (aQ n l) y==true)=true:=a;rw[n5 (i y rfl)]at f;simpa using f
 .intro g
  show((b.any λx=>aB (aQ n l) x != true)||Bk.hd (aQ n l) true h)=true
  cases e:(b.any λx=>aB (aQ n l) x != true)with
  | true=>rfl
  | false=>
    rw[List.any_eq_false]at e
    have c:eF b l=true:=List.all_eq_true.mpr λx d=>by
     have:=e x d;rw[n5 (hb x d)]at this;simpa using this
    obtain⟨y,rfl,j⟩:=g c;show(aB (aQ n l) y==true)=true;rw[n5 (i y rfl)];simpa using j
theorem Vn{n st:Nat}(L:st<=n)(hn:n<=1000){b:AF}(hb:∀x∈b,st<=x/\x<n)(H:0<b.length){d:List AF}(X:0<d.length)(w:Int):
 ∃h:AM,(∀x,h=some x->st<=x/\x<n)/\(∀l∈d,eF b l=true->∃y,h=some y/\y∈l)/\sI [.tup (b.map nD),.int st,.lst (d.map (bo n)),.int w]=some (aE (.im b h)):=by
 have F:=DS (λx q=>(hb x q).2) d;have g:=Kl ((d.filter (eF b)).map (bo n)) (Qg (iD (DR n) _) (by lia));have u:Yd 6 [.tup (b.map nD),.int (st:Int),.lst (d.map (bo n)),.int w]=[↑(.tup (b.map nD)),↑(.int st),↑(.lst (d.map (bo n))),↑(.int w),none,none]:=rfl;rw[sI,Yg (by rfl),u];have p:∀l,l∈d.filter (eF b)↔l∈d/\eF b l=true:=λl=>Ql;generalize d.filter (eF b)=Hs at *;by_cases R:Hs=[]
 .subst R
  refine⟨none,λx q=>(nomatch q),λl s hs=>absurd ((p l).mpr ⟨s,hs⟩) (by simp),?_⟩;have k:aE (.im b none)=.tup [.tup (b.map nD),.non]:=rfl;rw[k];rw[List.map_nil]at F g;generalize b.map nD=Q at *;simp[sH,ai,F,g]
 have J:¬Hs.map (bo n)=[]:=λz=>R (List.map_eq_nil_iff.mp z);simp only[J,decide_false]at g;have G:=DT L b Hs;have E:=l_ (a:=(st:Int)) (n:=(n:Int)) (by lia) (by lia) (by lia) (by lia);rw[fv]at E
 have V:((n:Int)-st).toNat=n-st:=by lia
 rw[V]at E
 obtain⟨m,C,rfl⟩:∃m C,d=m::C:=by
  cases d with
  | nil=>simp at X
  | cons a l=>exact⟨a,l,rfl⟩
 have D:bf ((m::C).map (bo n)) 0=some (bo n m):=by
  simpa using h
 have j:aH [bo n m]=some (.int (n:Int)):=by
  unfold bo;simp[Kj]
 have K:∀y,y∈((List.range (n-st)).filter λi=>!decide (st+i∈b)&&Hs.all λl=>decide (st+i∈l)).map (st+·)->(st<=y/\y<n)/\∀l∈Hs,y∈l:=λy M=>by
  obtain⟨i,Z,rfl⟩:=qy M;obtain⟨T,S⟩:=Qc Z;have:=Qb T;rw[Qe]at S;refine⟨⟨by lia,by lia⟩,λl s=>?_⟩;have:=List.all_eq_true.mp S.2 l s;simpa using this
 generalize ((List.range (n-st)).filter λi=>!decide (st+i∈b)&&Hs.all λl=>decide (st+i∈l)).map (st+·)=c at *;have o:=Kl (c.map nD) (Qg (iD (n:=0) (λx=>by simp) _) (by lia));by_cases r:c=[]
 .subst r
  rw[List.map_nil]at G o
  obtain⟨f,t,rfl⟩:∃f t,b=f::t:=by
   cases b with
   | nil=>simp at H
   | cons a l=>exact⟨a,l,rfl⟩
  refine⟨some f,λx q=>by cases q;exact hb _ (by simp),λl s hs=>⟨f,rfl,?_⟩,?_⟩
  .unfold eF at hs
   simp at hs;exact hs.1
  have N:bf ((f::t).map nD) 0=some (nD f):=by
   simpa using h
  have k:aE (.im (f::t) (some f))=.tup [.tup ((f::t).map nD),nD f]:=rfl;rw[k];generalize nD f=nb,bo n m=Y,(m::C).map (bo n)=LE,(f::t).map nD=Q at *;simp[sH,ai,F,g,D,j,E,G,o,N]
 .have O:¬c.map nD=[]:=λz=>r (List.map_eq_nil_iff.mp z)
  simp only[O,decide_false]at o;have P:0<c.length:=List.length_pos_iff.mpr r
  have B:(0:Int)<(c.length:Int):=by lia
  obtain⟨y,M,e⟩:=Ag (l:=c) (i:=w%(c.length:Int)) (Int.emod_nonneg _ (by lia)) (Int.emod_lt_of_pos _ B)
  have I:bf (c.map nD) (w%(c.length:Int))=some (nD y):=by rw[er,e];rfl
  have A:aN (.int w) (.int (c.length:Int))=some (.int (w%(c.length:Int))):=jE B
  have v:((c.map nD).length:Int)=(c.length:Int):=by simp
  obtain⟨W,U⟩:=K y M;refine⟨some y,λx q=>by cases q;exact W,λl s hs=>⟨y,rfl,U l ((p l).mpr ⟨s,hs⟩)⟩,?_⟩;have k:aE (.im b (some y))=.tup [.tup (b.map nD),nD y]:=rfl;rw[k];generalize nD y=ny,bo n m=Y,(m::C).map (bo n)=LE,c.map nD=HD,b.map nD=Q at *;simp[sH,ai,F,g,D,j,E,G,o,v,A,I]
def i8(n st:Nat)(a:List AF)(r:Rl):Prop:=∃(b:AF) (h:AM),r=.im b h/\b.Pairwise (·<·)/\(∀x∈b,st<=x/\x<n)/\(∀x,h=some x->st<=x/\x<n)/\∀l∈a,eF b l=true->∃y,h=some y/\y∈l
theorem Vo{n st:Nat}(u:st<n)(w:n<=60)(v:Int):
 ∃(d e i:Nat) (b:AF),(st:Int)+v/64%((n:Int)-st)=(d:Int)/\(st:Int)+v/3840%((n:Int)-st)=(e:Int)/\(st:Int)+v/230400%((n:Int)-st)=(i:Int)/\b.Pairwise (·<·)/\(∀x∈b,st<=x/\x<n)/\0<b.length/\
  gA (dy [.int (d:Int),.int (e:Int),.int (i:Int)] none (some (1+v%3)))=some (b.map nD):=by
 have hd:(0:Int)<n-st:=by lia
 have key:∀x:Int,∃a:Nat,st+x%(n-st)=a/\st<=a/\a<n:=λx=>by
  have z:=Int.emod_nonneg x (show(n:Int)-st≠0 by lia);have y:=Int.emod_lt_of_pos x hd;exact⟨(st+x%(n-st)).toNat,by lia,by lia,by lia⟩
 obtain⟨d,e1,m⟩:=key (v/64);obtain⟨e,e2,q⟩:=key (v/3840);obtain⟨i,o,t⟩:=key (v/230400)
 have j:∀l:AF,(∀x∈l,st<=x/\x<n)->0<l.length->l.length<4000->∃b:AF,b.Pairwise (·<·)/\(∀x∈b,st<=x/\x<n)/\0<b.length/\gA (l.map nD)=some (b.map nD):=λl r h0 s=>by
  obtain⟨b,g,f,h⟩:=Dm (n:=60) (by lia) l (λx p=>by have:=r x p;lia) s;refine⟨b,g,λx p=>r x ((f x).mp p),?_,h⟩
  cases l with
  | nil=>simp at h0
  | cons a l=>exact List.length_pos_of_mem ((f a).mpr qh)
 have cs:v%3=0\/v%3=1\/v%3=2:=by lia
 rcases cs with c|c|c
 .obtain⟨b,g,f,h,k⟩:=j [d] (by simp;exact m) (by simp) (by simp)
  exact⟨d,e,i,b,e1,e2,o,g,f,h,by rw[c];exact k⟩
 .obtain⟨b,g,f,h,k⟩:=j [d,e] (by simp;exact⟨m,q⟩) (by simp) (by simp)
  exact⟨d,e,i,b,e1,e2,o,g,f,h,by rw[c];exact k⟩
 .obtain⟨b,g,f,h,k⟩:=j [d,e,i] (by simp;exact⟨m,q,t⟩) (by simp) (by simp)
  exact⟨d,e,i,b,e1,e2,o,g,f,h,by rw[c];exact k⟩
theorem DV(c:Int){n st:Nat}(e:st<n)(z:n<=60){f:List AF}(A:0<f.length){R:List Rl}(J:R.length<=1000)(p t l G C:AR){i:AR}(F:i=some (.ow (f.map (bo n)))\/i=some (.sh (.lst (f.map (bo n))))):
 ∃(r:Rl) (u w:AR),i8 n st f r/\i0 [p,t,l,↑(.int st),i,some (.ow (R.map aE)),↑(.int ((n:Int)-st)),↑(.int c),G,C] =
  some (.nx [p,t,l,↑(.int st),↑(.lst (f.map (bo n))),some (.ow ((R++[r]).map aE)),↑(.int ((n:Int)-st)),↑(.int c),u,w]):=by
 obtain⟨v,_,o⟩:=nX c 1181783497276652981;obtain⟨b1,H,b3,b,e1,e2,k,E,q,y,s⟩:=Vo e z v;obtain⟨h,I,D,m⟩:=Vn   (by lia) (by lia) q y A (v/13824000)
 have hd:(0:Int)<n-st:=by lia
 have j:∀x,aN (.int x) (.int (n-st))=some (.int (x%(n-st))):=λx=>jE hd;refine⟨.im b h,↑(.int v),↑(.tup (b.map nD)),⟨b,h,rfl,E,q,I,D⟩,?_⟩;have a:∀d,bu (R.map aE) d=some (R.map aE++[d]):=λd=>iC (by rw[qf];lia)
 have g:(R++[Rl.im b h]).map aE=R.map aE++[aE (.im b h)]:=by rw[Qk];rfl
 rw[g];rcases F with rfl|rfl
 .simp[i0,e,o,j,e1,e2,k,s,m,a]
 .simp[i0,e,o,j,e1,e2,k,s,m,a]
def cH(ev:AH)(w:Bool)(r:cy):Bool:=decide (r.1<ev.length)&&!(aB ev r.1==w)
def cP(first:AF)(rows:List cy)(ev:AH)(w:Bool):Bool:=decide (ev.length∈first)&&rows.all λr=>!cH ev w r||decide (ev.length∈r.2)
theorem Km(p q:cy->Bool):∀rows:List cy,(rows.filter p).all (id ∘ q)=rows.all λr=>!p r||q r
 | []=>rfl
 | r::rows=>by
   rw[List.filter_cons,List.all_cons,<-Km p q rows]
   cases hb:p r with
   | true=>
     rfl
   | false=>
     rfl
theorem DW{k:Kd}:au false (br k) (.str "ifs")=some (decide (k=.i)):=by
 have h:D.str "ifs"=br .i:=rfl;rw[h,d7 (by simp) (by simp),Ao];rfl
def i9(hs:AH)(st:Nat)(first:AF)(rows:List cy)(w:Bool)(ev:AH):Prop:=
 ∀b,b<ev.length->st<=b->hs.getD b false=true->aB ev b=(cP first rows (ev.take b) w==w)
theorem DX{f:Type}(key:f->Nat):∀{rows:List f},(rows.map key).Nodup->∀{r s:f},r∈rows->s∈rows->key r=key s->r=s
 | [],_,_,_,h,_,_=>nomatch h
 | a::rows,d,r,s,g,hs,e=>by
   rw[Qd,List.nodup_cons]at d;rcases qu g with c|c
   .rcases qu hs with b|b
    .rw[c,b]
    .refine absurd ?_ d.1
     rw[<-c,e];exact List.mem_map_of_mem b
   .rcases qu hs with b|b
    .refine absurd ?_ d.1
     rw[<-b,<-e];exact List.mem_map_of_mem c
    .exact DX key d.2 c b e
def Kn{b:Type}(key:b->Nat){rows:List b}(e:(rows.map key).Nodup){r:b}(d:r∈rows):rows.find? (λa=>key a==key r)=some r:=by
 cases h:rows.find? (λa=>key a==key r)with
 | none=>
   rw[List.find?_eq_none]at h;have:=h r d;simp at this
 | some a=>
   have c:=List.find?_some h;simp at c;rw[DX key e (List.mem_of_find?_eq_some h) d c]
def Ko{b:Type}(key:b->Nat){rows:List b}{x:Nat}(d:x∉rows.map key):rows.find? (λa=>key a==x)=none:=by
 rw[List.find?_eq_none];intro a c;simp;exact λz=>d (List.mem_map.mpr ⟨a,c,z⟩)
theorem Kr{b:Type}(enc:b->D)(key:b->Nat)(h0:∀a,∃l,Yc (enc a)=some (.int (key a)::l)){rows:List b}(p:(rows.map key).Nodup){r:b}(d:r∈rows):
 mX [.tup (rows.map enc),.int (key r)]=some (enc r):=by
 have c:=dh (fc:=BM) (fe:=BN) (r:=[↑(.int (key r))]) (enc:=enc) (λa=>decide (key a=key r)) enc (l:=rows) (λa _=>by
  obtain⟨l,o⟩:=h0 a
  simp[BM,o]) (λa _ _=>by simp[BN])
 obtain⟨t,j⟩:∃t,rows.filter (λa=>decide (key a=key r))=r::t:=by
  have f:r∈rows.filter (λa=>decide (key a=key r)):=List.mem_filter.mpr ⟨d,by simp⟩
  cases e:rows.filter (λa=>decide (key a=key r))with
  | nil=>rw[e]at f;cases f
  | cons a t=>
    have i:a∈rows.filter (λa=>decide (key a=key r)):=by rw[e];exact qh
    obtain⟨n,m⟩:=Qc i
    have g:=by simpa using m
    rw[DX key p n d g];exact⟨t,rfl⟩
 rw[j]at c
 have k:bf ((r::t).map enc) 0=some (enc r):=by
  simpa using h
 rw[mX,Yg (by rfl)];simp[IK,Yd,ai,c]
def DY(r:bz):∃l,Yc (aq r)=some (.int (r.1:Nat)::l):=⟨_,rfl⟩
def c5(r:bz)(ev:AH):Bool:=match r.2.1 with
 | none=>r.2.2
 | some x=>aB ev x==r.2.2
theorem Vp{rows:List bz}(e:(rows.map (·.1)).Nodup){r:bz}(j:r∈rows){ev:AH}(f:r.1=ev.length)(i:∀x,r.2.1=some x->x<ev.length):
 rM [.tup (rows.map aq),.tup (ev.map D.bl)]=some (.bl (c5 r ev)):=by
 have d:=Kr aq (λr=>r.1) DY e j;have b:=Dy r
 have a:((ev.map D.bl).length)=r.1:=by simp[f]
 rw[rM,Yg (by rfl)];unfold c5
 cases h:r.2.1 with
 | none=>
   rw[h]at b;have c:=n4 false none;simp[BQ,Yd,a,d,b,i7,c]
 | some x=>
   rw[h]at b;have c:=n4 false (some x);have g:ax (some x)=.int x:=rfl;rw[g]at b c;simp[BQ,Yd,a,d,b,i7,(dD (i x h))]
def eu(w:String)(l:AQ):D:=.tup [.str (Str.ofString w),.tup l]
theorem Ks{k:Kd}:au false (br k) (.str "ifs")=some (decide (k=.i)):=by
 have h:D.str "ifs"=br .i:=rfl;rw[h,d7 (by simp) (by simp),Ao];rfl
theorem Vq{rows:List bz}(b:(rows.map (·.1)).Nodup){r:bz}(d:r∈rows){ev:AH}(e:r.1=ev.length)(f:∀x,r.2.1=some x->x<ev.length)(k:Kd)(R:List Rl)(c s:D):
 f_ [eu "plan" (rows.map aq),Yj k R,c,s,.tup (ev.map D.bl)]=some (.bl (c5 r ev)):=by
 have a:Yc (eu "plan" (rows.map aq))=some [.str "plan",.tup (rows.map aq)]:=rfl;rw[f_,Yg (by rfl)];simp[rR,Yd,a,(gc "plan" false),(Vp b d e f)]
theorem Vr(ns:AG){hs:AH}(hl:hs.length<=1000){st k:Nat}(G:st<=k)(Y:k<hs.length){rows:List bz}(Z:rows.length<=1000)(J N:AR):
 ∃(r:bz) (O H:AR),r.1=k/\(∀x,r.2.1=some x->x<k/\x∈aA hs st false)/\CQ [↑(.scr ns),↑(.lst (hs.map ar)),↑(.int st),some (.ow (rows.map aq)),↑(.int k),J,N] =
  some (.nx [↑(.scr ns),↑(.lst (hs.map ar)),↑(.int st),some (.ow ((rows++[r]).map aq)),↑(.int k),O,H]):=by
 have c:=jR ns (3+k) (3+(k:Int)) (by lia);generalize ns.getD (3+k) 0=x at c;obtain⟨v,R,I⟩:=nX x 2049848353892358983;have w:=l_ (a:=(st:Int)) (n:=(k:Int)) (by lia) (by lia) (by lia) (by lia);rw[fv]at w
 have Q:((k:Int)-st).toNat=k-st:=by lia
 rw[Q]at w
 have F:=dh (fc:=CO) (fe:=CP) (r:=[↑(.lst (hs.map ar))]) (enc:=λi:Nat=>D.int ((st:Int)+(i:Nat))) (λi:Nat=>hs.getD (st+i) false==false) (λi:Nat=>nD (st+i)) (l:=List.range (k-st)) (λi t=>by
  have l:st+i<hs.length:=by have:=Qb t;lia
  have M:(st:Int)+(i:Int)=((st+i:Nat):Int):=by lia
  have b:bf (hs.map ar) ((st+i:Nat):Int)=some (ar (hs.getD (st+i) false)):=by
   rw[er,fx l];simp[l]
  have L:ar false=.str "storm":=rfl;have j:au false (ar (hs.getD (st+i) false)) (ar false)=some (hs.getD (st+i) false==false):=i5 _ _;rw[L]at j;rw[M];generalize ar (hs.getD (st+i) false)=P,hs.map ar=U at *;generalize ((st+i:Nat):Int)=W at *
  simp[CO,b,j]) (λi _ _=>by simp[CP,nD])
 have hA:∀y∈((List.range (k-st)).filter λi:Nat=>hs.getD (st+i) false==false).map (st+·),y<k/\y∈aA hs st false:=λy E=>by
  obtain⟨i,t,rfl⟩:=qy E;obtain⟨V,S⟩:=Qc t;have:=Qb V;exact⟨by lia,mem_ofH.mpr ⟨by lia,by lia,by simpa using S⟩⟩
 have C:(((List.range (k-st)).filter λi:Nat=>hs.getD (st+i) false==false).map λi:Nat=>nD (st+i))=(((List.range (k-st)).filter λi:Nat=>hs.getD (st+i) false==false).map (st+·)).map nD:=by rw[Qf];rfl
 rw[C]at F
 have T:(((List.range (k-st)).filter λi:Nat=>hs.getD (st+i) false==false).map (st+·)).length<=1000:=by
  rw[qf];exact Qg (Qn _ _) (by simp;lia)
 generalize ((List.range (k-st)).filter λi:Nat=>hs.getD (st+i) false==false).map (st+·)=A at *;have a:bO (.lst (A.map nD)) (.lst [.non])=some (A.map nD++[.non]):=iB (by simp;lia)
 have m:A.map nD++[.non]=(A.map some++[none]).map ax:=by rw[Qk,Qf];rfl
 rw[m]at a
 have n:(0:Int)<((A.map some++[none]).length:Int):=by simp<;>lia
 obtain⟨o,s,e⟩:=Ag (l:=A.map some++[none]) (i:=v%((A.map some++[none]).length:Int)) (Int.emod_nonneg _ (by lia)) (Int.emod_lt_of_pos _ n)
 have b:bf ((A.map some++[none]).map ax) (v%((A.map some++[none]).length:Int))=some (ax o):=by rw[er,e];rfl
 have g:aN (.int v) (.int ((A.map some++[none]).length:Int))=some (.int (v%((A.map some++[none]).length:Int))):=jE n
 have p:(((A.map some++[none]).map ax).length:Int)=((A.map some++[none]).length:Int):=by rw[qf]
 refine⟨(k,o,decide (v/61%2=1)),↑(.int v),some (.ow ((A.map some++[none]).map ax)),rfl,λy E=>?_,?_⟩
 .have u:o=some y:=E
  subst u;rcases qw s with h|h
  .obtain⟨z,K,e⟩:=qy h
   cases e;exact hA _ K
  .simp at h
 have f:∀d:D,bu (rows.map aq) d=some (rows.map aq++[d]):=λd=>iC (by rw[qf];lia)
 have q:(rows++[((k,o,decide (v/61%2=1)):bz)]).map aq=rows.map aq++[.tup [.int k,ax o,.bl (decide (v/61%2=1))]]:=by rw[Qk];rfl
 rw[q];generalize ((A.map some++[none]).length:Int)=ll,(A.map some++[none]).map ax=X,A.map nD=AA,ax o=od,rows.map aq=RR,hs.map ar=U at *;simp[CQ,c,I,w,ai,F,a,p,g,b,f]
theorem Vs(ns:AG){hs:AH}(t:hs.length<=60){st:Nat}(i:st<=hs.length):
 ∃rows:List bz,rows.map (·.1)=aA hs st true/\(∀r∈rows,∀x,r.2.1=some x->x<r.1/\x∈aA hs st false)/\nC [.scr ns,.lst (hs.map ar),.int st]=some (.tup (rows.map aq)):=by
 have l:=sV (c:=.lst (hs.map ar)) hs rfl (by lia) st i true;simp  [ar]at l
 have d:∀x∈aA hs st true,st<=x/\x<hs.length:=λx b=>⟨(mem_ofH.mp b).2.1,(mem_ofH.mp b).1⟩
 have w:(aA hs st true).length<=60:=Qg (Qn _ _) (by simpa using t);generalize aA hs st true=K at *
 obtain⟨ρ',e1,rows,j,g,f,a,c,rfl⟩:=d8 (gt:=ah 4)  nD (λh ρ=>∃(rows:List bz) (j g f:AR),rows.map (·.1)=h/\(∀r∈rows,∀x,r.2.1=some x->x<r.1/\x∈aA hs st false)/\
  ρ=[↑(.scr ns),↑(.lst (hs.map ar)),↑(.int st),some (.ow (rows.map aq)),j,g,f]) K []
  [↑(.scr ns),↑(.lst (hs.map ar)),↑(.int st),some (.ow []),none,none,none] ⟨[],_,_,_,rfl,by simp,rfl⟩ (by
   rintro q k r ρ e ⟨rows,j,g,f,a,c,rfl⟩
   have m:k∈K:=by rw[Qj]at e;rw[e];simp
   have n:q.length<=60:=by
    have:=congrArg List.length e;simp at this;lia
   have s:=by rw[<-a]at n;simpa using n
   obtain⟨v,y,z,o,u,p⟩:=Vr ns  (by lia) (d k m).1 (d k m).2 (rows:=rows) (by lia) g f;refine⟨_,_,rfl,p,rows++[v],_,_,_,by simp[a,o],λx b=>?_,rfl⟩;rcases qw b with b|b
   .exact c x b
   .rw[List.mem_singleton]at b
    subst b;rw[o]
    exact u)
 refine⟨rows,a,c,?_⟩;rw[nC,Yg (by rfl)];simp[Js,Yd,l,e1]
def gU(e:d0):D:=match e.1 with
 | none=>.bl e.2
 | some x=>aj (x,e.2)
def DZ(s:cv)(d:D)(rows:List bz)(ρ:Ro):Option bz->Prop
 | none=>∃b a c:AR,M.forM (gI 2 3 4) Ym (rows.map aq) ρ=some (.nx [↑d,↑(aj s),b,a,c])
 | some r=>M.forM (gI 2 3 4) Ym (rows.map aq) ρ=some (.rt (gU (r.2.1,s.2==r.2.2)))
theorem Kt(s:cv)(c:D):∀(rows:List bz) (g e f:AR),DZ s c rows [↑c,↑(aj s),g,e,f] (rows.find? (λr=>r.1==s.1))
 | [],g,e,f=>⟨g,e,f,rfl⟩
 | r::rows,g,e,f=>by
   rw[List.find?_cons];have i:=n4 false r.2.1
   cases hb:(r.1==s.1)with
   | false=>
     have k:=by simpa using hb
     have h:=Kt s c rows (↑(.int r.1)) (↑(ax r.2.1)) (↑(.bl r.2.2))
     have a:Ym [↑c,↑(aj s),↑(.int r.1),↑(ax r.2.1),↑(.bl r.2.2)]=some (.nx [↑c,↑(aj s),↑(.int r.1),↑(ax r.2.1),↑(.bl r.2.2)]):=by
      simp[Ym,k]
     have d:M.forM (gI 2 3 4) Ym ((r::rows).map aq) [↑c,↑(aj s),g,e,f]=M.forM (gI 2 3 4) Ym (rows.map aq) [↑c,↑(aj s),↑(.int r.1),↑(ax r.2.1),↑(.bl r.2.2)]:=by
      show(Ym [↑c,↑(aj s),↑(.int r.1),↑(ax r.2.1),↑(.bl r.2.2)]).bind _=_;rw[a];rfl
     cases l:rows.find? (λr=>r.1==s.1)with
     | none=>
       rw[l]at h;obtain⟨n,p,o,h⟩:=h;exact⟨n,p,o,by rw[d];exact h⟩
     | some t=>
       rw[l]at h;show M.forM (gI 2 3 4) Ym ((r::rows).map aq) _=_;rw[d];exact h
   | true=>
     have m:=by simpa using hb
     show(Ym [↑c,↑(aj s),↑(.int r.1),↑(ax r.2.1),↑(.bl r.2.2)]).bind _=_
     have a:Ym [↑c,↑(aj s),↑(.int r.1),↑(ax r.2.1),↑(.bl r.2.2)]=some (.rt (gU (r.2.1,s.2==r.2.2))):=by
      have b:(r.2.2==s.2)=(s.2==r.2.2):=by cases r.2.2<;>cases s.2<;>rfl
      unfold gU
      cases h:r.2.1 with
      | none=>
        rw[h]at i;simp[Ym,m,i,b]
      | some x=>
        rw[h]at i;have q:ax (some x)=.int x:=rfl;rw[q]at i ⊢;have j:aj (x,s.2==r.2.2)=.tup [.int x,.bl (s.2==r.2.2)]:=rfl;dsimp only;rw[j];simp[Ym,m,b]
     rw[a];rfl
theorem Ku(rows:List bz)(s:cv):nE [.tup (rows.map aq),aj s]=some (gU (Yw rows s)):=by
 have h:=Kt s (.tup (rows.map aq)) rows none none none;rw[nE,Yg (by rfl)];have a:Yd 5 [.tup (rows.map aq),aj s]=[↑(.tup (rows.map aq)),↑(aj s),none,none,none]:=rfl;rw[a];unfold Yw
 cases b:rows.find? (λr=>r.1==s.1)with
 | none=>
   rw[b]at h;obtain⟨e,d,f,h⟩:=h;have c:gU (some s.1,s.2)=aj s:=rfl;rw[c];simp[CS,h]
 | some r=>
   rw[b]at h;replace h:M.forM (gI 2 3 4) Ym (rows.map aq) [↑(.tup (rows.map aq)),↑(aj s),none,none,none]=some (.rt (gU (r.2.1,s.2==r.2.2))):=h;simp[CS,h]
def D0(k:Bool)(e:d0):bQ k (gU e)=decide (e=(none,k)):=by
 obtain⟨o,b⟩:=e
 cases o with
 | none=>
   cases b<;>cases k<;>rfl
 | some x=>
   show false=_;simp
theorem D1{rows:List bz}{l:AY}{a b:cv}(h:∀x,x∈l↔x=a\/x=b)(d:Yw rows a=(none,true)\/Yw rows b=(none,true)\/gP (Yw rows a)=Yw rows b):d3 (l.map (Yw rows))=true:=by
 have c:Yw rows a∈l.map (Yw rows):=List.mem_map_of_mem ((h a).mpr (.inl rfl));have hb:Yw rows b∈l.map (Yw rows):=List.mem_map_of_mem ((h b).mpr (.inr rfl));unfold d3;rw[List.any_eq_true];rcases d with z|z|z
 .exact⟨_,c,by simp[z]⟩
 .exact⟨_,hb,by simp[z]⟩
 .refine⟨_,c,?_⟩
  rw[Bool.or_eq_true];exact .inr (wj (by rw[z];exact hb))
def od(l:AF)(E:AJ):Bool:=decide ((l.filter E).length%2=1)
def D2(E:AJ):od [] E=false:=rfl
theorem gW(a:Nat)(l:AF)(E:AJ):od (a::l) E=(E a != od l E):=by
 unfold od;grind
def s_(h:∀x∈l,E x=F x):od l E=od l F:=by
 unfold od;rw[List.filter_congr h]
theorem tf(h:∀x∈l,E x=false):od l E=false:=by
 unfold od;rw[List.filter_eq_nil_iff.mpr λx a=>by grind];rfl
theorem D3:∀{l:AF},l.Nodup->∀y:Nat,od l (λx=>decide (y=x))=decide (y∈l)
 | [],_,y=>by simp[D2]
 | a::l,h,y=>by
   rw[List.nodup_cons]at h;rw[gW,D3 h.2];grind
def xr(T E:AJ):Bool:=od (List.range 60) (λx=>T x&&E x)
theorem n7(f g:AJ):∀l:AF,od l (λx=>f x != g x)=(od l f != od l g)
 | []=>rfl
 | a::l=>by
   rw[gW,gW,gW,n7 f g l];cases f a<;>cases g a<;>cases od l f<;>cases od l g<;>rfl
theorem n8(T S E:AJ):xr (λx=>T x != S x) E=(xr T E != xr S E):=by
 unfold xr;rw[<-n7];grind
theorem D4(b:a<60)(E:AJ):xr (λx=>decide (x=a)) E=E a:=by
 unfold xr
 have h:od (List.range 60) (λx=>decide (x=a)&&E x)=od (List.range 60) (λx=>decide (a=x)&&E a):=s_ λx _=>by
  grind
 rw[h]
 cases E a with
 | false=>exact tf λx _=>by simp
 | true=>
   have c:od (List.range 60) (λx=>decide (a=x)&&true)=od (List.range 60) (λx=>decide (a=x)):=s_ λx _=>by simp
   rw[c,D3 List.nodup_range];simp[b]
theorem Kv(E:AJ):∀{l:AF},l.Nodup->(∀x∈l,x<60)->xr (λx=>decide (x∈l)) E=od l E
 | [],_,_=>tf λx _=>by simp
 | a::l,b,c=>by
   rw[List.nodup_cons]at b
   have e:(λx=>decide (x∈a::l))=λx=>decide (x=a)!=decide (x∈l):=funext λx=>by
    by_cases h:x=a
    .subst h
     simp[b.1]
    .simp[h]
   rw[e,n8,D4 (c a (by simp)),Kv E b.2 λx d=>c x (by simp[d]),gW]
theorem i_(f E:AJ):od (fl 60 f) E=xr f E:=by
 unfold od xr od fl;rw[List.filter_filter];grind
inductive Lin (rows:List a8):(AJ)->Bool->Prop
 | zero:Lin rows (λ_=>false) false
 | add {f:AJ}{o:Bool} (h:Lin rows f o) {r:a8} (hr:r∈rows):Lin rows (λx=>f x != decide (x∈r.1::r.2.1)) (o != r.2.2)
structure SumRows(rows:List a8):Prop where
 nd:(rows.map (·.1)).Nodup
 pw:∀r∈rows,r.2.1.Pairwise (·<·)
 lt:∀r∈rows,∀y∈r.2.1,y<r.1
 out:∀r∈rows,∀y∈r.2.1,y∉rows.map (·.1)
 bd:∀r∈rows,r.1<60
def SumRows.mine{rows:List a8}(h:SumRows rows){r:a8}(c:r∈rows):(r.1::r.2.1).Nodup/\∀x∈r.1::r.2.1,x<60:=by
 have e:=h.lt r c;have d:=h.bd r c;refine⟨List.nodup_cons.mpr ⟨λz=>Nat.lt_irrefl _ (e _ z),(h.pw r c).imp λa=>qm a⟩,λx b=>?_⟩;rcases qu b with rfl|b
 .exact d
 .exact Nat.lt_trans (e x b) d
theorem Lin.xr{rows:List a8}(b:SumRows rows){E:AJ}{q:a8->Bool}(c:∀r∈rows,(E r.1 != od r.2.1 E)=q r):∀{f:AJ}{o:Bool},Lin rows f o->∀{z:Bool},(∀{f:AJ}{o:Bool},Lin rows f o->True)->(z=true->∀r∈rows,q r=r.2.2)->(z=false->∀r∈rows,q r=false)->Lw.xr f E=(z&&o)
 | _,_,.zero,z,_,_,_=>by
   rw[Bool.and_false]
   exact tf λx _=>by simp
 | _,_,.add h a,z,j,e,d=>by
   obtain⟨g,i⟩:=b.mine a;rw[n8,Kv E g i,gW,c _ a,Lin.xr b c h j e d]
   cases z with
   | true=>rw[e rfl _ a];rfl
   | false=>rw[d rfl _ a];rfl
def Kw{rows:List a8}(a:(rows.map (·.1)).Nodup){r:a8}(b:r∈rows):d_ rows r.1=r:=by
 unfold d_;rw[Kn (λr=>r.1) a b];rfl
def Kx(a:x∉rows.map (·.1)):d_ rows x=(x,[x],false):=by
 unfold d_;rw[Ko (λr:a8=>r.1) a];rfl
theorem D5(rows:List a8):∀(l:AF) (a:Sm),(∀y,(l.foldl (eW rows) a).1 y=(a.1 y != od l (λx=>(c7 rows x).1 y)))/\(l.foldl (eW rows) a).2=(a.2 != od l (λx=>(c7 rows x).2))
 | [],a=>⟨λy=>by rw[D2];grind,by rw[D2];grind⟩
 | x::l,a=>by
   obtain⟨b,c⟩:=D5 rows l (eW rows a x);refine⟨λy=>?_,?_⟩
   .rw[List.foldl_cons,b y,gW]
    show((a.1 y != (c7 rows x).1 y)!=_)=_;grind
   .rw[List.foldl_cons,c,gW]
    show((a.2 != (c7 rows x).2)!=_)=_;grind
theorem D6{rows:List a8}(a:SumRows rows){f:AJ}{o:Bool}(h:Lin rows f o):gR rows (f,o)=true:=by
 have d:∀y,(bx rows (fl 60 f)).1 y=false:=λy=>by
  unfold bx;rw[(D5 rows (fl 60 f) _).1 y,i_]
  have:=Lin.xr a (E:=λx=>(c7 rows x).1 y)  (λr b=>by
   have e1:(c7 rows r.1).1 y=decide (y∈r.2.1):=by unfold c7;rw[Kw a.nd b]
   have e2:od r.2.1 (λx=>(c7 rows x).1 y)=od r.2.1 (λx=>decide (y=x)):=s_ λx c=>by
    unfold c7;rw[Kx (a.out r b x c)];simp
   rw[e1,e2,D3 (List.nodup_cons.mp (a.mine b).1).2]
   simp) h (z:=false) (λ_=>trivial) (λz=>by cases z) (λ_ _ _=>rfl)
  rw[this];rfl
 have e:(bx rows (fl 60 f)).2=o:=by
  unfold bx;rw[(D5 rows (fl 60 f) _).2,i_]
  have:=Lin.xr a (E:=λx=>(c7 rows x).2)  (λr b=>by
   have e1:(c7 rows r.1).2=r.2.2:=by unfold c7;rw[Kw a.nd b]
   have e2:od r.2.1 (λx=>(c7 rows x).2)=false:=tf λx c=>by
    unfold c7;rw[Kx (a.out r b x c)]
   rw[e1,e2]
   simp) h (z:=true) (λ_=>trivial) (λ_ _ _=>rfl) (λz=>by cases z)
  rw[this];simp
 unfold gR;rw[Qe];refine⟨wj ?_,by rw[e];simp⟩;rw[List.filter_eq_nil_iff];intro x _;rw[d x];exact qi
def cQ(r:a8)(ev:AH):Bool:=od r.2.1 (aB ev)!=r.2.2
theorem D7{rows:List a8}(b:SumRows rows){ev:AH}(a:∀r∈rows,aB ev r.1=cQ r ev){f:AJ}{o:Bool}(h:Lin rows f o):so .s ev (.su (fl 60 f) o)=true:=by
 have:=Lin.xr b (E:=aB ev)  (λr c=>by
  rw[a r c];unfold cQ
  cases od r.2.1 (aB ev)<;>cases r.2.2<;>rfl) h (z:=true) (λ_=>trivial) (λ_ _ _=>rfl) (λz=>by cases z)
 rw[<-i_]at this;show(od (fl 60 f) (aB ev)==o)=true;rw[this];simp
def D8(r:a8):∃l,Yc (ay r)=some (.int (r.1:Nat)::l):=⟨_,rfl⟩
theorem Vt{b:AF}{ev:AH}(h:∀x∈b,x<ev.length):rL [.tup (b.map nD),.tup (ev.map D.bl)]=some (.bl (od b (aB ev))):=by
 have d:=dh (fc:=BO) (fe:=BP) (r:=[↑(.tup (ev.map D.bl))]) (enc:=nD) (aB ev) nD  (λx c=>by
  have a:=dD (h x c)
  simp[BO,a]) (λx _ _=>by simp[BP])
 rw[rL,Yg (by rfl)];unfold od;generalize b.filter (aB ev)=F at *
 have hd:decide ((F.length:Int)%2=1)=decide (F.length%2=1):=by
  by_cases z:F.length%2=1
  .have:(F.length:Int)%2=1:=by lia
   simp[z,this]
  .have:¬(F.length:Int)%2=1:=by lia
   simp[z,this]
 rw[<-hd];simp[IM,Yd,ai,d]
theorem Vu{rows:List a8}(b:(rows.map (·.1)).Nodup){r:a8}(c:r∈rows){ev:AH}(d:r.1=ev.length)(e:∀x∈r.2.1,x<ev.length):
 rN [.tup (rows.map ay),.tup (ev.map D.bl)]=some (.bl (cQ r ev)):=by
 have a:((ev.map D.bl).length)=r.1:=by simp[d]
 rw[rN,Yg (by rfl)];unfold cQ;simp[IR,Yd,a,(Kr ay (λr=>r.1) D8 b c),DG,(Vt e),bne]
theorem Vv{rows:List a8}(g:(rows.map (·.1)).Nodup){r:a8}(f:r∈rows){ev:AH}(e:r.1=ev.length)(d:∀x∈r.2.1,x<ev.length)(k:Kd)(R:List Rl)(c s:D):
 f_ [eu "sums" (rows.map ay),Yj k R,c,s,.tup (ev.map D.bl)]=some (.bl (cQ r ev)):=by
 have b:Yc (eu "sums" (rows.map ay))=some [.str "sums",.tup (rows.map ay)]:=rfl;rw[f_,Yg (by rfl)];simp[rR,Yd,b,(gb (a:="sums") (b:="plan") (by decide +kernel) false),(gc "sums" false),(Vu g f e d)]
theorem Vw(ns:AG){hs:AH}(R:hs.length<=900){st k:Nat}(z:st<=k)(Q:k<hs.length){rows:List a8}(P:rows.length<=1000)(M C:AR):
 ∃(r:a8) (G I:AR),r.1=k/\r.2.1.Pairwise (·<·)/\(∀x∈r.2.1,x<k/\x∈aA hs st false)/\CV [↑(.scr ns),↑(.lst (hs.map ar)),↑(.int st),some (.ow (rows.map ay)),↑(.int k),M,C] =
  some (.nx [↑(.scr ns),↑(.lst (hs.map ar)),↑(.int st),some (.ow ((rows++[r]).map ay)),↑(.int k),G,I]):=by
 have c:=jR ns (3+k) (3+(k:Int)) (by lia);generalize ns.getD (3+k) 0=x at c;obtain⟨ev,N,J⟩:=jS x (k+1) (by lia)
 have t:fB [.int x,.int ((k:Int)+1)]=some (.lst (ev.map D.bl)):=by
  have e:((k+1:Nat))=(k:Int)+1:=by lia
  rw[<-e];exact J
 have p:=l_ (a:=(st:Int)) (n:=(k:Int)) (by lia) (by lia) (by lia) (by lia);rw[fv]at p
 have L:((k:Int)-st).toNat=k-st:=by lia
 rw[L]at p
 have v:=dh (fc:=CT) (fe:=CU) (r:=[↑(.lst (hs.map ar)),↑(.lst (ev.map D.bl))]) (enc:=λi:Nat=>D.int ((st:Int)+(i:Nat))) (λi:Nat=>(hs.getD (st+i) false==false)&&aB ev (st+i)) (λi:Nat=>nD (st+i)) (l:=List.range (k-st)) (λi l=>by
  have j:st+i<hs.length:=by have:=Qb l;lia
  have u:st+i<ev.length:=by have:=Qb l;lia
  have F:(st:Int)+(i:Int)=((st+i:Nat)):=by lia
  have s:bf (hs.map ar) ((st+i:Nat))=some (ar (hs.getD (st+i) false)):=by
   rw[er,fx j];simp[j]
  have a:=dD u;have E:ar false=.str "storm":=rfl;have f:au false (ar (hs.getD (st+i) false)) (ar false)=some (hs.getD (st+i) false==false):=i5 _ _;rw[E]at f;rw[F];generalize ar (hs.getD (st+i) false)=K,(hs.getD (st+i) false==false)=o at *;generalize ((st+i:Nat))=S at *
  cases o<;>simp[CT,s,a,f]) (λi _ _=>by simp[CU,nD])
 have hA:∀y∈((List.range (k-st)).filter λi:Nat=>(hs.getD (st+i) false==false)&&aB ev (st+i)).map (st+·),y<k/\y∈aA hs st false:=λy H=>by
  obtain⟨i,l,rfl⟩:=qy H;obtain⟨O,w⟩:=Qc l;have:=Qb O;rw[Qe]at w;exact⟨by lia,mem_ofH.mpr ⟨by lia,by lia,by simpa using w.1⟩⟩
 have n:(((List.range (k-st)).filter λi:Nat=>(hs.getD (st+i) false==false)&&aB ev (st+i)).map (st+·)).Pairwise (·<·):=by
  rw[List.pairwise_map]
  exact(List.Pairwise.filter _ List.pairwise_lt_range).imp λh=>by lia
 have q:(((List.range (k-st)).filter λi:Nat=>(hs.getD (st+i) false==false)&&aB ev (st+i)).map λi:Nat=>nD (st+i))=(((List.range (k-st)).filter λi:Nat=>(hs.getD (st+i) false==false)&&aB ev (st+i)).map (st+·)).map nD:=by rw[Qf];rfl
 rw[q]at v;generalize ((List.range (k-st)).filter λi:Nat=>(hs.getD (st+i) false==false)&&aB ev (st+i)).map (st+·)=A at *;have g:=dD (ev:=ev) (n:=k) (by lia);refine⟨(k,A,aB ev k),↑(.lst (ev.map D.bl)),some (.ow (A.map nD)),rfl,n,hA,?_⟩;have b:∀d:D,bu (rows.map ay) d=some (rows.map ay++[d]):=λd=>iC (by rw[qf];lia)
 have m:(rows++[((k,A,aB ev k))]).map ay=rows.map ay++[.tup [.int k,.tup (A.map nD),.bl (aB ev k)]]:=by rw[Qk];rfl
 rw[m];simp[CV,c,t,p,ai,v,g,b]
theorem Vx(ns:AG){hs:AH}(y:hs.length<=60){st:Nat}(i:st<=hs.length):
 ∃rows:List a8,rows.map (·.1)=aA hs st true/\(∀r∈rows,r.2.1.Pairwise (·<·)/\∀x∈r.2.1,x<r.1/\x∈aA hs st false)/\nH [.scr ns,.lst (hs.map ar),.int st]=some (.tup (rows.map ay)):=by
 have l:=sV (c:=.lst (hs.map ar)) hs rfl (by lia) st i true;simp  [ar]at l
 have d:∀x∈aA hs st true,st<=x/\x<hs.length:=λx b=>⟨(mem_ofH.mp b).2.1,(mem_ofH.mp b).1⟩
 have s:(aA hs st true).length<=60:=Qg (Qn _ _) (by simpa using y);generalize aA hs st true=K at *
 obtain⟨ρ',e1,rows,j,g,f,a,c,rfl⟩:=d8 (gt:=ah 4)  nD (λh ρ=>∃(rows:List a8) (j g f:AR),rows.map (·.1)=h/\(∀r∈rows,r.2.1.Pairwise (·<·)/\∀x∈r.2.1,x<r.1/\x∈aA hs st false)/\
  ρ=[↑(.scr ns),↑(.lst (hs.map ar)),↑(.int st),some (.ow (rows.map ay)),j,g,f]) K []
  [↑(.scr ns),↑(.lst (hs.map ar)),↑(.int st),some (.ow []),none,none,none] ⟨[],_,_,_,rfl,by simp,rfl⟩ (by
   rintro q k r ρ e ⟨rows,j,g,f,a,c,rfl⟩
   have m:k∈K:=by rw[Qj]at e;rw[e];simp
   have n:q.length<=60:=by
    have:=congrArg List.length e;simp at this;lia
   have v:=by rw[<-a]at n;simpa using n
   obtain⟨w,z,A,o,u,t,p⟩:=Vw ns  (by lia) (d k m).1 (d k m).2 (rows:=rows) (by lia) g f;refine⟨_,_,rfl,p,rows++[w],_,_,_,by simp[a,o],λx b=>?_,rfl⟩;rcases qw b with b|b
   .exact c x b
   .rw[List.mem_singleton]at b
    subst b;rw[o]
    exact⟨u,t⟩)
 refine⟨rows,a,c,?_⟩;rw[nH,Yg (by rfl)];simp[Jy,Yd,l,e1]
theorem gh{l:AF}(b:l.Nodup)(h:∀x∈l,x<60):l.length<=60:=by
 have c:l.Perm (fl 60 λx=>decide (x∈l)):=(List.perm_ext_iff_of_nodup b (List.nodup_range.filter _)).mpr λx=>by
  rw[Ql,List.mem_range];exact⟨λa=>⟨h x a,by simpa using a⟩,λa=>by simpa using a.2⟩
 rw[c.length_eq];exact Qg (Qn _ _) (by simp)
theorem D9{rows:List a8}(Y:SumRows rows){f:AH}(hb:f.length=rows.length){i:Nat}(W:i<rows.length){d:AF}(w:d.Nodup)(F:∀x∈d,x<60){o:Bool}(K:Lin rows (λx=>decide (x∈d)) o)(L M:AR):
 ∃(h:AF) (N:Bool) (R U:AR),h.Nodup/\(∀x∈h,x<60)/\Lin rows (λx=>decide (x∈h)) N/\
  sE [↑(.tup (rows.map ay)),↑(.lst (f.map D.bl)),↑(.bl o),some (.ow (d.map nD)),↑(.int (i:Int)),L,M] =
  some (.nx [↑(.tup (rows.map ay)),↑(.lst (f.map D.bl)),↑(.bl N),some (.ow (h.map nD)),↑(.int (i:Int)),R,U]):=by
 have g:=dD (ev:=f) (n:=i) (by lia)
 cases t:aB f i with
 | false=>
   rw[t]at g;refine⟨d,o,L,M,w,F,K,?_⟩;simp[sE,g]
 | true=>
   rw[t]at g;obtain⟨r,H,m⟩:=Ag (l:=rows) (i:=(i:Int)) (by lia) (by lia)
   have C:bf (rows.map ay) (i:Int)=some (ay r):=by rw[er,m];rfl
   have A:=DE r;obtain⟨J,I⟩:=Y.mine H;have T:=gh w F;have E:=gh J I;have G:eC [.tup (r.2.1.map nD)]=some (r.2.1.map nD):=rfl
   have p:bO (.lst [.int r.1]) (.lst (r.2.1.map nD))=some ((r.1::r.2.1).map nD):=by
    rw[iB (by simp at E ⊢;lia)];rfl
   have n:=dh (fc:=CW) (fe:=CY) (r:=[↑(.lst (d.map nD))]) (enc:=nD) (λx=>decide (x∈d)) nD (l:=r.1::r.2.1) (λx _=>by
    have y:=cw (c:=.lst (d.map nD)) x d false rfl
    simp[CW,y]) (λx _ _=>by simp[CY])
   generalize l:r.1::r.2.1=c at *
   have k:bO (.lst (d.map nD)) (.lst (c.map nD))=some ((d++c).map nD):=by
    rw[iB (by simp;lia),Qk]
   have q:=dh (fc:=CZ) (fe:=C0) (r:=[↑(.lst ((c.filter λx=>decide (x∈d)).map nD))]) (enc:=nD) (λx=>!decide (x∈c.filter λx=>decide (x∈d))) nD (l:=d++c) (λx _=>by
    have y:=cw (c:=.lst ((c.filter λx=>decide (x∈d)).map nD)) x (c.filter λx=>decide (x∈d)) true rfl
    simp only[CZ,iy,Ak,Aj,qd,y,nD,if_true]) (λx _ _=>by simp[C0])
   have s:∀x,x∈(d++c).filter (λx=>!decide (x∈c.filter λx=>decide (x∈d)))↔(x∈d\/x∈c)/\¬(x∈c/\x∈d):=λx=>by
    rw[Ql];by_cases u:x∈d<;>by_cases v:x∈c<;>simp[Ql,u,v]
   refine⟨(d++c).filter (λx=>!decide (x∈c.filter λx=>decide (x∈d))),o != r.2.2,↑(.lst (c.map nD)),↑(.lst ((c.filter λx=>decide (x∈d)).map nD)),?_,λx S=>?_,?_,?_⟩
   .rw[List.filter_append,List.nodup_append]
    refine⟨w.filter _,J.filter _,λa Q b hb e=>?_⟩;subst e;obtain⟨u,v⟩:=Qc Q;have O:=(Qc hb).1;simp[Ql,u,O]at v
   .rcases((s x).mp S).1 with z|z
    .exact F x z
    .exact I x z
   .have j:=Lin.add K H
    rw[l]at j
    have e:(λx=>decide (x∈(d++c).filter (λx=>!decide (x∈c.filter λx=>decide (x∈d)))))=λx=>decide (x∈d)!=decide (x∈c):=funext λx=>by
     by_cases u:x∈d<;>by_cases v:x∈c<;>simp[u,v]
    rw[e];exact j
   .generalize (d++c).filter (λx=>!decide (x∈c.filter λx=>decide (x∈d)))=V at *
    generalize (d++c).map nD=X at *;simp[sE,g,C,A,DF,DG,G,p,ai,n,k,q,bne]
theorem Vy{rows:List a8}(v:SumRows rows)(H:rows.length<=1000){a:AH}(hb:a.length=rows.length):
 ∃(f:AJ) (o:Bool),Lin rows f o/\sF [.tup (rows.map ay),.lst (a.map D.bl)]=some (cx (f,o)):=by
 have t:=l9 (n:=rows.length) (by lia) (by lia);rw[fv]at t
 obtain⟨ρ',e1,b,o,m,h,d,c,g,n,rfl⟩:=d8 (gt:=ah 4)  (λi=>D.int ((i:Nat))) (λA ρ=>∃(b:AF) (o:Bool) (m h d:AR),b.Nodup/\(∀x∈b,x<60)/\Lin rows (λx=>decide (x∈b)) o/\
  ρ=[↑(.tup (rows.map ay)),↑(.lst (a.map D.bl)),↑(.bl o),some (.ow (b.map nD)),m,h,d]) (List.range rows.length) []
  [↑(.tup (rows.map ay)),↑(.lst (a.map D.bl)),↑(.bl false),some (.ow []),none,none,none] ⟨[],false,_,_,_,List.nodup_nil,by simp,by simpa using Lin.zero,rfl⟩ (by
   rintro q i r ρ e ⟨b,o,m,h,d,c,g,n,rfl⟩;rw[Qj]at e;have w:i<rows.length:=Qb (by rw[e];simp);obtain⟨k,C,I,G,E,u,z,F⟩:=D9 v hb w c g n h d
   exact⟨_,_,rfl,F,k,C,_,_,_,E,u,z,rfl⟩)
 obtain⟨l,s,j,hs⟩:=U3 b c (by have:=gh c g;lia);refine⟨λx=>decide (x∈l),o,?_,?_⟩
 .have e:(λx=>decide (x∈l))=λx=>decide (x∈b):=funext λx=>decide_eq_decide.mpr s.mem_iff
  rw[e];exact n
 rw[<-n0 j (λx y=>g x (s.mem_iff.mp y)) o,sF,Yg (by rfl)];have p:Yd 7 [.tup (rows.map ay),.lst (a.map D.bl)]=[↑(.tup (rows.map ay)),↑(.lst (a.map D.bl)),none,none,none,none,none]:=rfl;rw[p];simp[JA,t,e1,hs]
def aL(b:Bool):D:=.str (Str.ofString (if b then "keeper" else "storm"))
abbrev cz(k:Kd)(R:List Rl)(H ev:AH):D:=aU (Yj k R) (.tup (H.map aL)) (.lst (ev.map D.bl))
@[simp] theorem Ky(b h x:D):aT "Watch" "book" (aU b h x)=some b:=nr rfl
@[simp] theorem Kz(b h x:D):aT "Watch" "hands" (aU b h x)=some h:=nr rfl
@[simp] theorem KA(b h x:D):aT "Watch" "truths" (aU b h x)=some x:=nr rfl
def n9(m:Str)(c:m∉jI)(a:AQ->Option D)(b h x:D):a7 "Watch" m a (aU b h x)=a [aU b h x]:=if_pos ⟨rfl,c⟩
def jW(H ev:AH):D:=match H[ev.length]? with
 | some b=>aL b
 | none=>.non
def n_{H ev:AH}(h:ev.length<H.length):jW H ev=aL (H[ev.length]):=by
 unfold jW;rw[qr h]
theorem D_{H ev:AH}(h:¬ev.length<H.length):jW H ev=.non:=by
 unfold jW;rw[List.getElem?_eq_none (by lia)]
theorem tj{k:Kd}{R:List Rl}{H ev:AH}(h:ev.length<=H.length):Yn [cz k R H ev]=some (jW H ev):=by
 rw[Yn,Yg (by rfl)];have c:Yd 1 [cz k R H ev]=[↑(cz k R H ev)]:=rfl;rw[c];by_cases e:ev.length=H.length
 .rw[D_ (by lia)]
  simp[BZ,e]
 .have a:ev.length<H.length:=by lia
  rw[n_ a]
  have d:¬(ev.length=(H.length:Int)):=by lia
  have b:bf (H.map aL) ev.length=some (aL (H[ev.length])):=by
   rw[er,fx a];rfl
  simp[BZ,d,b]
theorem Ea(k:Kd)(R:List Rl)(H ev:AH):Yq [cz k R H ev]=some (.tup (ev.map D.bl)):=by
 rw[Yq,Yg (by rfl)];have a:Yd 1 [cz k R H ev]=[↑(cz k R H ev)]:=rfl;rw[a];simp[IU]
def cR(k:Kd)(n:Nat)(r:Rl):Prop:=In k n r/\fy r
def cI(k:Kd)(R:List Rl)(H ev:AH):D:=if ev.length<H.length then .non else .str (Str.ofString (if brk k ev R=[]then "keeper" else "storm"))
def oa(k:Kd)(R:List Rl)(H ev:AH):pz (cI k R H ev)=true:=by
 unfold cI
 split<;>rfl
theorem Eb{k:Kd}{R:List Rl}{H ev:AH}(h:ev.length<=H.length)(g:∀r∈R,cR k H.length r/\sz r<=9999):Yt [cz k R H ev]=some (cI k R H ev):=by
 rw[Yt,Yg (by rfl)];have c:Yd 1 [cz k R H ev]=[↑(cz k R H ev)]:=rfl;rw[c];have a:=n9 "turn" (by decide) Yn (Yj k R) (.tup (H.map aL)) (.lst (ev.map D.bl));rw[(tj (k:=k) (R:=R) h)]at a;by_cases b:ev.length<H.length
 .rw[n_ b]at a
  have e:cb true (aL H[ev.length]) .non=some true:=rfl;simp[rT,a,e,cI,b]
 .rw[D_ b]at a
  have d:=J0 (c:=.lst (ev.map D.bl))  rfl   (λr f=>by rw[show ev.length=H.length by lia];exact(g r f).1.1);by_cases hb:brk k ev R=[]
  .simp[rT,a,d,cI,b,hb]
  .simp[rT,a,d,cI,b,hb]
def oe(k:Kd):Nat->AH->List Rl->List Rl
 | _,[],R=>R
 | i,b::ev,R=>oe k (i+1) ev (R.filterMap (cA k i b))
theorem Ec{k:Kd}{n b:Nat}{lit:Bool}{r q:Rl}(c:cR k n r)(h:cA k b lit r=some q):cR k n q/\sz q<=sz r:=by
 have a:aB (List.replicate (b+1) lit) b=lit:=by simp[aB]
 obtain⟨_,_,_,d,e,f⟩:=OU   c.1 c.2 (by rw[a];exact h);exact⟨⟨d,e⟩,f⟩
def Vz{k:Kd}{n b:Nat}{lit:Bool}{R:List Rl}(c:∀r∈R,cR k n r/\sz r<=9999):∀r∈R.filterMap (cA k b lit),cR k n r/\sz r<=9999:=λq f=>by
 obtain⟨r,a,h⟩:=List.mem_filterMap.mp f;obtain⟨d,e⟩:=Ec (c r a).1 h;exact⟨d,Qg e (c r a).2⟩
def jX(i:Nat):AH->AQ
 | []=>[]
 | b::ev=>.tup [.int i,.bl b]::jX (i+1) ev
theorem og:∀(ev:AH) (i:Nat),jX i ev=(List.range ev.length).map λj:Nat=>D.tup [.int ((i:Int)+(j:Int)),.bl (ev.getD j false)]
 | [],_=>rfl
 | b::ev,i=>by
   rw[jX,qt,List.range_succ_eq_map,Qd,Qf,og ev (i+1)]
   congr 1
   refine Qq λj _=>?_
   have a:((i+1:Nat))+(j:Int)=i+((j+1)):=by lia
   rw[a];rfl
def Ed(ev:AH):fm (ev.map D.bl)=jX 0 ev:=by
 rw[HN D.bl false ev,og ev 0];simp
theorem KC{k:Kd}{n:Nat}{y0:AR}:∀(ev:AH) (i:Nat) (R:List Rl) (a c:AR),(∀r∈R,cR k n r/\sz r<=9999)->∃d g,M.forM (fj 2 3) sO (jX i ev) [y0,↑(Yj k R),a,c]=some (.nx [y0,↑(Yj k (oe k i ev R)),d,g])
 | [],i,R,a,c,_=>⟨a,c,rfl⟩
 | b::ev,i,R,a,c,h=>by
   obtain⟨d,g,e⟩:=KC  ev (i+1) _ (↑(.int i)) (↑(.bl b)) (Vz   h);refine⟨d,g,?_⟩;rw[jX,M.forM];have j:fj 2 3 (.tup [.int i,.bl b]) [y0,↑(Yj k R),a,c]=some [y0,↑(Yj k R),↑(.int i),↑(.bl b)]:=rfl
   have l:sO [y0,↑(Yj k R),↑(.int i),↑(.bl b)]=some (.nx [y0,↑(Yj k (R.filterMap (cA k i b))),↑(.int i),↑(.bl b)]):=by
    simp[sO,(UW (λr f=>(h r f).1.1) (λr f=>Qg (h r f).2 (by lia)) i b)]
   rw[j,qd,l];exact e
theorem Ee{k:Kd}{n:Nat}{R:List Rl}(H ev:AH)(b:∀r∈R,cR k n r/\sz r<=9999):gN [cz k R H ev]=some (Yj k (oe k 0 ev R)):=by
 rw[gN,Yg (by rfl)];have a:Yd 4 [cz k R H ev]=[↑(cz k R H ev),none,none,none]:=rfl;rw[a];obtain⟨d,c,e⟩:=KC (y0:=some (.sh (cz k R H ev))) ev 0 R none none b;rw[<-Ed]at e;simp[JP,e]
def VA(b:Bool):Cy [aL b]=some (.bl true):=by
 cases b<;>rfl
theorem Ef{k:Kd}{m:Nat}{R:List Rl}{H:AH}(s:H.length<=60)(p:R.length*m<4000)(d:∀r∈R,cR k H.length r/\sz r+1<=m){h:D}(g:h=.lst (H.map aL)\/h=.tup (H.map aL)):jO [Yj k R,h]=some .non:=by
 rw[jO,Yg (by rfl)];have e:Yd 2 [Yj k R,h]=[↑(Yj k R),↑h]:=rfl;rw[e];obtain⟨l,_,o,hb⟩:=UR     (by lia) (λr c=>⟨(d r c).1.1,(d r c).2⟩) p
 have f:=bG (fe:=Cz) (r:=[]) (enc:=aL) (λ_=>D.bl true) (l:=H) (λb _=>by
  have:=VA b
  simp[Cz,this])
 have a:aH [h]=some (.int H.length):=by rcases g with rfl|rfl<;>simp
 have n:=bG (fe:=CA) (r:=[↑h]) (enc:=nD) (λ_=>D.bl false)  (λb hb=>by
  have:b<H.length:=by
   obtain⟨r,c,q⟩:=(o b).mp hb;exact mn (d r c).1.1 b q
  simp[CA,a]
  lia)
 have i:¬((60:Int)<H.length):=by lia
 have j:=fW (λ_=>true) H;rcases g with rfl|rfl
 .simp[CB,a,i,ai,f,n,hb,j,b1]
 .simp[CB,a,i,ai,f,n,hb,j,b1]
section
variable {f g:Hm}{fe:He}{ρ ρ':Ro}{t:Hs}{Q:bJ Hs->Prop}{i:Nat}
def jY{f:AS}(h:f ρ=some (.nx ρ'))(k:g ρ' t Q):aK (d9 f) g ρ t Q:=⟨_,h,k⟩
def jZ(h:fe ρ t λd t'=>g (ρ.set i (↑d)) t' Q):aK (dH i fe) g ρ t Q:=h
def gi(h:fe ρ t λ_ t'=>g ρ t' Q):aK (fY fe) g ρ t Q:=h
def Eg{g:Ha}{Q:AQ->Hs->Prop}(h:fe ρ t λd a=>g ρ a λds b=>Q (d::ds) b):mz fe g ρ t Q:=h
def Eh{Q:AQ->Hs->Prop}(h:Q [] t):iO ρ t Q:=h
def jg{c:Ro->Hs->Option Bool}{f:Hm}(h:c ρ t=some false)(k:g ρ t Q):aK (jJ c f dY) g ρ t Q:=⟨false,h,λz=>(nomatch z),λ_=>k⟩
theorem Ei{a:AW}{gt:AT}{ds:AQ}(h:a ρ=some ds)(k:dZ gt f ds ρ t fun
 | .nx ρ' t'=>g ρ' t' Q
 | o=>Q o):aK (iJ a gt f) g ρ t Q:=⟨ds,h,k⟩
theorem KD{gt:AT}{fb:Hm}{m:Type}(enc:m->D)(I:List m->Ro->Hs->Prop):∀(l c:List m) (ρ:Ro) (t:Hs) (Q:bJ Hs->Prop),I c ρ t->
 (∀q a r ρ t (Q:bJ Hs->Prop),c++l=q++a::r->I q ρ t->(∀d j,I (q++[a]) d j->Q (.nx d j))->∃h,gt (enc a) ρ=some h/\fb h t Q)->(∀ρ' t',I (c++l) ρ' t'->Q (.nx ρ' t'))->dZ gt fb (l.map enc) ρ t Q
 | [],c,ρ,t,Q,h0,_,k=>k ρ t (by rw[w5];exact h0)
 | a::l,c,ρ,t,Q,h0,hs,k=>by
   refine hs c a l ρ t _ rfl h0 λd j p=>(KD enc I l (c++[a]) d j Q p (λq b r ρ t Q e o s=>hs q b r ρ t Q (by rw[<-e,w6];rfl) o s) λρ' t' n=>k ρ' t' ?_)
   rw[w6]at n;exact n
end
def gj{t:Hs}{a:Addr}{s s':Option HS}:pt (pt t a s) a s'=pt t a s':=by
 funext b
 by_cases h:b=a
 .rw[h,Yo,Yo]
 .rw[bw h,bw h,bw h]
def Ej{t:Hs}{a:Addr}{s:Option HS}(h:t a=none):pt (pt t a s) a none=t:=by
 funext b
 by_cases e:b=a
 .rw[e,Yo,h]
 .rw[bw e,bw e]
theorem j0{b:Type}{enc:b->D}{t:Hs}(h:∀a,aC t (enc a)=enc a):∀l:List b,b8 t (l.map enc)=l.map enc
 | []=>by rw[List.map_nil,b8]
 | a::l=>by rw[Qd,b8,h,j0 h l]
def Ek(t:Hs)(i:Int):aC t (.int i)=.int i:=by rw[aC]
def El(t:Hs)(b:Bool):aC t (.bl b)=.bl b:=by rw[aC]
def Em(t:Hs)(x:Str):aC t (.str x)=.str x:=by rw[aC]
def oh(t:Hs)(b:Bool):aC t (aL b)=aL b:=by unfold aL;rw[aC]
def En(t:Hs)(s:cv):aC t (aj s)=aj s:=by
 show aC t (.tup [.int s.1,.bl s.2])=.tup [.int s.1,.bl s.2];simp[aC,b8]
def Eo(t:Hs)(o:AM):aC t (ax o)=ax o:=by
 cases o with
 | none=>show aC t .non=.non;rw[aC]
 | some x=>show aC t (.int _)=.int _;rw[aC]
def oi(t:Hs)(b:AF):aC t (.tup (b.map nD))=.tup (b.map nD):=by
 rw[aC,(j0 (enc:=nD)  (λn=>Ek t n) b)]
def Ep(t:Hs)(r:Rl):aC t (aE r)=aE r:=by
 cases r with
 | ei l=>show aC t (.tup (l.map aj))=.tup (l.map aj);rw[aC,j0 (En t)]
 | su b o=>show aC t (.tup [.tup (b.map nD),.bl o])=.tup [.tup (b.map nD),.bl o];rw[aC,b8,b8,b8,oi,El]
 | im b h=>show aC t (.tup [.tup (b.map nD),ax h])=.tup [.tup (b.map nD),ax h];rw[aC,b8,b8,b8,oi,Eo]
def Er(t:Hs)(k:Kd):aC t (br k)=br k:=by unfold br;rw[aC]
def Es(t:Hs)(k:Kd)(R:List Rl):aC t (Yj k R)=Yj k R:=by
 show aC t (.tup [br k,.tup (R.map aE)])=.tup [br k,.tup (R.map aE)];rw[aC,b8,b8,b8,aC,j0 (Ep t),Er]
def gk{t:Hs}{k:Kd}{R:List Rl}{H ev:AH}{l:Addr}(h:t l=some (.bls ev)):aC t (aU (Yj k R) (.tup (H.map aL)) (.adr l))=cz k R H ev:=by
 rw[aC,b8,b8,b8,Es,aC,j0 (oh t),aC,h];rfl
section
variable {k:Kd}{R:List Rl}{H ev:AH}{l:Addr}{t:Hs}
def Et(b h x:D):a7 "Watch" "turn" Yn (aU b h x)=Yn [aU b h x]:=n9 "turn" (by decide) Yn b h x
def Eu(b h x:D):a7 "Watch" "winner" Yt (aU b h x)=Yt [aU b h x]:=n9 "winner" (by decide) Yt b h x
def Ew(b h x:D):a7 "Watch" "evening" Yq (aU b h x)=Yq [aU b h x]:=n9 "evening" (by decide) Yq b h x
theorem Ex(e:t l=some (.bls ev))(a:ev.length<H.length)(i:H.length<=60)(h:∀r∈R,cR k H.length r/\sz r<=9999)(c:Bool){W:D->Hs->Prop}(g:W (cI k R H (ev++[c])) (pt t l (some (.bls (ev++[c]))))):
 mY [aU (Yj k R) (.tup (H.map aL)) (.adr l),.bl c] t W:=by
 unfold mY bj;have b:Yd 2 [aU (Yj k R) (.tup (H.map aL)) (.adr l),.bl c]=[↑(aU (Yj k R) (.tup (H.map aL)) (.adr l)),↑(.bl c)]:=rfl;rw[b];have f:=Et (Yj k R) (.tup (H.map aL)) (.lst (ev.map D.bl));rw[tj (Nat.le_of_lt a),n_ a]at f;have d:=Eu (Yj k R) (.tup (H.map aL)) (.lst ((ev++[c]).map D.bl));rw[Eb (by rw[qz];exact a) h]at d;refine jg ?_ ?_
 .show(b2 (b1 (ab 0) (a7 "Watch" "turn" Yn)) (kD .non) (cb false)) (dE t _)=_
  have:dE t [↑(aU (Yj k R) (.tup (H.map aL)) (.adr l)),↑(.bl c)]=[↑(cz k R H ev),↑(aC t (.bl c))]:=by
   show([↑(aC t (aU _ _ _)),↑(aC t (.bl c))]:Ro)=_;rw[(gk (H:=H) (k:=k) (R:=R) e)]
  rw[this];simp  [qd];rw[f];exact rfl
 refine jY (ρ':=[↑(aU (Yj k R) (.tup (H.map aL)) (.adr l)),↑(.bl c)]) (by cases c<;>rfl) (⟨_,_,l,ev,c,rfl,e,by lia,rfl,(⟨cI k R H (ev++[c]),?_,(oa k R H (ev++[c])),g⟩)⟩)
 have:dE (pt t l (some (.bls (ev++[c])))) [↑(aU (Yj k R) (.tup (H.map aL)) (.adr l)),↑(.bl c)]=[↑(cz k R H (ev++[c])),↑(aC (pt t l (some (.bls (ev++[c])))) (.bl c))]:=by
  show([↑(aC _ (aU _ _ _)),↑(aC _ (.bl c))]:Ro)=_;rw[(gk (H:=H) (k:=k) (R:=R) (t:=pt t l (some (.bls (ev++[c])))) Yo)]
 rw[this];exact d
end
section
variable {t:Hs}{x:Addr}{R Q:D->Hs->Prop}{ρ:Ro}{is:AF}{ga:AW}
theorem Ey{C d:Addr}{b h:D}{l:AQ}(m:t x=some (.ins "Watch" C d [] [] []))(p:jO [b,h]=some .non)(n:aV [h]=some (.tup l))(k:∀a e f t',a≠x->t a=none->t' x=some (.ins "Watch" C d jI [e,f,.ref a] [b,.tup l,.adr a])->t' a=some (.bls [])->(∀y,y≠x->y≠a->t' y=t y)->R .non t'):nR [.adr x,b,h] t R:=by
 unfold nR bj;have i:Yd 3 [.adr x,b,h]=[↑(.adr x),↑b,↑h]:=rfl;rw[i];refine jY (ρ':=[↑(.adr x),↑b,↑h]) ?_ ?_
 .simp  [p]
 refine⟨x,"Watch",C,d,[],[],[],b,rfl,m,by decide,by decide,by decide,rfl,λe=>(⟨x,"Watch",C,d,["book"],[e],[b],.tup l,rfl,Yo,by decide,by decide,by decide,?_,λf=>?_⟩)⟩
 .exact n
 rw[gj];refine⟨x,"Watch",C,d,["book","hands"],[e,f],[b,.tup l],rfl,Yo,by decide,by decide,by decide,λa g=>?_⟩
 have c:a≠x:=λz=>by rw[z,Yo]at g;cases g
 rw[bw c]at g;refine k a e f _ c g Yo ?_ λy j o=>?_
 .rw[bw c,Yo]
 .rw[bw j,bw o,bw j]
theorem Ez{b h:D}{l:AQ}(F:ga (frz is ρ)=some [b,h])(B:jO [b,h]=some .non)(u:aV [h]=some (.tup l))(hb:b7 b=true)(E:aP l=true)(k:∀a t',t a=none->t' a=some (.bls [])->(∀y,y≠a->t' y=t y)->Q (aU b (.tup l) (.adr a)) t'):iS "Watch" true is [] ga nR ρ t Q:=by
 refine⟨[b,h],F,λx C p A=>⟨λe t'=>e=.non/\∃a n c,a≠x/\t a=none/\t' x=some (.ins "Watch" C p jI [n,c,.ref a] [b,.tup l,.adr a])/\t' a=some (.bls [])/\(∀y,y≠x->y≠a->t' y=t y),Ey Yo B u (λa n c t' i j g f m=>⟨rfl,a,n,c,i,by rw[bw i]at j;exact j,g,f,λy o v=>by rw[m y o v,bw o]⟩),λe t' h=>?_⟩⟩;obtain⟨rfl,a,n,c,i,j,g,f,m⟩:=h;refine⟨λy s h=>?_,rfl,λz=>(nomatch z),λ_=>⟨_,_,_,g,?_⟩⟩
 .by_cases e:y=x
  .subst e
   rw[g]at h;cases h;refine .inr ?_
   have q:∀{d:D},b7 d=true->qB d=true:=λ{d} hd=>by cases d<;>first|exact hd|rfl
   have w:qB (.tup l)=true:=q ( E);show[b,.tup l,.adr a].all qB=true;simp[q hb,w];rfl
  .by_cases e2:y=a
   .subst e2
    rw[f]at h;cases h;exact .inr rfl
   .rw[m y e e2]at h
    exact .inl h
 .refine k a _ j ?_ λy r=>?_
  .rw[bw i]
   exact f
  .by_cases e:y=x
   .rw[e,Yo,A]
   .rw[bw e]
    exact m y e r
end
def oj(b:Bool):aL b=ar b:=by cases b<;>rfl
def EA(H:AH):H.map aL=H.map ar:=Qq λb _=>oj b
def om(t:Hs)(b:Bool):aC t (ar b)=ar b:=by unfold ar;rw[aC]
abbrev tm:AK:=["hand","paper","book","hands","start"]
abbrev fF(a b c d e:D):D:=.obj "Papered" tm [a,b,c,d,e]
abbrev gm(mb:Bool)(A:AG)(n:Nat):D:=.obj "Rowed" fZ [ar mb,.tup (A.map D.int),.int n]
def Row(t:Hs)(x:Addr)(mb:Bool)(A:AG)(n:Nat):Prop:=∃C b c a d,t x=some (.ins "Rowed" C b fZ [c,a,d] [ar mb,.tup (A.map D.int),.int n])
def Row.th{t:Hs}{x:Addr}{mb:Bool}{A:AG}{n:Nat}(h:Row t x mb A n):aC t (.adr x)=gm mb A n:=by
 obtain⟨C,b,c,a,d,h⟩:=h;rw[aC,h];rfl
def Row.of{t t':Hs}{x:Addr}{mb:Bool}{A:AG}{n:Nat}(h:Row t x mb A n)(e:t' x=t x):Row t' x mb A n:=by
 obtain⟨C,b,c,a,d,h⟩:=h;exact⟨C,b,c,a,d,e.trans h⟩
def Row.ne{t:Hs}{x l:Addr}{mb:Bool}{A:AG}{n:Nat}{ev:AH}(h:Row t x mb A n)(a:t l=some (.bls ev)):x≠l:=by
 obtain⟨C,d,c,b,f,h⟩:=h;intro e;rw[e,a]at h;cases h
def EB(x a b:D){t:Hs}{R:D->Hs->Prop}(k:R .non t):nc [x,a,b] t R:=⟨_,rfl,k⟩
theorem EC{t:Hs}{x:Addr}{mb hb:Bool}{A:AG}{n:Nat}(h:Row t x mb A n)(b:D){R:D->Hs->Prop}(k:∀t',Row t' x mb A (if hb=mb then n+1 else n)->(∀a,a≠x->t' a=t a)->R .non t'):m_ [.adr x,ar hb,b] t R:=by
 unfold m_ bj;have f:Yd 3 [.adr x,ar hb,b]=[↑(.adr x),↑(ar hb),↑b]:=rfl;rw[f]
 have d:dE t [↑(.adr x),↑(ar hb),↑b]=[↑(gm mb A n),↑(ar hb),↑(aC t b)]:=by
  show([↑(aC t (.adr x)),↑(aC t (ar hb)),↑(aC t b)]:Ro)=_;rw[h.th,om]
 refine⟨hb==mb,?_,λe=>?_,λe=>?_⟩
 .show(b2 (aa 1) (b1 (ab 0) (aT "Rowed" "hand")) (au false)) (dE t _)=_
  rw[d];exact(i5 hb mb)
 .have c:=by simpa using e
  obtain⟨C,j,g,i,m,h⟩:=h;refine⟨x,C,j,g,i,m,_,_,n,rfl,h,(k _ ?_ λa l=>bw l)⟩;rw[if_pos c];exact⟨C,j,g,i,_,Yo⟩
 .have c:=by simpa using e
  refine k t ?_ λ_ _=>rfl;rw[if_neg c];exact h
def j3(A:AG)(n:Nat):Bool:=decide (n<A.length)&&decide (A.getD n 0%2=1)
theorem VB(mb:Bool)(A:AG)(n:Nat)(w:D):rS [gm mb A n,w]=some (.bl (j3 A n)):=by
 rw[rS,Yg (by rfl)];have a:Yd 2 [gm mb A n,w]=[↑(gm mb A n),↑w]:=rfl;rw[a];have c:aT "Rowed" "seen" (gm mb A n)=some (.int n):=rfl;have d:aT "Rowed" "row" (gm mb A n)=some (.tup (A.map D.int)):=rfl;unfold j3;by_cases h:n<A.length
 .have b:bf (A.map D.int) n=some (.int (A.getD n 0)):=by
   rw[er,fx h];simp[h]
  simp[BY,c,d,h,b]
 .have e:¬n<A.length:=by lia
  simp[BY,c,d,h]
def ED(mb:Bool)(A:AG)(n:Nat)(w:D):iQ "says" ng (gm mb A n) [w]=some (.bl (j3 A n)):=by
 exact VB _ _ _ _
def EE(a b c d e w:D):iQ "says" ng (fF a b c d e) [w]=jN [fF a b c d e,w]:=by
 rfl
section
variable {t:Hs}{x:Addr}{R Q:D->Hs->Prop}{ρ:Ro}{is:AF}{ga:AW}
theorem KE{c:Str}{C a:Addr}{d:D}(e:t x=some (.ins c C a [] [] []))(b:c∈(["Settler","Rowed","Papered"]:AK))(k:∀v,R .non (pt t x (some (.ins c C a ["hand"] [v] [d])))):sM [.adr x,d] t R:=
 ⟨x,c,C,a,[],[],[],d,rfl,e,b,by simp,by decide,rfl,λv=>k v⟩
theorem EF{C b:Addr}{d r:D}{l:AQ}(i:t x=some (.ins "Rowed" C b [] [] []))(g:aV [r]=some (.tup l))(k:∀a c f,R .non (pt t x (some (.ins "Rowed" C b fZ [a,c,f] [d,.tup l,.int 0])))):sN [.adr x,d,r] t R:=by
 refine gi ⟨[.adr x,d],rfl,_,KE (R:=λe t'=>e=.non/\∃v,t'=pt t x (some (.ins "Rowed" C b ["hand"] [v] [d]))) i (by decide) (λv=>⟨rfl,v,rfl⟩),λe t' h=>?_⟩;obtain⟨rfl,a,rfl⟩:=h;refine⟨x,"Rowed",C,b,["hand"],[a],[d],.tup l,rfl,Yo,by decide,by decide,by decide,g,λc=>(⟨x,"Rowed",C,b,["hand","row"],[a,c],[d,.tup l],.int 0,rfl,Yo,by decide,by decide,by decide,rfl,λf=>?_⟩)⟩;have:=k a c f;rw[gj,gj];exact this
theorem VC{C d:Addr}{a b c h s:D}{l:AQ}(m:t x=some (.ins "Papered" C d [] [] []))(n:aV [h]=some (.tup l))(k:∀vs,vs.length=5->R .non (pt t x (some (.ins "Papered" C d tm vs [a,b,c,.tup l,s])))):sP [.adr x,a,b,c,h,s] t R:=by
 refine gi ⟨[.adr x,a],rfl,_,KE (R:=λe t'=>e=.non/\∃v,t'=pt t x (some (.ins "Papered" C d ["hand"] [v] [a]))) m (by decide) (λv=>⟨rfl,v,rfl⟩),λe t' h=>?_⟩;obtain⟨rfl,f,rfl⟩:=h;refine⟨x,"Papered",C,d,["hand"],[f],[a],b,rfl,Yo,by decide,by decide,by decide,rfl,λg=>?_⟩;rw[gj];refine⟨x,"Papered",C,d,["hand","paper"],[f,g],[a,b],c,rfl,Yo,by decide,by decide,by decide,rfl,λi=>?_⟩;rw[gj];refine⟨x,"Papered",C,d,["hand","paper","book"],[f,g,i],[a,b,c],.tup l,rfl,Yo,by decide,by decide,by decide,?_,λj=>?_⟩
 .exact n
 rw[gj];refine⟨x,"Papered",C,d,["hand","paper","book","hands"],[f,g,i,j],[a,b,c,.tup l],s,rfl,Yo,by decide,by decide,by decide,rfl,λo=>?_⟩;rw[gj];exact k [f,g,i,j,o] rfl
theorem EG{mb:Bool}{r:D}{A:AG}(j:ga (frz is ρ)=some [ar mb,r])(p:aV [r]=some (.tup (A.map D.int)))(k:∀x t',t x=none->Row t' x mb A 0->(∀a,a≠x->t' a=t a)->Q (.adr x) t'):iS "Rowed" false is [] ga sN ρ t Q:=by
 refine⟨[ar mb,r],j,λx C f i=>⟨λe t'=>e=.non/\∃d c b,t'=pt t x (some (.ins "Rowed" C f fZ [d,c,b] [ar mb,.tup (A.map D.int),.int 0])),EF Yo p (λd c b=>⟨rfl,d,c,b,gj⟩),λe t' h=>?_⟩⟩;obtain⟨rfl,d,c,b,rfl⟩:=h;refine⟨λa s h=>?_,rfl,λ_=>k x _ i ⟨C,f,d,c,b,Yo⟩ λa l=>bw l,λz=>(nomatch z)⟩;by_cases e:a=x
 .subst e
  rw[Yo]at h;cases h;refine .inr ?_;have o:qB (ar mb)=true:=rfl
  have m:∀A:AG,aP (A.map D.int)=true:=λA=>by
   induction A with
   | nil=>rfl
   | cons a A n=>rw[Qd,aP,n];rfl
  have g:qB (.tup (A.map D.int))=true:=by
   exact m A
  show[ar mb,.tup (A.map D.int),.int 0].all qB=true;simp[o,g];rfl
 .rw[bw e]at h
  exact .inl h
theorem VD{a b c h:D}{s0:Int}{l:AQ}(p:ga (frz is ρ)=some [a,b,c,h,.int s0])(j:aV [h]=some (.tup l))(f:b7 a=true)(hb:b7 b=true)(o:b7 c=true)(n:aP l=true)(k:Q (fF a b c (.tup l) (.int s0)) t):iS "Papered" true is [] ga sP ρ t Q:=by
 refine⟨[a,b,c,h,.int s0],p,λx C i m=>⟨λe t'=>e=.non/\∃vs,t'=pt t x (some (.ins "Papered" C i tm vs [a,b,c,.tup l,.int s0])),VC Yo j (λvs _=>⟨rfl,vs,gj⟩),λe t' h=>?_⟩⟩;obtain⟨rfl,vs,rfl⟩:=h;refine⟨λy s h=>?_,rfl,λz=>(nomatch z),λ_=>⟨_,_,_,Yo,?_⟩⟩
 .by_cases e:y=x
  .subst e
   rw[Yo]at h;cases h;refine .inr ?_
   have q:∀{d:D},b7 d=true->qB d=true:=λ{d} hd=>by cases d<;>first|exact hd|rfl
   have g:qB (.tup l)=true:=q ( n);show[a,b,c,.tup l,.int s0].all qB=true;simp[q f,q hb,q o,g];rfl
  .rw[bw e]at h
   exact .inl h
 .rw[Ej m]
  exact k
end
theorem eX{b:Type}{enc:b->D}(h:∀a,b7 (enc a)=true):∀l:List b,aP (l.map enc)=true
 | []=>by rw[List.map_nil,aP]
 | a::l=>by rw[Qd,aP,h,eX h l];rfl
def EH(r:bz):b7 (aq r)=true:=by
 show b7 (.tup [.int r.1,ax r.2.1,.bl r.2.2])=true;cases h:r.2.1<;>rfl
def EI:iI (.int 10) (.int 60)=some (.int (10^60)):=rfl
theorem VE:∀(a:AG),a.length<=63->∃A:AG,A.length=a.length/\sL [.lst (a.map D.int)]=some (.lst (A.map D.int)):=λa o=>by
 obtain⟨ρ',e1,A,k,j,hA,rfl⟩:=d8 (gt:=ah 2) (fb:=sJ) D.int (λi ρ=>∃(A:AG) (k j:AR),A.length=i.length/\ρ=[↑(.lst (a.map D.int)),some (.ow (A.map D.int)),k,j]) a []
  [↑(.lst (a.map D.int)),some (.ow []),none,none] ⟨[],_,_,rfl,rfl⟩ (by
   rintro q c r ρ e ⟨A,k,j,hA,rfl⟩
   have n:q.length<=63:=by
    have:=congrArg List.length e;simp at this;lia
   have f:∀d,bu (A.map D.int) d=some (A.map D.int++[d]):=λd=>iC (by rw[qf];lia)
   have g:((A.map D.int).length)=A.length:=by simp
   have b:aN (.int c) (.int (10^60))=some (.int (c%10^60)):=jE (by decide);have l:=EI;generalize (10^60:Int)=P at *;by_cases m:(A.length:Int)%3=2
   .refine⟨_,[↑(.lst (a.map D.int)),some (.ow ((A++[-1-c%P]).map D.int)),↑(.int c),↑(.int (-1-c%P))],rfl,?_,A++[-1-c%P],_,_,by simp[hA],rfl⟩
    have h:(A++[-1-c%P]).map D.int=A.map D.int++[.int (-1-c%P)]:=by rw[Qk];rfl
    rw[h];simp[sJ,l,b,g,m,f]
   .refine⟨_,[↑(.lst (a.map D.int)),some (.ow ((A++[c%P]).map D.int)),↑(.int c),↑(.int (c%P))],rfl,?_,A++[c%P],_,_,by simp[hA],rfl⟩
    have h:(A++[c%P]).map D.int=A.map D.int++[.int (c%P)]:=by rw[Qk];rfl
    rw[h]
    simp[sJ,l,b,g,m,f])
 refine⟨A,hA,?_⟩;rw[sL,Yg (by rfl)];simp[JL,Yd,e1]
mutual
theorem oq{t:Hs}:∀{d:D},b7 d=true->aC t d=d
 | .non,_=>by rw[aC]
 | .bl _,_=>by rw[aC]
 | .int _,_=>by rw[aC]
 | .str _,_=>by rw[aC]
 | .tup l,h=>by rw[aC,ot h]
 | .lst _,h=>by cases h
 | .scr _,h=>by cases h
 | .dct _ _ _,h=>by cases h
 | .obj _ _ _,h=>by cases h
 | .adr _,h=>by cases h
theorem ot{t:Hs}:∀{l:AQ},aP l=true->b8 t l=l
 | [],_=>by rw[b8]
 | d::l,h=>by
   rw[aP,Qe]at h;rw[b8,oq h.1,ot h.2]
end
abbrev Wa(k:Kd)(R:List Rl)(H:AH)(l:Addr):D:=aU (Yj k R) (.tup (H.map aL)) (.adr l)
abbrev Kp(a:D)(k:Kd)(R:List Rl)(H:AH)(st:Nat):D:=fF (ar true) a (Yj k R) (.tup (H.map aL)) (.int st)
structure Pi(t:Hs)(l y:Addr)(U:AG)(n:Nat)(ev:AH):Prop where
 w:t l=some (.bls ev)
 s:Row t y false U n
section
variable {pp:D}{k:Kd}{R:List Rl}{H:AH}{st:Nat}{l y:Addr}{U:AG}{due:AH->Bool}
theorem KF{ev:AH}{t:Hs}{ρ:Ro}{b:AV}{f:AW}{Q:D->Hs->Prop}(n:b ρ=some (Wa k R H l)){c:Bool}(j:f ρ=some [.bl c])(h:t l=some (.bls ev))(a:ev.length<H.length)(i:H.length<=60)(g:∀r∈R,cR k H.length r/\sz r<=9999)(m:∀d,Q d (pt t l (some (.bls (ev++[c]))))):gK "settle" rV b f ρ t Q:=
 ⟨_,_,"Watch",jI,mY,λ_ t'=>t'=pt t l (some (.bls (ev++[c]))),n,j,rfl,by decide,rfl,Ex h a i g c rfl,λd t' e=>by rw[e];exact m d⟩
theorem EJ{t:Hs}{x:Addr}{mb hb:Bool}{A:AG}{n:Nat}{ρ:Ro}{j:AV}{i:AW}{Q:D->Hs->Prop}{b:D}(h:Row t x mb A n)(p:j ρ=some (.adr x))(m:i ρ=some [ar hb,b])(k:∀t',Row t' x mb A (if hb=mb then n+1 else n)->(∀a,a≠x->t' a=t a)->Q .non t'):gK "sees" nh j i ρ t Q:=by
 have o:iP t (.adr x)=some (("Rowed":Str),fZ):=by
  obtain⟨C,u,r,q,s,h⟩:=h
  show(match t x with
   | some (.ins c _ _ ks _ _)=>some (c,ks)
   | _=>none)=_
  rw[h]
 exact⟨_,_,"Rowed",fZ,m_,λd t'=>d=.non/\Row t' x mb A (if hb=mb then n+1 else n)/\∀a,a≠x->t' a=t a,p,m,o,by decide,rfl,EC h b λt' f g=>⟨rfl,f,g⟩,λd t' e=>by
  obtain⟨rfl,f,g⟩:=e
  exact k t' f g⟩
theorem EK{t:Hs}{a b c d e z:D}{hb:Bool}{ρ:Ro}{g:AV}{f:AW}{Q:D->Hs->Prop}(i:g ρ=some (fF a b c d e))(h:f ρ=some [ar hb,z])(k:Q .non t):gK "sees" nh g f ρ t Q:=
 ⟨_,_,"Papered",tm,nc,λd t'=>d=.non/\t'=t,i,h,rfl,by decide,rfl,EB _ _ _ ⟨rfl,rfl⟩,λd t' e=>by
  obtain⟨rfl,rfl⟩:=e
  exact k⟩
def eY(pp:D)(k:Kd)(R:List Rl)(H:AH)(st:Nat)(due:AH->Bool):Prop:=∀ev,st<=ev.length->(h:ev.length<H.length)->H[ev.length]=true->jN [Kp pp k R H st,cz k R H ev]=some (.bl (due ev))
theorem VF{t:Hs}{ev:AH}{n:Nat}(hs:eY pp k R H st due)(O:b7 pp=true)(i:st<=ev.length)(b:ev.length<H.length)(C:H.length<=60)(K:∀r∈R,cR k H.length r/\sz r<=9999)(P:Pi t l y U n ev)(F G e:AR){Q:bJ Hs->Prop}(M:∀E A N c v t',(H[ev.length]=true->c=due ev)->Pi t' l y U v (ev++[c])->Q (.nx [↑(Wa k R H l),↑(Kp pp k R H st),↑(.adr y),E,A,N] t')):
 B5 [↑(Wa k R H l),↑(Kp pp k R H st),↑(.adr y),F,G,e] t Q:=by
 have q:=gk (H:=H) (k:=k) (R:=R) P.w;have m:=Et (Yj k R) (.tup (H.map aL)) (.lst (ev.map D.bl));rw[tj (Nat.le_of_lt b),n_ b,oj]at m;refine jZ ⟨ar H[ev.length],?_,rfl,?_⟩
 .show(b1 (ab 0) (a7 "Watch" "turn" Yn)) (some (.sh (aC t (Wa k R H l)))::_)=_
  rw[q];exact m
 have f:=hs ev i b;generalize S:H[ev.length]=h at *;have J:au false (ar h) (.str "keeper")=some (h==true):=i5 h true;refine jY (ρ':=[↑(Wa k R H l),↑(Kp pp k R H st),↑(.adr y),↑(ar h),↑(if h=true then Kp pp k R H st else .adr y),e]) ?_ ?_
 .generalize ar h=p at *
  cases h<;>simp[J]
 have a:aC t (Kp pp k R H st)=Kp pp k R H st:=by
  have p:aC t (.tup (H.map aL))=.tup (H.map aL):=by rw[aC,j0 (oh t)]
  rw[aC,b8,b8,b8,b8,b8,b8,om,oq O,Es,p,Ek]
 refine jZ ⟨.bl (if h=true then due ev else j3 U n),?_,rfl,?_⟩
 .have s:aC t (if h=true then Kp pp k R H st else .adr y)=if h=true then Kp pp k R H st else gm false U n:=by
   cases h
   .exact P.s.th
   .exact a
  show iR "says" ng (ab 4) (Yb (ab 0) ae) [↑(aC t (Wa k R H l)),↑(aC t (Kp pp k R H st)),↑(aC t (.adr y)),↑(aC t (ar h)),↑(aC t (if h=true then Kp pp k R H st else .adr y)),Option.map (my t) e]=_;rw[s,q];have j:=EE (ar true) pp (Yj k R) (.tup (H.map aL)) (.int st) (cz k R H ev);have ds:=ED false U n (cz k R H ev);cases h
  .exact ds
  .rw[f rfl]at j
   exact j
 have g:h=true->(if h=true then due ev else j3 U n)=due ev:=λz=>by rw[if_pos z]
 generalize (if h=true then due ev else j3 U n)=c at *;refine gi (KF  rfl rfl P.w b C K λd=>?_);have o:=P.s.ne P.w;have x:Row (pt t l (some (.bls (ev++[c])))) y false U n:=P.s.of (bw o);have u:pt t l (some (.bls (ev++[c]))) l=some (.bls (ev++[c])):=Yo;refine gi (EK   rfl rfl ?_);refine EJ   x rfl rfl λI L w=>?_;exact M _ _ _ c _ I g ⟨by rw[w l (Ne.symm o)];exact u,L⟩
def Kept(H:AH)(st:Nat)(due:AH->Bool)(ev:AH):Prop:=∀i (h:i<ev.length) (a:i<H.length),st<=i->H[i]=true->ev[i]=due (ev.take i)
theorem Kept.snoc{ev:AH}{c:Bool}(h:Kept H st due ev)(m:ev.length<H.length)(d:H[ev.length]=true->c=due ev):Kept H st due (ev++[c]):=λi g f j b=>by
 rw[qz,w9]at g;by_cases e:i=ev.length
 .subst e
  simp;exact d b
 .have a:i<ev.length:=by lia
  rw[List.getElem_append_left a,List.take_append_of_le_length (by lia)];exact h i a f j b
theorem KG(hs:eY pp k R H st due)(w:b7 pp=true)(s:H.length<=60)(v:∀r∈R,cR k H.length r/\sz r<=9999){Q:bJ Hs->Prop}(q:∀o h m g t' ev,ev.length=H.length->Kept H st due ev->Pi t' l y U g ev->Q (.nx [↑(Wa k R H l),↑(Kp pp k R H st),↑(.adr y),o,h,m] t')):
 ∀(j:Nat) (ev:AH) (n:Nat) (t:Hs) (d a b:AR),ev.length+j=H.length->st<=ev.length->Kept H st due ev->Pi t l y U n ev->iK (eE (b2 (b1 (ab 0) (a7 "Watch" "turn" Yn)) (kD .non) (cb true))) B5 (j+1) [↑(Wa k R H l),↑(Kp pp k R H st),↑(.adr y),d,a,b] t Q
 | j,ev,n,t,d,a,b,e,p,u,P=>by
   have x:=Et (Yj k R) (.tup (H.map aL)) (.lst (ev.map D.bl));rw[tj (by lia)]at x
   have f:eE (b2 (b1 (ab 0) (a7 "Watch" "turn" Yn)) (kD .non) (cb true)) [↑(Wa k R H l),↑(Kp pp k R H st),↑(.adr y),d,a,b] t=cb true (jW H ev) .non:=by
    show b2 (b1 (ab 0) (a7 "Watch" "turn" Yn)) (kD .non) (cb true) (some (.sh (aC t (Wa k R H l)))::_)=_;rw[(gk (H:=H) (k:=k) (R:=R) P.w)];simp  [qd];rw[x,qd]
   cases j with
   | zero=>
     rw[D_ (by lia)]at f;exact⟨false,f.trans rfl,λz=>(nomatch z),λ_=>q d a b n t ev (by lia) u P⟩
   | succ j=>
     have i:ev.length<H.length:=by lia
     rw[n_ i]at f;exact⟨true,f.trans rfl,λ_=>(VF hs w p i s v P d a b λo h m c g t' A C=>(KG hs w s v q j (ev++[c]) g t' o h m (by rw[qz,w9];lia) (by rw[qz];lia) (u.snoc i A) C)),λz=>(nomatch z)⟩
theorem VG{t:Hs}{ev:AH}{n:Nat}(hs:eY pp k R H st due)(i:b7 pp=true)(j:H.length<=60)(g:∀r∈R,cR k H.length r/\sz r<=9999)(d:st<=ev.length)(m:ev.length<=H.length)(h:Kept H st due ev)(P:Pi t l y U n ev){W:D->Hs->Prop}(o:∀t' a,a.length=H.length->Kept H st due a->t' l=some (.bls a)->W (cI k R H a) t'):B6 [Wa k R H l,Kp pp k R H st,.adr y] t W:=by
 refine⟨H.length-ev.length+1,KG  hs i j g ?_ (H.length-ev.length) ev n t none none none (by lia) d h P⟩;intro s u q p t' a b c f;have e:=Eu (Yj k R) (.tup (H.map aL)) (.lst (a.map D.bl));rw[Eb (by lia) g]at e;refine⟨_,?_,oa _ _ _ _,o t' a b c f.w⟩;show b1 (ab 0) (a7 "Watch" "winner" Yt) (some (.sh (aC t' (Wa k R H l)))::_)=_;rw[(gk (H:=H) (k:=k) (R:=R) f.w)];exact e
end
def Fw(st:Nat):Rl->Prop
 | .ei l=>∀s∈l,st<=s.1
 | .su b _=>∀x∈b,st<=x
 | .im b h=>(∀x∈b,st<=x)/\∀x,h=some x->st<=x
theorem EL{k:Kd}{st b:Nat}{lit:Bool}{r:Rl}(h:Fw st r)(hb:b<st):cA k b lit r=some r:=by
 have g:∀{l:AF},(∀x∈l,st<=x)->Bk.wo b l=l:=λ{l} f=>List.filter_eq_self.mpr λx d=>by have:=f x d;lia
 cases r with
 | ei l=>
   have a:(b,lit)∉l:=λz=>by have:=h _ z;lia
   have c:iF b l=l:=List.filter_eq_self.mpr λx d=>by have:=h x d;lia
   show(if (b,lit)∈l then none else some (Rl.ei (iF b l)))=_;rw[if_neg a,c]
 | su l o=>
   have a:b∉l:=λz=>by have:=h _ z;lia
   show(if b∈l then _ else some (Rl.su l o))=_;rw[if_neg a]
 | im l q=>
   have a:b∉l:=λz=>by have:=h.1 _ z;lia
   have c:¬q=some b:=λz=>by have:=h.2 _ z;lia
   show(if _ then none else some (Rl.im (Bk.wo b l) (if q=some b then none else q)))=_;rw[if_neg (by simp[a,c]),g h.1,if_neg c]
theorem ox{c:Type}{f:c->Option c}:∀{l:List c},(∀a∈l,f a=some a)->l.filterMap f=l
 | [],_=>rfl
 | a::l,h=>by rw[List.filterMap_cons,h a (.head _),ox λb hb=>h b (.tail _ hb)]
theorem oy{k:Kd}{st:Nat}{R:List Rl}(h:∀r∈R,Fw st r):∀(ev:AH) (i:Nat),i+ev.length<=st->oe k i ev R=R
 | [],_,_=>rfl
 | b::ev,i,a=>by
   rw[qt]at a;rw[oe,(ox λr c=>EL (h r c) (by lia))];exact oy h ev (i+1) (by lia)
def EM(r:Rl):b7 (aE r)=true:=by
 have a:∀l:AF,aP (l.map nD)=true:=λl=>eX (λ_=>rfl) l
 cases r with
 | ei l=>exact(λl=>eX (λ_=>rfl) l) l
 | su l o=>show(aP (l.map nD)&&(b7 (.bl o)&&aP []))=true;rw[a];rfl
 | im l h=>show(aP (l.map nD)&&(b7 (ax h)&&aP []))=true;rw[a];cases h<;>rfl
def EN(k:Kd)(R:List Rl):b7 (Yj k R)=true:=by
 show(b7 (br k)&&(aP (R.map aE)&&aP []))=true;rw[eX EM];rfl
def oz(H:AH):aP (H.map aL)=true:=eX (λ_=>rfl) H
theorem EO{k:Kd}{ev:AH}{R:List Rl}(h:∀r∈R,so k ev r=true):brk k ev R=[]:=by
 refine List.filter_eq_nil_iff.mpr λi a=>?_;have a:=Qb a
 have:fX R i∈R:=by
  unfold fX;simp[a]
 rw[h _ this];simp
structure Game(pp:D)(k:Kd)(R:List Rl)(H:AH)(st:Nat)(due:AH->Bool):Prop where
 gd:nu [pp,Yj k R,.lst (H.map aL),.int st,.str "keeper"]=some (.bl true)
 sy:eY pp k R H st due
 pl:b7 pp=true
 ok:∀r∈R,cR k H.length r/\sz r<=60
 fw:∀r∈R,Fw st r
 ln:R.length<=63
 hH:H.length<=20
 hs:st<=H.length
 wn:∀ev,ev.length=H.length->Kept H st due ev->∀r∈R,so k ev r=true
def ER(b h x:D):a7 "Watch" "left" gN (aU b h x)=gN [aU b h x]:=n9 "left" (by decide) gN b h x
section
variable {pp:D}{k:Kd}{R:List Rl}{H ev:AH}{st:Nat}{l:Addr}{U:AG}{due:AH->Bool}{t:Hs}
theorem Game.r(g:Game pp k R H st due):∀r∈R,cR k H.length r/\sz r<=9999:=λr a=>⟨(g.ok r a).1,by have:=(g.ok r a).2;lia⟩
theorem KH(g:Game pp k R H st due)(f:t l=some (.bls ev))(Q:ev.length=st){W:D->Hs->Prop}(L:∀t' a,a.length=H.length->t' l=some (.bls a)->W (.bl true) t'):
 nQ [Wa k R H l,pp,Yj k R,.lst (H.map aL),.int st,.lst (U.map D.int)] t W:=by
 unfold nQ bj;have u:Yd 9 [Wa k R H l,pp,Yj k R,.lst (H.map aL),.int st,.lst (U.map D.int)]=[↑(Wa k R H l),↑pp,↑(Yj k R),↑(.lst (H.map aL)),↑(.int st),↑(.lst (U.map D.int)),none,none,none]:=rfl;rw[u];unfold JS;have J:=ER (Yj k R) (.tup (H.map aL)) (.lst (ev.map D.bl));rw[Ee H ev g.r,oy g.fw ev 0 (by lia)]at J;refine jZ ⟨Yj k R,?_,EN k R,?_⟩
 .show b1 (ab 0) (a7 "Watch" "left" gN) (some (.sh (aC t (Wa k R H l)))::_)=_
  rw[gk f];exact J
 have q:=g.gd;refine jY (ρ':=[↑(Wa k R H l),↑pp,↑(Yj k R),↑(.lst (H.map aL)),↑(.int st),↑(.lst (U.map D.int)),↑(Yj k R),none,none]) ?_ ?_
 .simp[q,eD]
 refine jZ (VD (a:=ar true) (b:=pp) (c:=Yj k R) (h:=.lst (H.map aL)) (s0:=(st:Int)) (l:=H.map aL) ?_ (by simp) rfl g.pl (EN k R) (oz H) ?_)
 .rfl
 unfold JR;refine jZ ?_;unfold Bh;refine Eg ⟨_,rfl,Eg ⟨_,rfl,Eg (EG (mb:=false)  (A:=U) rfl (by simp) λy C T O S=>Eh ⟨rfl,λd t'=>∃a,a.length=H.length/\Kept H st due a/\t' l=some (.bls a)/\d=cI k R H a,?_,λd t' hd=>?_⟩)⟩⟩
 .have N:l≠y:=λz=>by rw[z]at f;rw[T]at f;cases f
  exact VG (due:=due) g.sy g.pl (by have:=g.hH;lia) g.r (Nat.le_of_eq Q.symm) (by have:=g.hs;lia) (λi X _ Y _=>by lia) ⟨by rw[S l N];exact f,O⟩ λt' a h s j=>⟨a,h,s,j,rfl⟩
 .obtain⟨a,h,s,j,rfl⟩:=hd
  have e:=g.wn a h s
  have K:cI k R H a=.str "keeper":=by
   unfold cI;rw[if_neg (by lia),EO e];rfl
  have F:=Eu (Yj k R) (.tup (H.map aL)) (.lst (a.map D.bl));rw[Eb (by lia) g.r,K]at F;have x:=Ew (Yj k R) (.tup (H.map aL)) (.lst (a.map D.bl));rw[Ea]at x;have C:=gk (H:=H) (k:=k) (R:=R) j;rw[K]
  obtain⟨I,G,v,B,w,E,c⟩:∃I G v B w E,dE t' [↑(Wa k R H l),↑pp,↑(Yj k R),↑(.lst (H.map aL)),↑(.int st),↑(.lst (U.map D.int)),↑(Yj k R),↑(fF (ar true) pp (Yj k R) (.tup (H.map aL)) (.int st)),↑(.str "keeper")]=[↑(cz k R H a),I,↑(Yj k R),G,v,B,w,E,↑(.str "keeper")]:=by
   refine⟨some (.sh (aC t' pp)),↑(aC t' (.lst (H.map aL))),↑(aC t' (.int st)),↑(aC t' (.lst (U.map D.int))),↑(Yj k R),↑(aC t' (fF (ar true) pp (Yj k R) (.tup (H.map aL)) (.int st))),?_⟩;show([↑(aC t' (Wa k R H l)),↑(aC t' pp),↑(aC t' (Yj k R)),↑(aC t' (.lst (H.map aL))),↑(aC t' (.int st)),↑(aC t' (.lst (U.map D.int))),↑(aC t' (Yj k R)),↑(aC t' (fF (ar true) pp (Yj k R) (.tup (H.map aL)) (.int st))),↑(aC t' (.str "keeper"))]:Ro)=_;rw[C,Es,Em]
  have p:=bG (fe:=sQ) (r:=[↑(Yj k R),↑(cz k R H a)]) (enc:=aE) (λ_=>.bl true) (l:=R) (λr A=>by
   have:=Dp (c:=.tup (a.map D.bl)) (ev:=a) rfl (k:=k) (r:=r) (by rw[h];exact(g.ok r A).1.1);rw[e r A]at this;have o:Yc (Yj k R)=some [br k,.tup (R.map aE)]:=rfl;have b:cz k R H a=aU (Yj k R) (.tup (H.map aL)) (.lst (a.map D.bl)):=rfl;rw[b]
   simp[sQ,o,x,this])
  have n:bB [.lst (R.map λ_=>D.bl true)]=some (.bl true):=by
   have V:=fW (λ_:Rl=>true) R;simp[V]
  have m:Yc (Yj k R)=some [br k,.tup (R.map aE)]:=rfl;refine jg ?_ ?_
  .show eB _ _ (dE t' [↑(Wa k R H l),↑pp,↑(Yj k R),↑(.lst (H.map aL)),↑(.int st),↑(.lst (U.map D.int)),↑(Yj k R),↑(fF (ar true) pp (Yj k R) (.tup (H.map aL)) (.int st)),↑(.str "keeper")])=_
   rw[c];have b:cz k R H a=aU (Yj k R) (.tup (H.map aL)) (.lst (a.map D.bl)):=rfl;rw[b]
   have M:au true (.str "keeper") (.str "keeper")=some false:=by
    rw[d7 (by simp) (by simp)];simp
   have P:eQ "str" (.str "keeper")=some true:=rfl;simp[M,P,F]
  .refine⟨.bl true,?_,rfl,L t' a h j⟩
   show(cC (Yb (lF (Yr (b1 (b2 (aa 2) (kD (.int 1)) ak) Yc) [none,some 2,some 0] (ah 0) tY (sQ))) ae) bB) (dE t' [↑(Wa k R H l),↑pp,↑(Yj k R),↑(.lst (H.map aL)),↑(.int st),↑(.lst (U.map D.int)),↑(Yj k R),↑(fF (ar true) pp (Yj k R) (.tup (H.map aL)) (.int st)),↑(.str "keeper")])=_;rw[c];simp[m,ai,p,n]
end
theorem VH{n:Nat}{s t:cv}(hs:s.1<n)(i:t.1<n)(j:n<=60):∃l:AY,cR .e n (.ei l)/\(∀x,x∈l↔x=s\/x=t)/\gC [aj s,aj t]=some (l.map aj):=by
 have g:dA [aj s,aj t]=some [((s.1:Int),s.2),(t.1,t.2)]:=rfl;by_cases e:s=t
 .subst e
  refine⟨[s],⟨⟨rfl,by simpa using hs⟩,by simp[fy]⟩,λx=>by simp,?_⟩;unfold gC;rw[g,qd];dsimp only;rw[if_pos rfl];rfl
 .generalize a:bZ t.1 t.2 s.1 s.2=b
  have h:fy (.ei (if b=true then [t,s]else [s,t])):=by
   unfold bZ at a
   cases b with
   | true=>
     refine⟨by simp,?_⟩;simp[As]
     split at a
     .simp at a
      exact .inr ⟨by lia,a⟩
     .exact .inl (by simpa using a)
   | false=>
     refine⟨by simp,?_⟩;simp[As]
     split at a
     .have c:s.1=t.1:=by lia
      refine .inr ⟨c,?_⟩;have d:s.2≠t.2:=λz=>e (Prod.ext c z)
      revert a d
      cases s.2<;>cases t.2<;>simp
     .exact .inl (by lia)
  refine⟨if b=true then [t,s]else [s,t],⟨⟨rfl,λx f=>?_⟩,h⟩,λx=>?_,?_⟩
  .split at f<;>simp at f<;>rcases f with rfl|rfl<;>assumption
  .cases b with
   | true=>simp[or_comm]
   | false=>simp
  .unfold gC
   rw[g,qd];dsimp only
   rw[if_neg (λz=>e (by
   have c:=congrArg Prod.fst z;have d:=congrArg Prod.snd z
   exact Prod.ext (by simpa using c) d)),if_pos (Dx   (by lia) (by lia) e),a]
   cases b<;>rfl
theorem VI{n st:Nat}(P:n<=60){rows:List bz}(y:∀r∈rows,∀x,r.2.1=some x->(x<n/\st<=x)/\x∉rows.map (·.1)){one other:cv}(w:one.1<n)(F:other.1<n)(i:st<=one.1)(u:st<=other.1):
 ∃l:AY,(cR .e n (.ei l)/\Fw st (.ei l))/\d3 (l.map (Yw rows))=true/\sD [.tup (rows.map aq),aj one,aj other]=some (aE (.ei l)):=by
 have t:=Ku rows one;have H:=Ku rows other;have b1:=D0 false (Yw rows one);have b2:=D0 true (Yw rows one);have b3:=D0 true (Yw rows other);have O:Yc (aj one)=some [.int one.1,.bl one.2]:=rfl;rw[sD,Yg (by rfl)];have G:Yd 4 [.tup (rows.map aq),aj one,aj other]=[↑(.tup (rows.map aq)),↑(aj one),↑(aj other),none]:=rfl;rw[G]
 have k:∀(a b:cv),a.1<n->b.1<n->st<=a.1->st<=b.1->(Yw rows a=(none,true)\/Yw rows b=(none,true)\/gP (Yw rows a)=Yw rows b)->∃l:AY,(cR .e n (.ei l)/\Fw st (.ei l))/\d3 (l.map (Yw rows))=true/\gC [aj a,aj b]=some (l.map aj):=λa b M hb R Q L=>by
  obtain⟨l,f,d,g⟩:=VH M hb P;exact⟨l,⟨f,λs hs=>(d s).mp hs |>.elim (λe=>by rw[e];exact R) λe=>by rw[e];exact Q⟩,D1 d L,g⟩
 by_cases j:Yw rows one=(none,false)
 .have E:Yw rows (one.1,!one.2)=(none,true):=by
   unfold Yw at j ⊢;dsimp only
   cases q:rows.find? (λr=>r.1==one.1)with
   | none=>rw[q]at j;cases j
   | some r=>
     rw[q]at j;dsimp only at j ⊢;have f:=congrArg Prod.fst j;have d:=congrArg Prod.snd j;dsimp only at f d;rw[f]
     congr 1
     revert d
     cases one.2<;>cases r.2.2<;>simp
  obtain⟨l,f,d,g⟩:=k (one.1,!one.2) other w F i u (.inl E);refine⟨l,f,d,?_⟩;have c:aE (.ei l)=.tup (l.map aj):=rfl;have h:aj (one.1,!one.2)=.tup [.int one.1,.bl (!one.2)]:=rfl;rw[c];rw[h]at g;rw[j]at b1 t;simp[nF,t,b1,O,g]
 simp only[j,decide_false]at b1;by_cases z:Yw rows one=(none,true)
 .obtain⟨l,f,d,g⟩:=k one other w F i u (.inl z)
  refine⟨l,f,d,?_⟩;have c:aE (.ei l)=.tup (l.map aj):=rfl;rw[c];simp only[z,decide_true]at b2;rw[z]at b1 t;generalize aj one=C at *;simp[nF,t,b1,b2,g]
 by_cases A:Yw rows other=(none,true)
 .obtain⟨l,f,d,g⟩:=k one other w F i u (.inr (.inl A))
  refine⟨l,f,d,?_⟩;have c:aE (.ei l)=.tup (l.map aj):=rfl;rw[c];simp only[A,decide_true]at b3;rw[A]at H;simp[nF,t,H,b1,b2,b3,g]
 .simp only[A,decide_false]at b3
  obtain⟨x,p,m⟩:∃x p,Yw rows one=(some x,p):=by
   cases I:Yw rows one with
   | mk o p=>
     cases o with
     | some x=>exact⟨x,p,rfl⟩
     | none=>cases p with
       | true=>exact absurd I z
       | false=>exact absurd I j
  have v:(x<n/\st<=x)/\x∉rows.map (·.1):=by
   unfold Yw at m
   cases q:rows.find? (λr=>r.1==one.1)with
   | none=>
     rw[q]at m;dsimp only at m;have e1:=congrArg Prod.fst m;dsimp only at e1;cases e1;refine⟨⟨w,i⟩,λK=>?_⟩;obtain⟨r,N,e⟩:=qy K;rw[List.find?_eq_none]at q;have:=q r N;simp at this;exact this e
   | some r=>
     rw[q]at m;dsimp only at m;exact y r (List.mem_of_find?_eq_some q) x (congrArg Prod.fst m)
  have B:Yw rows (x,!p)=(some x,!p):=by
   unfold Yw;rw[Ko (λr:bz=>r.1) v.2]
  obtain⟨l,f,d,g⟩:=k one (x,!p) w v.1.1 i v.1.2 (.inr (.inr (by rw[m,B];rfl)));refine⟨l,f,d,?_⟩;have c:aE (.ei l)=.tup (l.map aj):=rfl;have h:aj (x,!p)=.tup [.int x,.bl (!p)]:=rfl;rw[c];rw[h]at g;rw[m]at t b1 b2;have D:Yc (gU (some x,p))=some [.int x,.bl p]:=rfl;generalize aj one=C at *;simp[nF,t,H,b1,b2,b3,D,g]
theorem VJ(c:Int){n st:Nat}(k:st<n)(y:n<=60){rows:List bz}(f:∀r∈rows,∀x,r.2.1=some x->(x<n/\st<=x)/\x∉rows.map (·.1)){L:AX}(K:L.length<=1000)(o q E H u:AR):
 ∃(l:AY) (D F z:AR),(cR .e n (.ei l)/\Fw st (.ei l))/\d3 (l.map (Yw rows))=true/\y7 [o,↑(.tup (rows.map aq)),q,↑(.int st),some (.ow (L.map λl=>aE (.ei l))),↑(.int ((n:Int)-st)),↑(.int c),E,H,u] =
  some (.nx [o,↑(.tup (rows.map aq)),q,↑(.int st),some (.ow ((L++[l]).map λl=>aE (.ei l))),↑(.int ((n:Int)-st)),↑(.int c),D,F,z]):=by
 obtain⟨v,_,A⟩:=nX c 1181783497276652981
 have hd:0<(n:Int)-st:=by lia
 have key:∀x:Int,∃a:Nat,st+x%(n-st)=a/\a<n/\st<=a:=λx=>by
  have s:=Int.emod_nonneg x (show(n:Int)-st≠0 by lia);have m:=Int.emod_lt_of_pos x hd;exact⟨(st+x%(n-st)).toNat,by lia,by lia,by lia⟩
 obtain⟨a,J,G,i⟩:=key (v/4);obtain⟨b,C,hb,h⟩:=key (v/4/(n-st));have t:∀x,aN (.int x) (.int (n-st))=some (.int (x%(n-st))):=λx=>jE hd;have j:∀x,bF (.int x) (.int (n-st))=some (.int (x/(n-st))):=λx=>OO hd (by lia);obtain⟨l,s,m,p⟩:=VI y f (one:=(a,decide (v%2=1))) (other:=(b,decide (v/2%2=1))) G hb i h;refine⟨l,↑(.int v),↑(aj (a,decide (v%2=1))),↑(aj (b,decide (v/2%2=1))),s,m,?_⟩;have e:∀d,bu (L.map λl=>aE (.ei l)) d=some ((L.map λl=>aE (.ei l))++[d]):=λd=>iC (by rw[qf];lia)
 have g:((L++[l]).map λl=>aE (.ei l))=(L.map λl=>aE (.ei l))++[aE (.ei l)]:=by rw[Qk];rfl
 rw[g];have I:aj (a,decide (v%2=1))=.tup [.int a,.bl (decide (v%2=1))]:=rfl;have w:aj (b,decide (v/2%2=1))=.tup [.int b,.bl (decide (v/2%2=1))]:=rfl;rw[I,w]at p ⊢;simp[y7,k,A,t,j,J,C,p,e]
theorem VL(ns:AG)(G:ns.length<=63){hs:AH}(C:hs.length<=60){st:Nat}(J:st<=hs.length){rows:List bz}(o:∀r∈rows,∀x,r.2.1=some x->(x<hs.length/\st<=x)/\x∉rows.map (·.1)):
 ∃L:AX,L.length<=63/\(∀l∈L,(cR .e hs.length (.ei l)/\Fw st (.ei l))/\d3 (l.map (Yw rows))=true)/\nG [.scr ns,.tup (rows.map aq),.lst (hs.map ar),.int st]=some (Yj .e (L.map Rl.ei)):=by
 have t:=Dn ns 3 63;generalize u:(ns.drop (min 3 ns.length)).take (min 63 ns.length-min 3 ns.length)=a at t
 have n:a.length<=63:=by
  rw[<-u,List.length_take];lia
 have s:((hs.map ar).length)=hs.length:=by simp
 have g:∃(L:AX) (ρ':Ro),L.length<=63/\(∀l∈L,(cR .e hs.length (.ei l)/\Fw st (.ei l))/\d3 (l.map (Yw rows))=true)/\M.forM (ah 6) y7 (a.map D.int) [↑(.scr ns),↑(.tup (rows.map aq)),↑(.lst (hs.map ar)),↑(.int st),some (.ow []),↑(.int (hs.length-st)),none,none,none,none]=some (.nx ρ')/\(∃y0 y A z w b f h d,ρ'=[y0,y,A,z,some (.ow (L.map λl=>aE (.ei l))),w,b,f,h,d]):=by
  by_cases h0:st<hs.length
  .obtain⟨ρ',e1,L,b,f,h,d,i,p,rfl⟩:=d8 (gt:=ah 6)  D.int (λk ρ=>∃(L:AX) (b f h d:AR),L.length=k.length/\(∀l∈L,(cR .e hs.length (.ei l)/\Fw st (.ei l))/\d3 (l.map (Yw rows))=true)/\
    ρ=[↑(.scr ns),↑(.tup (rows.map aq)),↑(.lst (hs.map ar)),↑(.int st),some (.ow (L.map λl=>aE (.ei l))),↑(.int (hs.length-st)),b,f,h,d]) a []
    [↑(.scr ns),↑(.tup (rows.map aq)),↑(.lst (hs.map ar)),↑(.int st),some (.ow []),↑(.int (hs.length-st)),none,none,none,none] ⟨[],_,_,_,_,rfl,by simp,rfl⟩ (by
     rintro q c r ρ e ⟨L,b,f,h,d,i,p,rfl⟩
     have K:q.length<=63:=by
      have:=congrArg List.length e;simp at this;lia
     obtain⟨l,N,P,O,I,H,E⟩:=VJ c h0 C o (L:=L) (by lia) (↑(.scr ns)) (↑(.lst (hs.map ar))) f h d;refine⟨_,_,rfl,E,L++[l],_,_,_,_,by simp[i],λx j=>?_,rfl⟩;rcases qw j with j|j
     .exact p x j
     .rw[List.mem_singleton]at j
      subst j
      exact⟨I,H⟩)
   exact⟨L,_,by rw[i];simpa using n,p,e1,_,_,_,_,_,_,_,_,_,rfl⟩
  .have F:¬0<hs.length-st:=by lia
   obtain⟨ρ',e1,b,rfl⟩:=d8 (gt:=ah 6) (fb:=y7) D.int (λk ρ=>∃b:AR,ρ=[↑(.scr ns),↑(.tup (rows.map aq)),↑(.lst (hs.map ar)),↑(.int st),some (.ow []),↑(.int (hs.length-st)),b,none,none,none]) a []
    [↑(.scr ns),↑(.tup (rows.map aq)),↑(.lst (hs.map ar)),↑(.int st),some (.ow []),↑(.int (hs.length-st)),none,none,none,none] ⟨_,rfl⟩ (by
     rintro q c r ρ e ⟨b,rfl⟩;refine⟨_,[↑(.scr ns),↑(.tup (rows.map aq)),↑(.lst (hs.map ar)),↑(.int st),some (.ow []),↑(.int (hs.length-st)),↑(.int c),none,none,none],rfl,?_,_,rfl⟩
     simp[y7,h0,F])
   exact⟨[],_,by simp,by simp,e1,_,_,_,_,_,_,_,_,_,rfl⟩
 obtain⟨L,ρ',m,p,e1,y0,y,A,z,w,b,f,h,d,rfl⟩:=g;refine⟨L,m,p,?_⟩
 have v:Yj .e (L.map Rl.ei)=.tup [.str "eithers",.tup (L.map λl=>aE (.ei l))]:=by
  unfold Yj;rw[Qf];rfl
 rw[v,nG,Yg (by rfl)];simp at t;simp[Jw,Yd,s,t,e1]
theorem VM(ns:AG)(y:ns.length<=63){rows:List a8}(t:SumRows rows)(n:rows.length<=1000):
 ∃R:List Sm,R.length<=63/\(∀b∈R,Lin rows b.1 b.2)/\nJ [.scr ns,.tup (rows.map ay)]=some (.tup [.str "sums",.tup (R.map cx)]):=by
 have m:=Dn ns 3 63;generalize k:(ns.drop (min 3 ns.length)).take (min 63 ns.length-min 3 ns.length)=a at m
 have p:a.length<=63:=by
  rw[<-k,List.length_take];lia
 have g:∀c,∃b:Sm,Lin rows b.1 b.2/\nI [↑(.int c),↑(.tup (rows.map ay))]=some (cx b):=λc=>by
  obtain⟨v,_,r⟩:=nX c 1865811235122147685;obtain⟨q,j,d⟩:=jS v rows.length n;obtain⟨f,o,i,e⟩:=Vy t n j;refine⟨(f,o),i,?_⟩;simp[nI,r,d,e]
 have h:∀cs:AG,∃R:List Sm,R.length=cs.length/\(∀b∈R,Lin rows b.1 b.2)/\dN (ah 0) tY nI [none,↑(.tup (rows.map ay))] (cs.map D.int)=some (R.map cx):=λcs=>by
  induction cs with
  | nil=>exact⟨[],rfl,by simp,rfl⟩
  | cons c cs u=>
    obtain⟨R,h0,i,e⟩:=u;obtain⟨b,w,s⟩:=g c;refine⟨b::R,by simp[h0],λx l=>?_,?_⟩
    .rcases qu l with rfl|l
     .exact w
     .exact i x l
    .show(nI [↑(.int c),↑(.tup (rows.map ay))]).bind _=_
     rw[s,e];rfl
 obtain⟨R,h0,i,e⟩:=h a;refine⟨R,by lia,i,?_⟩;rw[nJ,Yg (by rfl)];simp at m;simp[JC,Yd,m,ai,e]
theorem VN(ns:AG)(T:ns.length<=63){hs:AH}(Q:hs.length<=60){st:Nat}(Y:st<=hs.length)(first:AF){rows:List cy}(hr:rows.length<=100):
 ∃R:List Rl,R.length<=63/\(∀r∈R,i8 hs.length st (bK first rows (aA hs st false)) r)/\nN [.scr ns,bT first rows,.lst (hs.map ar),.int st]=some (Yj .i R):=by
 have i:=Ki hs (by lia) st none first
 rw[Vk]at i
 have V:=bG (fe:=C_) (r:=[↑(.lst (hs.map ar)),↑(.int (st:Int))]) (enc:=aZ) (λr=>bo hs.length ((aA hs st false).filter (λy=>!decide (y=r.1))++r.2)) (l:=rows) (λr _=>by
  have h:=Ki hs (by lia) st (some r.1) r.2;rw[Vl]at h;have U:Yc (aZ r)=some [.int r.1,.tup (r.2.map nD)]:=rfl;have F:ax (some r.1)=.int (r.1:Int):=rfl;rw[F]at h;unfold bo
  simp[C_,U,h])
 have H:Yc (bT first rows)=some [.str "rows",.tup (first.map nD),.tup (rows.map aZ)]:=rfl
 have E:(bK first rows (aA hs st false)).map (bo hs.length)=bo hs.length (aA hs st false++first)::rows.map (λr=>bo hs.length ((aA hs st false).filter (λy=>!decide (y=r.1))++r.2)):=by
  unfold bK;rw[Qd,Qf];rfl
 have n:0<(bK first rows (aA hs st false)).length:=by unfold bK;simp
 have w:D.lst ((aQ hs.length (aA hs st false++first)).map D.bl)=bo hs.length (aA hs st false++first):=rfl;rw[w]at i
 have v:bO (.lst [bo hs.length (aA hs st false++first)]) (.lst (rows.map (λr=>bo hs.length ((aA hs st false).filter (λy=>!decide (y=r.1))++r.2))))=some ((bK first rows (aA hs st false)).map (bo hs.length)):=by
  rw[iB (by simp;lia),E];rfl
 clear E
 generalize bK first rows (aA hs st false)=j at *
 have I:=Dn ns 3 63;generalize J:(ns.drop (min 3 ns.length)).take (min 63 ns.length-min 3 ns.length)=d at I
 have u:d.length<=63:=by
  rw[<-J,List.length_take,List.length_drop];lia
 have C:((hs.map ar).length)=(hs.length:Int):=by simp
 have m:∃(R:List Rl) (ρ':Ro),R.length<=63/\(∀r∈R,i8 hs.length st j r)/\M.forM (ah 7) i0 (d.map D.int) [↑(.scr ns),↑(bT first rows),↑(.lst (hs.map ar)),↑(.int st),some (.ow (j.map (bo hs.length))),some (.ow []),↑(.int ((hs.length:Int)-st)),none,none,none]=some (.nx ρ')/\(∃y0 N L P k O f o l,ρ'=[y0,N,L,P,k,some (.ow (R.map aE)),O,f,o,l]):=by
  by_cases h0:st<hs.length
  .obtain⟨ρ',e1,R,k,f,o,l,p,z,K,rfl⟩:=d8 (gt:=ah 7)  D.int (λA ρ=>∃(R:List Rl) (k f o l:AR),R.length=A.length/\(∀r∈R,i8 hs.length st j r)/\(k=some (.ow (j.map (bo hs.length)))\/k=some (.sh (.lst (j.map (bo hs.length)))))/\
    ρ=[↑(.scr ns),↑(bT first rows),↑(.lst (hs.map ar)),↑(.int st),k,some (.ow (R.map aE)),↑(.int ((hs.length:Int)-st)),f,o,l]) d []
    [↑(.scr ns),↑(bT first rows),↑(.lst (hs.map ar)),↑(.int st),some (.ow (j.map (bo hs.length))),some (.ow []),↑(.int ((hs.length:Int)-st)),none,none,none] ⟨[],_,_,_,_,rfl,by simp,.inl rfl,rfl⟩ (by
     rintro q c r ρ e ⟨R,k,f,o,l,p,z,K,rfl⟩
     have hq:q.length<=63:=by
      have:=congrArg List.length e;simp at this;lia
     obtain⟨Z,z8,z9,g,X⟩:=DV c h0 Q n (R:=R) (by lia) (↑(.scr ns)) (↑(bT first rows)) (↑(.lst (hs.map ar))) o l K;refine⟨_,_,rfl,X,R++[Z],_,_,_,_,by simp[p],λx s=>?_,.inr rfl,rfl⟩;rcases qw s with s|s
     .exact z x s
     .rw[List.mem_singleton]at s
      subst s
      exact g)
   exact⟨R,_,by rw[p];simpa using u,z,e1,_,_,_,_,_,_,_,_,_,rfl⟩
  .have W:¬(0:Int)<(hs.length:Int)-st:=by lia
   obtain⟨ρ',e1,f,rfl⟩:=d8 (gt:=ah 7) (fb:=i0) D.int (λA ρ=>∃f:AR,ρ=[↑(.scr ns),↑(bT first rows),↑(.lst (hs.map ar)),↑(.int st),some (.ow (j.map (bo hs.length))),some (.ow []),↑(.int ((hs.length:Int)-st)),f,none,none]) d []
    [↑(.scr ns),↑(bT first rows),↑(.lst (hs.map ar)),↑(.int st),some (.ow (j.map (bo hs.length))),some (.ow []),↑(.int ((hs.length:Int)-st)),none,none,none] ⟨_,rfl⟩ (by
     rintro q c r ρ e ⟨f,rfl⟩;refine⟨_,[↑(.scr ns),↑(bT first rows),↑(.lst (hs.map ar)),↑(.int st),some (.ow (j.map (bo hs.length))),some (.ow []),↑(.int ((hs.length:Int)-st)),↑(.int c),none,none],rfl,?_,_,rfl⟩
     simp[i0,h0,W])
   exact⟨[],_,by simp,by simp,e1,_,_,_,_,_,_,_,_,_,rfl⟩
 obtain⟨R,ρ',t,z,e1,y0,N,L,P,k,O,f,o,l,rfl⟩:=m;refine⟨R,t,z,?_⟩;have G:Yj .i R=.tup [.str "ifs",.tup (R.map aE)]:=rfl;rw[G,nN,Yg (by rfl)];simp at I;have F:ax none=.non:=rfl;rw[F]at i;have S:∀a b c:D,bf [a,b,c] 2=some c:=λa b c=>rfl;simp[JJ,Yd,H,i,S,ai,V,v,C,I,e1]
def endB(ev:AH)(e:d0):Bool:=match e.1 with
 | none=>e.2
 | some x=>aB ev x==e.2
def ES{rows:List bz}{ev:AH}(a:∀r∈rows,aB ev r.1=c5 r ev)(s:cv):(aB ev s.1==s.2)=endB ev (Yw rows s):=by
 unfold Yw
 cases b:rows.find? (λr=>r.1==s.1)with
 | none=>rfl
 | some r=>
   have c:=List.find?_some b;simp at c;rw[<-c,(a r (List.mem_of_find?_eq_some b))];unfold c5 endB;dsimp only
   cases r.2.1 with
   | none=>cases r.2.2<;>cases s.2<;>rfl
   | some x=>
     dsimp only;cases aB ev x<;>cases r.2.2<;>cases s.2<;>rfl
def ET{rows:List bz}{ev:AH}(b:∀r∈rows,aB ev r.1=c5 r ev){l:AY}(a:d3 (l.map (Yw rows))=true):so .e ev (.ei l)=true:=by
 show(l.any λs=>aB ev s.1==s.2)=true;unfold d3 at a;rw[List.any_eq_true]at a ⊢;obtain⟨e,c,a⟩:=a;obtain⟨s,hs,rfl⟩:=qy c;rw[Bool.or_eq_true]at a;rcases a with a|a
 .have h:=wq a
  refine⟨s,hs,?_⟩;rw[ES b s,h];rfl
 .have h:=wq a
  obtain⟨t,d,e⟩:=qy h
  cases hb:(aB ev s.1==s.2)with
  | true=>exact⟨s,hs,hb⟩
  | false=>
    refine⟨t,d,?_⟩;rw[ES b s]at hb;rw[ES b t,e]
    revert hb
    unfold endB gP;dsimp only
    cases (Yw rows s).1 with
    | none=>cases (Yw rows s).2<;>simp
    | some x=>cases aB ev x<;>cases (Yw rows s).2<;>simp
def EU{r:bz}{ev:AH}(a:∀x,r.2.1=some x->x<r.1):c5 r (ev.take r.1)=c5 r ev:=by
 unfold c5
 cases h:r.2.1 with
 | none=>rfl
 | some x=>
   have:=a x h;unfold aB;simp[this]
theorem VO{r:a8}{ev:AH}(b:∀x∈r.2.1,x<r.1):cQ r (ev.take r.1)=cQ r ev:=by
 unfold cQ;rw[s_ λx a=>show aB (ev.take r.1) x=aB ev x by have:=b x a;unfold aB;simp[this]]
theorem VP{rows:List bz}(i:rows.length<=1000)(L:AX){c:D}{hs:AH}(h:Yc c=some (hs.map ar))(g:hs.length<=1000){st:Nat}(a:st<=hs.length):
 y4 [eu "plan" (rows.map aq),Yj .e (L.map Rl.ei),c,.int st]=some (.bl (gQ rows L (aA hs st true) (aA hs st false))):=by
 have d:(aA hs st true).Nodup:=List.Pairwise.filter _ List.nodup_range;have b1:=jT hs h g st a true;have b2:=jT hs h g st a false;simp  [ar,if_true]at b1 b2;rw[y4,Yu,Yg (by rfl)];have f:Yc (Yj .e (L.map Rl.ei))=some [.str "eithers",.tup ((L.map Rl.ei).map aE)]:=rfl;have e:Yc (eu "plan" (rows.map aq))=some [.str "plan",.tup (rows.map aq)]:=rfl;generalize (L.map Rl.ei).map aE=j at *;simp[nq,Yd,f,e,b1,b2,(gc "plan" false),(gb (a:="eithers") (b:="nots") (by decide +kernel) false),(gc "eithers" false),(Vb i L d (aA hs st false))]
theorem VQ{rows:List a8}(m:rows.length<=1000)(l:∀r∈rows,r.2.1.length<=3700/\∀y∈r.2.1,y<60)(R:List Sm){i:D}(b:i=.tup [.str "sums",.tup (R.map cx)]){c:D}{hs:AH}(k:Yc c=some (hs.map ar))(j:hs.length<=1000){st:Nat}(d:st<=hs.length):
 y4 [eu "sums" (rows.map ay),i,c,.int st]=some (.bl (gS rows R (aA hs st true) (aA hs st false))):=by
 have f:(aA hs st true).Nodup:=List.Pairwise.filter _ List.nodup_range;have h:=Vg m l R f (aA hs st false);have b1:=jT hs k j st d true;have b2:=jT hs k j st d false;simp  [ar,Qo]at b1 b2;rw[y4,Yu,Yg (by rfl)]
 have g:Yc i=some [.str "sums",.tup (R.map cx)]:=by rw[b];rfl
 rw[<-b]at h;have e:Yc (eu "sums" (rows.map ay))=some [.str "sums",.tup (rows.map ay)]:=rfl;simp[nq,Yd,g,e,b1,b2,(gc "sums" false),(gb (a:="sums") (b:="nots") (by decide +kernel) false),(gb (a:="sums") (b:="plan") (by decide +kernel) false),h]
theorem tp{d a c:D}{st:Int}{b:Bool}(h:y4 [d,a,c,.int st]=some (.bl b)):nu [d,a,c,.int st,.str "keeper"]=some (.bl b):=by
 rw[nu,Yg (by rfl)];simp[nt,Yd,(gc "keeper" false),h]
theorem EV{rows:List a8}{f:AJ}{o:Bool}(h:Lin rows f o){x:Nat}(b:f x=true):∃r∈rows,x∈r.1::r.2.1:=by
 induction h with
 | zero=>cases b
 | @add f o h r c d=>
   by_cases g:f x=true
   .exact d g
   .refine⟨r,c,?_⟩
    have g':=by simpa using g
    have a:(f x != decide (x∈r.1::r.2.1))=true:=b;rw[g']at a;by_cases z:x∈r.1::r.2.1
    .exact z
    .rw[wm z]at a
     cases a
def EW(hs:AH)(st:Nat)(b:Bool):(aA hs st b).Pairwise (·<·):=List.Pairwise.filter _ List.pairwise_lt_range
def KI{hs:AH}{st x:Nat}(a:x∈aA hs st false):x∉aA hs st true:=λb=>by
 have e1:=(mem_ofH.mp a).2.2;rw[(mem_ofH.mp b).2.2]at e1;cases e1
theorem VR{hs:AH}{st:Nat}{first:AF}{rows:List cy}{w:Bool}{ev:AH}(D:∀x∈first,x∈aA hs st true)(d:rows.map (·.1)=aA hs st false)(t:∀r∈rows,∀x∈r.2,x∈aA hs st true)(h:∀r∈rows,∀x,x∈first->x<r.1->x∈r.2)(v:ev.length=hs.length)(C:i9 hs st first rows w ev){x:Nat}(s:st<=x)(u:x<hs.length):
 (aB ev x==w)=true↔x∈aA hs st false++first/\∀r∈rows,(aB ev r.1==w)=false->x∈(aA hs st false).filter (λy=>!decide (y=r.1))++r.2:=by
 have i:∀r∈rows,r.1∈aA hs st false:=λr b=>by rw[<-d];exact List.mem_map_of_mem b
 cases f:hs.getD x false with
 | false=>
   have a:=mem_ofH.mpr ⟨u,s,f⟩
   have q:¬x∈aA hs st true:=λz=>by have:=(mem_ofH.mp z).2.2;rw[f]at this;cases this
   constructor
   .intro j
    refine⟨List.mem_append.mpr (.inl a),λr b hd=>List.mem_append.mpr (.inl (List.mem_filter.mpr ⟨a,?_⟩))⟩;by_cases z:x=r.1
    .rw[<-z,j]at hd
     cases hd
    .simp[z]
   .intro ⟨_,g⟩
    cases j:(aB ev x==w)with
    | true=>rfl
    | false=>
      rw[<-d]at a;obtain⟨r,b,e⟩:=qy a;subst e;rcases qw (g r b j)with z|z
      .have:=(Qc z).2
       simp at this
      .exact absurd (t r b _ z) q
 | true=>
   have a:¬x∈aA hs st false:=λz=>by have:=(mem_ofH.mp z).2.2;rw[f]at this;cases this
   have n:=C x (by lia) s f
   have p:(ev.take x).length=x:=by rw[List.length_take];lia
   have o:∀y,y<x->aB (ev.take x) y=aB ev y:=λy B=>by unfold aB;simp[B]
   have c:cP first rows (ev.take x) w=true↔x∈first/\∀r∈rows,r.1<x->(aB ev r.1==w)=false->x∈r.2:=by
    unfold cP cH;rw[p,Qe,wh,List.all_eq_true];refine and_congr_right λ_=>forall_congr' λr=>forall_congr' λb=>?_;by_cases m:r.1<x
    .rw[o _ m]
     cases (aB ev r.1==w)<;>simp[m]
    .simp[m]
   have k:(aB ev x==w)=true↔cP first rows (ev.take x) w=true:=by
    rw[n]
    cases cP first rows (ev.take x) w<;>cases w<;>simp
   rw[k,c]
   have e1:x∈aA hs st false++first↔x∈first:=by rw[List.mem_append];exact⟨λz=>z.resolve_left a,.inr⟩
   have e2:∀r:cy,x∈(aA hs st false).filter (λy=>!decide (y=r.1))++r.2↔x∈r.2:=λr=>by
    rw[List.mem_append];exact⟨λz=>z.resolve_left λz=>a (Qc z).1,.inr⟩
   rw[e1];refine and_congr_right λl=>forall_congr' λr=>forall_congr' λb=>?_;rw[e2];constructor
   .intro g hd
    by_cases m:r.1<x
    .exact g m hd
    .by_cases A:x=r.1
     .exact absurd (by rw[A];exact i r b) a
     .exact h r b x l (by lia)
   .intro g _ hd
    exact g hd
theorem oA{hs:AH}{st:Nat}{first:AF}{rows:List cy}{k:Kd}{ev:AH}(q:∀x∈first,x∈aA hs st true)(l:rows.map (·.1)=aA hs st false)(B:∀r∈rows,∀x∈r.2,x∈aA hs st true)(j:∀r∈rows,∀x,x∈first->x<r.1->x∈r.2)(i:ev.length=hs.length)(A:i9 hs st first rows (decide (k=.i)) ev){r:Rl}(s:i8 hs.length st (bK first rows (aA hs st false)) r):so k ev r=true:=by
 obtain⟨b,h,rfl,_,hb,p,m⟩:=s;have W:=λx (o:st<=x) v=>VR q l B j i A o v;show((b.any λx=>aB ev x != decide (k=.i))||Bk.hd ev (decide (k=.i)) h)=true;generalize decide (k=.i)=w at *
 cases e:(b.any λx=>aB ev x != w)with
 | true=>rfl
 | false=>
   rw[List.any_eq_false]at e
   have c:∀x∈b,(aB ev x==w)=true:=λx a=>by
    have:=e x a
    cases t:(aB ev x==w)with
    | true=>rfl
    | false=>exact absurd (by unfold bne;rw[t];rfl) this
   obtain⟨y,u,f⟩:=(m (aA hs st false++first) (by unfold bK;simp) (List.all_eq_true.mpr λx a=>wj ((W x (hb x a).1 (hb x a).2).mp (c x a)).1))
   subst u;have d:=p y rfl
   exact((W y d.1 d.2).mpr ⟨f,λr n hd=>by
    obtain⟨D,z,g⟩:=m ((aA hs st false).filter (λy=>!decide (y=r.1))++r.2) ( qg _ (List.mem_map.mpr ⟨r,n,rfl⟩)) (List.all_eq_true.mpr λx a=>wj (((W x (hb x a).1 (hb x a).2).mp (c x a)).2 r n hd));cases z
    exact g⟩)
def EX{K first:AF}{q:AJ}{d:Nat}:∀x∈cO K first q d,x∈K:=λx a=>(Qc a).1
def KJ{K:AF}(a:K.Pairwise (·<·))(p:AJ):gT (K.filter p) K=true:=by
 unfold gT fD;rw[Qe];exact⟨wj (List.Pairwise.filter _ a),List.all_eq_true.mpr λx b=>wj (Qc b).1⟩
theorem VS{hs:AH}{st:Nat}{a:AJ}{rows:List cy}(p:rows.map (·.1)=aA hs st false)(n:∀r∈rows,∃q:AJ,r.2=cO (aA hs st true) ((aA hs st true).filter a) q r.1){R:List Rl}(o:∀r∈R,i8 hs.length st (bK ((aA hs st true).filter a) rows (aA hs st false)) r):
 jV ((aA hs st true).filter a) rows R (aA hs st true) (aA hs st false) hs.length=true:=by
 have g:=EW hs st true;unfold jV;rw[Qe,Qe,Qe];refine⟨⟨⟨KJ g a,wj p⟩,List.all_eq_true.mpr λr j=>?_⟩,List.all_eq_true.mpr λl u=>wj ?_⟩
 .obtain⟨q,f⟩:=n r j
  unfold dI;rw[Qe];refine⟨by rw[f];exact KJ g _,wj ?_⟩;rw[f];unfold cO;rw[List.filter_filter,List.filter_filter];refine List.filter_congr λy v=>?_;by_cases m:y<r.1
  .have t:¬r.1<y:=by lia
   simp[m,t,v]
  .simp[m]
 .unfold brk
  rw[List.filter_eq_nil_iff];intro i s;obtain⟨b,h,e,_,hb,k,d⟩:=o _ (HV (Qb s));rw[e];have:=(DU    (λx c=>(hb x c).2) (λx c=>(k x c).2) l).mpr (d l u);simp[this]
def EY{n st:Nat}{f:List AF}{r:Rl}(h:i8 n st f r):In .i n r/\fy r:=by
 obtain⟨b,o,rfl,c,e,d,_⟩:=h;exact⟨⟨.inl rfl,λx a=>(e x a).2,λx a=>(d x a).2⟩,c⟩
theorem KM(j:Nat){first:AF}(p:∀x∈first,x<60)(k:first.length<=100){rows:List cy}(l:rows.length<=100)(m:∀r∈rows,r.2.length<=100/\∀y∈r.2,y<60){hs:AH}(q:hs.length<=60){R:List Rl}(o:∀r∈R,In .i hs.length r){st:Nat}(f:st<=hs.length):
 Yu (j+1) [bT first rows,Yj .i R,.lst (hs.map ar),.int st]=some (.bl (jV first rows R (aA hs st true) (aA hs st false) hs.length)):=by
 have g:(aA hs st false).length<=100:=Qg (Qn _ _) (by simp;lia);have b1:=jT hs (c:=.lst (hs.map ar)) rfl (by lia) st f true;have b2:=jT hs (c:=.lst (hs.map ar)) rfl (by lia) st f false;simp  [ar,if_true]at b1 b2
 have e:aH [.lst (hs.map ar)]=some (.int hs.length):=by simp
 rw[Yu,Yg (by rfl)];have h:Yc (Yj .i R)=some [.str "ifs",.tup (R.map aE)]:=rfl;have i:Yc (bT first rows)=some [.str "rows",.tup (first.map nD),.tup (rows.map aZ)]:=rfl;have n:∀a b c:D,bf [a,b,c] 2=some c:=λa b c=>rfl;simp[nq,Yd,h,i,b1,b2,(gc "rows" false),(gb (a:="rows") (b:="sums") (by decide +kernel) false),(gb (a:="rows") (b:="plan") (by decide +kernel) false),(gb (a:="ifs") (b:="nots") (by decide +kernel) false),(gc "ifs" false),n,e,(Vj p k l m  (by lia) o (aA hs st true) g)]
theorem VT{n:Nat}{first:AF}(k:∀x∈first,x<60)(f:first.length<=100){rows:List cy}(m:rows.length<=100)(j:∀r∈rows,r.2.length<=100/\∀y∈r.2,y<60){hs:AH}(p:hs.length=n)(i:hs.length<=60){R:List Rl}(e:∀r∈R,In .i n r/\fy r){st:Nat}(g:st<=hs.length):
 y4 [bT first rows,Yj .n R,.lst (hs.map ar),.int st]=some (.bl (jV first rows R (aA hs st true) (aA hs st false) hs.length)):=by
 have c:=J3 (λr a=>by
  have h:=e r a
  cases r with
  | ei l=>cases h.1.1
  | su b o=>cases h.1.1
  | im b o=>exact⟨⟨.inr rfl,h.1.2⟩,h.2⟩)
 have d:R.map gO=R:=by
  refine(Qq  λr a=>?_).trans (List.map_id R);have h:=e r a
  cases r with
  | ei l=>cases h.1.1
  | su b o=>cases h.1.1
  | im b o=>rfl
 rw[d]at c;simp  [sU]at c;rw[y4,Yu,Yg (by rfl)];simp[nq,Yd,c,(KM 10 k f m j i  (λr a=>by rw[p];exact(e r a).1) g)]
theorem VU{n:Nat}{R:List Rl}(c:∀r∈R,In .i n r/\fy r):iY [Yj .i R]=some (Yj .n R):=by
 have d:=J3 c
 have a:R.map gO=R:=by
  refine(Qq  λr e=>?_).trans (List.map_id R);have h:=c r e
  cases r with
  | ei l=>cases h.1.1
  | su b o=>cases h.1.1
  | im b o=>rfl
 rw[a]at d;exact d
theorem VW(first:AF)(rows:List cy)(ev:AH)(w:Bool):
 rQ [.tup (first.map nD),.tup (rows.map aZ),.tup (ev.map D.bl),.bl w]=some (.bl (cP first rows ev w==w)):=by
 have a:((ev.map D.bl).length)=ev.length:=by simp
 have e:=dh (fc:=rO) (fe:=BR) (r:=[↑(.int ev.length),↑(.tup (ev.map D.bl)),↑(.bl w)]) (enc:=aZ) (cH ev w) aZ (l:=rows) (λr _=>by
  have b:Yc (aZ r)=some [.int r.1,.tup (r.2.map nD)]:=rfl;unfold cH;by_cases m:r.1<ev.length
  .have k:=dD m
   have c:r.1<ev.length:=by lia
   simp[rO,b,m,c,k]
  .have c:¬r.1<ev.length:=by lia
   simp[rO,b,m,c]) (λr _ _=>by simp[BR])
 have f:=bG (fe:=BS) (r:=[↑(.int ev.length)]) (enc:=aZ) (λr=>.bl (decide (ev.length∈r.2))) (l:=rows.filter (cH ev w)) (λr _=>by
  have b:Yc (aZ r)=some [.int r.1,.tup (r.2.map nD)]:=rfl;have j:=cw (c:=.tup (r.2.map nD)) ev.length r.2 false rfl
  simp[BS,b,j])
 have g:ba ((rows.filter (cH ev w)).map λr=>D.bl (decide (ev.length∈r.2)))=some ((rows.filter (cH ev w)).map λr=>decide (ev.length∈r.2)):=fW _ _
 have l:((rows.filter (cH ev w)).map λr=>decide (ev.length∈r.2)).all id=rows.all λr=>!cH ev w r||decide (ev.length∈r.2):=by
  rw[List.all_map];exact Km _ _ rows
 have d:=cw (c:=.tup (first.map nD)) ev.length first false rfl
 rw[rQ,Yg (by rfl)];unfold cP;rw[<-l];generalize ((rows.filter (cH ev w)).map λr=>decide (ev.length∈r.2))=i,((rows.filter (cH ev w)).map λr=>D.bl (decide (ev.length∈r.2)))=n,(rows.filter (cH ev w)).map aZ=o at *
 by_cases m:ev.length∈first
 .cases h:i.all id with
  | true=>simp[rP,Yd,a,ai,e,d,m,f,g,h]
  | false=>cases w<;>simp[rP,Yd,a,ai,e,d,m,f,g,h]
 .cases w<;>simp[rP,Yd,a,ai,e,d,m]
theorem KN(first:AF)(rows:List cy)(k:Kd)(R:List Rl)(c s:D)(ev:AH):
 f_ [bT first rows,Yj k R,c,s,.tup (ev.map D.bl)]=some (.bl (cP first rows ev (decide (k=.i))==decide (k=.i))):=by
 have e:Yc (bT first rows)=some [.str "rows",.tup (first.map nD),.tup (rows.map aZ)]:=rfl;have f:∀a b c:D,bf [a,b,c] 2=some c:=λa b c=>rfl;rw[f_,Yg (by rfl)];simp[rR,Yd,e,(DW (k:=k)),(gb (a:="rows") (b:="plan") (by decide +kernel) false),(gb (a:="rows") (b:="sums") (by decide +kernel) false),(gc "rows" false),f,(VW first rows ev (decide (k=.i)))]
def ew{a:Type}(key:a->Nat)(b:a->AH->Bool)(rows:List a)(ev:AH):Bool:=match rows.find? (λr=>key r==ev.length)with
 | some r=>b r ev
 | none=>false
def EZ{a:Type}{key:a->Nat}{b:a->AH->Bool}{rows:List a}(e:(rows.map key).Nodup){r:a}(d:r∈rows){ev:AH}(c:key r=ev.length):ew key b rows ev=b r ev:=by
 unfold ew;rw[<-c,Kn key e d]
def tq(H:AH):D.lst (H.map aL)=.lst (H.map ar):=by rw[EA]
theorem tr{a:D}{k:Kd}{R:List Rl}{H:AH}{st:Nat}{ev:AH}{b:Bool}(h:f_ [a,Yj k R,.tup (H.map aL),.int st,.tup (ev.map D.bl)]=some (.bl b)):jN [Kp a k R H st,cz k R H ev]=some (.bl b):=by
 rw[jN,Yg (by rfl)];have c:Yd 2 [Kp a k R H st,cz k R H ev]=[↑(Kp a k R H st),↑(cz k R H ev)]:=rfl;rw[c];have i:aT "Papered" "paper" (Kp a k R H st)=some a:=rfl;have e:aT "Papered" "book" (Kp a k R H st)=some (Yj k R):=rfl;have f:aT "Papered" "hands" (Kp a k R H st)=some (.tup (H.map aL)):=rfl;have g:aT "Papered" "start" (Kp a k R H st)=some (.int st):=rfl;have d:=Ew (Yj k R) (.tup (H.map aL)) (.lst (ev.map D.bl));rw[Ea]at d;simp[IV,i,e,f,g,d,h]
def oB{ev:AH}{i:Nat}(h:i<ev.length):aB ev i=ev[i]:=by unfold aB;simp[h]
def E1{H:AH}{st x:Nat}{b:Bool}(h:x∈aA H st b):∃e:x<H.length,st<=x/\H[x]=b:=by
 obtain⟨a,d,c⟩:=mem_ofH.mp h;refine⟨a,d,?_⟩;simpa [a]using c
def E3{H:AH}{st x:Nat}{b:Bool}(a:x<H.length)(d:st<=x)(c:H[x]=b):x∈aA H st b:=mem_ofH.mpr ⟨a,d,by simp[a,c]⟩
section
variable {H:AH}{st:Nat}
theorem KO{b:Type}{key:b->Nat}{a:b->AH->Bool}{rows:List b}(j:rows.map key=aA H st true)(g:(rows.map key).Nodup)(i:∀r∈rows,∀ev:AH,a r (ev.take (key r))=a r ev){ev:AH}(l:ev.length=H.length)(h:Kept H st (ew key a rows) ev):∀r∈rows,aB ev (key r)=a r ev:=λr c=>by
 obtain⟨e,f,k⟩:=E1     (by rw[<-j];exact List.mem_map_of_mem c)
 have d:key r<ev.length:=by lia
 rw[oB d,h _ d e f k,EZ g c (by rw[List.length_take,Nat.min_eq_left (by lia)]),i r c]
def oD{a:Type}{key:a->Nat}{rows:List a}(g:rows.map key=aA H st true){ev:AH}(f:st<=ev.length)(c:ev.length<H.length)(b:H[ev.length]=true):∃r∈rows,key r=ev.length:=by
 have:=E3 c f b;rw[<-g]at this;obtain⟨r,d,e⟩:=qy this;exact⟨r,d,e⟩
def ts(a:H.length<=16)(b:Bool):(aA H st b).length<=16:=Qg (Qn _ _) (by simpa using a)
theorem VX(ns:AG)(o:ns.length<=63)(B:H.length<=16)(e:st<=H.length):∃q L due,nC [.scr ns,.lst (H.map aL),.int st]=some (.tup q)/\nG [.scr ns,.tup q,.lst (H.map aL),.int st]=some (Yj .e L)/\Game (eu "plan" q) .e L H st due:=by
 obtain⟨rows,a,d,b⟩:=Vs ns  (by lia) e;have t:=(EW H st true).imp λh=>qm h
 have y:rows.length<=16:=by
  have:=congrArg List.length a;rw[qf]at this;have:=ts (st:=st) B true;lia
 have g:(rows.map (·.1)).Nodup:=by rw[a];exact t
 obtain⟨L,s,n,k⟩:=VL ns o  (by lia) e  (λr j x m=>by
  have h:=(d r j x m).2
  exact⟨⟨(mem_ofH.mp h).1,(mem_ofH.mp h).2.1⟩,by rw[a];exact KI h⟩)
 have f:gQ rows L (aA H st true) (aA H st false)=true:=by
  unfold gQ;rw[Qe,Qe];refine⟨⟨wj a,List.all_eq_true.mpr λr j=>?_⟩,List.all_eq_true.mpr λl i=>(n l i).2⟩;unfold d4
  cases h:r.2.1 with
  | none=>rfl
  | some x=>
    obtain⟨C,w⟩:=d r j x h;simp[C,w]
 have u:=tp (VP (rows:=rows) (by lia) L (c:=.lst (H.map ar)) rfl (by lia) e);rw[f]at u;rw[<-tq]at u b k;refine⟨rows.map aq,L.map Rl.ei,ew (λr=>r.1) c5 rows,b,k,⟨u,λev D v z=>?_,?_,λr c=>?_,λr c=>?_,by rw[qf];exact s,by lia,e,λev A E r c=>?_⟩⟩
 .obtain⟨r,c,p⟩:=oD  a D v z
  rw[EZ g c p];exact tr (Vq g c p (λx m=>by rw[<-p];exact(d r c x m).1) .e (L.map Rl.ei) _ _)
 .show(b7 (.str "plan")&&(aP (rows.map aq)&&aP []))=true
  rw[eX EH];rfl
 .obtain⟨l,i,rfl⟩:=qy c
  have:=(n l i).1.1;have v:=this.2.1;exact⟨this,by show l.length<=60;lia⟩
 .obtain⟨l,i,rfl⟩:=qy c
  exact(n l i).1.2
 .obtain⟨l,i,rfl⟩:=qy c
  exact ET (KO  a g (λr j ev=>EU λx m=>(d r j x m).1) A E) (n l i).2
end
section
variable {H:AH}{st:Nat}
def E4(r:a8):b7 (ay r)=true:=by
 show(b7 (.int r.1)&&(aP (r.2.1.map nD)&&(b7 (.bl r.2.2)&&aP [])))=true;rw[eX λ_=>rfl];rfl
def E5(r:cy):b7 (aZ r)=true:=by
 show(b7 (.int r.1)&&(aP (r.2.map nD)&&aP []))=true;rw[eX λ_=>rfl];rfl
def E6(n:Nat)(P:AJ):(fl n P).Pairwise (·<·):=List.Pairwise.filter _ List.pairwise_lt_range
def E7{l:AF}{o:Bool}(a:∀x∈l,x<H.length)(c:l.Pairwise (·<·))(b:l.length<=60):cR .s H.length (.su l o)/\sz (.su l o)<=60:=⟨⟨⟨rfl,a⟩,c⟩,b⟩
def E8{l:AF}{o:Bool}(a:∀x∈l,st<=x):Fw st (.su l o):=a
theorem VY(ns:AG)(S:ns.length<=63)(hH:H.length<=16)(n:st<=H.length):∃F L due,nH [.scr ns,.lst (H.map aL),.int st]=some (.tup F)/\nJ [.scr ns,.tup F]=some (Yj .s L)/\Game (eu "sums" F) .s L H st due:=by
 obtain⟨rows,e,b,k⟩:=Vx ns (hs:=H) (by lia) n;have Q:=(EW H st true).imp λh=>qm h
 have V:rows.length<=16:=by
  have:=congrArg List.length e;rw[qf]at this;have:=ts (st:=st) hH true;lia
 have l:(rows.map (·.1)).Nodup:=by rw[e];exact Q
 have v:∀r∈rows,r.1∈aA H st true:=λr a=>by rw[<-e];exact List.mem_map_of_mem a
 have i:=λr a=>sW (v r a)
 have A:SumRows rows:=⟨l,λr a=>(b r a).1,λr a y w=>((b r a).2 y w).1,λr a y w=>by rw[e];exact KI ((b r a).2 y w).2,λr a=>by have:=i r a;lia⟩
 obtain⟨R,O,q,p⟩:=VM ns S A (by lia)
 have T:∀r∈rows,r.2.1.length<=3700/\∀y∈r.2.1,y<60:=λr a=>by
  obtain⟨m1,U⟩:=A.mine a;have:=gh m1 U;simp at this;exact⟨by lia,λy w=>U y (by simp[w])⟩
 have s:gS rows R (aA H st true) (aA H st false)=true:=by
  unfold gS;rw[Qe,Qe];refine⟨⟨wj e,List.all_eq_true.mpr λr a=>?_⟩,List.all_eq_true.mpr λd a=>D6 A (q d a)⟩;unfold fE fD;rw[Qe];refine⟨wj (b r a).1,List.all_eq_true.mpr λx g=>?_⟩;obtain⟨g1,X⟩:=(b r a).2 x g;simp[g1,X]
 have m:D.tup [.str "sums",.tup (R.map cx)]=Yj .s (R.map λd=>Rl.su (fl 60 d.1) d.2):=by
  unfold Yj;rw[Qf];rfl
 have C:=tp (VQ (rows:=rows) (by lia) T R rfl (c:=.lst (H.map ar)) rfl (by lia) n);rw[s,m]at C;rw[m]at p;rw[<-tq]at C k
 have J:∀d∈R,∀x∈fl 60 d.1,x<H.length/\st<=x:=λd z x g=>by
  obtain⟨r,c,a⟩:=EV (q d z) (Qc g).2;rcases qu a with rfl|a
  .exact⟨i r c,(mem_ofH.mp (v r c)).2.1⟩
  .exact⟨Nat.lt_trans ((b r c).2 x a).1 (i r c),(mem_ofH.mp ((b r c).2 x a).2).2.1⟩
 obtain⟨L,t⟩:∃L,L=R.map λd=>Rl.su (fl 60 d.1) d.2:=⟨_,rfl⟩
 rw[<-t]at C p
 have I:L.length<=63:=by rw[t,qf];exact O
 have j:∀r∈L,∃f o,r=.su f o/\(∀x∈f,x<H.length/\st<=x)/\f.Pairwise (·<·)/\f.length<=60/\∀ev,(∀r∈rows,aB ev r.1=cQ r ev)->so .s ev (.su f o)=true:=λr c=>by
  rw[t]at c;obtain⟨d,z,rfl⟩:=qy c;exact⟨_,_,rfl,J d z,E6 60 d.1,Dt 60 d.1,λev M=>D7 A M (q d z)⟩
 have u:eY (eu "sums" (rows.map ay)) .s L H st (ew (λr:a8=>r.1) cQ rows):=λev W h2 Z=>by
  obtain⟨r,c,N⟩:=oD  e W h2 Z;rw[EZ l c N];exact tr (Vv l c N (λx g=>by rw[<-N];exact((b r c).2 x g).1) .s _ _ _)
 have E:=by
  show(b7 (.str "sums")&&(aP (rows.map ay)&&aP []))=true;rw[eX E4];rfl
 refine⟨rows.map ay,L,ew (λr:a8=>r.1) cQ rows,k,p,⟨C,u,E,λr c=>?_,λr c=>?_,I,by lia,n,λev Y hK r c=>?_⟩⟩
 .obtain⟨f,o,rfl,B,K,P,G⟩:=j r c
  exact E7 (λx g=>(B x g).1) K P
 .obtain⟨f,o,rfl,B,K,P,G⟩:=j r c
  exact E8 λx g=>(B x g).2
 .obtain⟨f,o,rfl,B,K,P,G⟩:=j r c
  exact G ev (KO  e l (λr a ev=>VO λx g=>((b r a).2 x g).1) Y hK)
theorem KP{first:AF}{rows:List cy}{w:Bool}{ev:AH}(f:ev.length=H.length)(c:Kept H st (λev=>cP first rows ev w==w) ev):i9 H st first rows w ev:=λb hb d e=>by
 have a:b<H.length:=by lia
 rw[oB hb];exact c b hb a d (by simpa [a]using e)
theorem KQ(ns:AG)(M:ns.length<=63)(O:H.length<=16)(e:st<=H.length):∃G L,nL [.scr ns,.lst (H.map aL),.int st]=some G/\nN [.scr ns,G,.lst (H.map aL),.int st]=some (Yj .i L)/\iY [Yj .i L]=some (Yj .n L)/\(∃due,Game G .i L H st due)/\∃due,Game G .n L H st due:=by
 obtain⟨k,rows,h,j,f⟩:=Vm ns  (by lia) e;have U:=ts (st:=st) O false;have S:=ts (st:=st) O true
 have V:rows.length<=16:=by
  have:=congrArg List.length h;rw[qf]at this;lia
 obtain⟨R,E,s,l⟩:=VN ns M  (by lia) e ((aA H st true).filter k) (rows:=rows) (by lia);have c:=λr g=>EY (s r g);have t:=VS h j s;have i:∀x∈(aA H st true).filter k,x∈aA H st true:=λx a=>(Qc a).1
 have p:∀r∈rows,∀x∈r.2,x∈aA H st true:=λr g x a=>by
  obtain⟨q,u⟩:=j r g;rw[u]at a;exact EX x a
 have n:∀x∈(aA H st true).filter k,x<60:=λx a=>by have:=sW (i x a);lia
 have m:∀r∈rows,r.2.length<=100/\∀y∈r.2,y<60:=λr g=>by
  refine⟨?_,λy W=>by have:=sW (p r g y W);lia⟩;obtain⟨q,u⟩:=j r g;rw[u];exact Qg (Qn _ _) (by lia)
 have A:((aA H st true).filter k).length<=100:=Qg (Qn _ _) (by lia)
 have w:∀r∈rows,∀x,x∈(aA H st true).filter k->x<r.1->x∈r.2:=λr g x a N=>by
  obtain⟨q,u⟩:=j r g;rw[u];exact List.mem_filter.mpr ⟨i x a,by simp[a,N]⟩
 have K:=tp ( KM 11 n A (by lia) m (by lia) (λr g=>(c r g).1) e);have kn:=tp (VT  n A (by lia) m rfl (by lia) c e);rw[t]at K kn;rw[<-tq]at K kn f l
 have C:=by
  show(b7 (.str "rows")&&(aP (((aA H st true).filter k).map nD)&&(aP (rows.map aZ)&&aP [])))=true;rw[eX E5,eX λ_=>rfl];rfl
 have D:∀r∈R,sz r<=60:=λr d=>by
  obtain⟨b,o,rfl,F,z,I,_⟩:=s r d;exact Qg (mm F λx a=>(z x a).2) (by lia)
 have v:∀r∈R,Fw st r:=λr d=>by
  obtain⟨b,o,rfl,F,z,I,_⟩:=s r d;exact⟨λx a=>(z x a).1,λx a=>(I x a).1⟩
 refine⟨_,R,f,l,VU c,⟨λev=>cP ((aA H st true).filter k) rows ev (decide (Kd.i=.i))==decide (Kd.i=.i),K,λev T Q P=>tr (KN _ rows .i R _ _ ev),C,λr d=>⟨c r d,D r d⟩,v,E,by lia,e,λev B J r d=>oA  i h p w B (KP B J) (s r d)⟩,
  ⟨λev=>cP ((aA H st true).filter k) rows ev (decide (Kd.n=.i))==decide (Kd.n=.i),kn,λev T Q P=>tr (KN _ rows .n R _ _ ev),C,λr d=>⟨?_,D r d⟩,v,E,by lia,e,λev B J r d=>oA  i h p w B (KP B J) (s r d)⟩⟩
 obtain⟨b,o,rfl,F,z,I,_⟩:=s r d;exact⟨⟨.inr rfl,λx a=>(z x a).2,λx a=>(I x a).2⟩,F⟩
end
section
variable {H:AH}{st:Nat}{ns:AG}
theorem E9(b:ns.length<=63)(h:H.length<=16)(a:st<=H.length){v:Int}(l:v=0\/v=1\/v=2\/v=3):∃e k R due,nP [.scr ns,.int v,.lst (H.map aL),.int st]=some (.tup [e,Yj k R])/\Game e k R H st due:=by
 rw[nP];rcases l with rfl|rfl|rfl|rfl
 .obtain⟨f,L,due,c,d,g⟩:=VX ns b h a
  refine⟨_,_,L,due,?_,g⟩;rw[Yg (by rfl)];have i:eu "plan" f=.tup [.str "plan",.tup f]:=rfl;rw[i];simp[nO,Yd,c,d]
 .obtain⟨f,L,due,c,d,g⟩:=VY ns b h a
  refine⟨_,_,L,due,?_,g⟩;rw[Yg (by rfl)];have i:eu "sums" f=.tup [.str "sums",.tup f]:=rfl;rw[i];simp[nO,Yd,c,d]
 .obtain⟨e,L,c,d,j,⟨due,g⟩,_⟩:=KQ ns b h a
  refine⟨e,_,L,due,?_,g⟩;rw[Yg (by rfl)];simp[nO,Yd,c,d]
 .obtain⟨e,L,c,d,j,_,⟨due,g⟩⟩:=KQ ns b h a
  refine⟨e,_,L,due,?_,g⟩;rw[Yg (by rfl)];simp[nO,Yd,c,d,j]
end
theorem E_{k:Kd}{R:List Rl}{H ev:AH}{t:Hs}{l:Addr}{c:Bool}(b:t l=some (.bls (ev++[c]))){W:D->Hs->Prop}(d:W (.bl c) (pt t l (some (.bls ev)))):sR [Wa k R H l] t W:=by
 unfold sR bj;have a:Yd 1 [Wa k R H l]=[↑(Wa k R H l)]:=rfl;rw[a];refine jg ?_ ?_
 .show(b2 (cC (Yb (b1 (ab 0) (aT "Watch" "truths")) ae) aH) (kD (.int 0)) (au false)) (dE t _)=_
  have:dE t [↑(Wa k R H l)]=[↑(cz k R H (ev++[c]))]:=by
   show([↑(aC t (aU _ _ _))]:Ro)=_;rw[gk b]
  rw[this]
  have e:¬(((ev.length:Int)+1)=0):=by lia
  simp[e]
 .exact⟨_,_,l,ev,c,rfl,b,d⟩
def ro(ns:AG)(n:Int)(b:D)(k:Kd)(R:List Rl)(H:AH)(st:Nat)(l:Addr)(c:AQ)(d a:AR):Ro:=[↑(.scr ns),↑(.int n),↑(.lst (H.map aL)),↑(.int st),↑b,↑(Yj k R),↑(Wa k R H l),↑(.lst c),d,a]
section
variable {ns:AG}{n:Int}{pp:D}{k:Kd}{R:List Rl}{H:AH}{st:Nat}{l:Addr}{BD:AQ}{y8 y9:AR}{due:AH->Bool}
theorem VZ{Q:bJ Hs->Prop}(o:∀t' a,t' l=some (.bls a)->a.length=st->Q (.nx (ro ns n pp k R H st l BD y8 y9) t')):∀(d:Nat) (ev:AH) (t:Hs),ev.length=st+d->t l=some (.bls ev)->
 iK (eE (b2 (cC (Yb (b1 (ab 6) (a7 "Watch" "evening" Yq)) ae) aH) (aa 3) fi)) JT (d+1) (ro ns n pp k R H st l BD y8 y9) t Q:=by
 have f:∀(y:AH) (t:Hs),t l=some (.bls y)->eE (b2 (cC (Yb (b1 (ab 6) (a7 "Watch" "evening" Yq)) ae) aH) (aa 3) fi) (ro ns n pp k R H st l BD y8 y9) t=some (decide (st<y.length)):=λy t hb=>by
  show(b2 _ _ fi) ([↑(aC t (.scr ns)),↑(aC t (.int n)),↑(aC t (.lst (H.map aL))),↑(aC t (.int st)),↑(aC t pp),↑(aC t (Yj k R)),↑(aC t (aU _ _ _)),↑(aC t (.lst BD)),y8.map (my t),y9.map (my t)])=_;rw[gk hb,Ek t st];have i:=Ew (Yj k R) (.tup (H.map aL)) (.lst (y.map D.bl));rw[Ea]at i
  have b:aH [.tup (y.map D.bl)]=some (.int y.length):=by simp
  simp[i,b]
 intro d
 induction d with
 | zero=>
   intro ev t g hb;refine⟨false,?_,λz=>(nomatch z),λ_=>o t ev hb (by lia)⟩;rw[f _ t hb,wm (by lia)]
 | succ d j=>
   intro ev t g hb;rcases List.eq_nil_or_concat ev with rfl|⟨h,c,rfl⟩
   .simp at g
   rw[List.concat_eq_append]at *;refine⟨true,?_,λ_=>?_,λz=>(nomatch z)⟩
   .rw[f _ t hb,wj (by lia)]
   .refine⟨jI,_,λ_ t'=>t'=pt t l (some (.bls h)),rfl,by decide,E_ hb rfl,λe t' m=>?_⟩
    subst m;exact j h _ (by simp at g;lia) Yo
abbrev KU:bJ Hs->Prop:=fun
 | .rt (.bl true) _=>True
 | _=>False
theorem Fb(g:Game pp k R H st due){A:AG}(hA:A.length<=63){t:Hs}{ev:AH}(i:t l=some (.bls ev))(j:ev.length=st):JU (ro ns n pp k R H st l BD y8 (↑(.lst (A.map D.int)))) t KU:=by
 refine⟨[Wa k R H l,pp,Yj k R,.lst (H.map aL),.int st,.lst (A.map D.int)],rfl,λd t'=>d=.bl true/\∃b,b.length=H.length/\t' l=some (.bls b),KH g i j λt' b h e=>⟨rfl,b,h,e⟩,λd t' hd=>?_⟩;obtain⟨rfl,b,h,e⟩:=hd;refine⟨false,rfl,λz=>(nomatch z),λ_=>(⟨H.length-st+1,VZ (λo e2 b1 b2=>?_) (H.length-st) b t' (by have:=g.hs;lia) e⟩)⟩;have f:=bG (fe:=Df) (r:=[]) (enc:=D.int) (λa=>D.int (1+a)) (l:=A.reverse) (λa _=>by simp[Df]);refine⟨[Wa k R H l,pp,Yj k R,.lst (H.map aL),.int st,.lst ((A.reverse.map λa=>1+a).map D.int)],?_,λd t'=>d=.bl true,KH g b1 b2 λ_ _ _ _=>rfl,λd t' hd=>by rw[hd];trivial⟩
 have c:iV (.lst (A.map D.int))=some (A.reverse.map D.int):=by
  show some (A.map D.int).reverse=_;rw[List.map_reverse]
 rw[Qf];have m:(A.reverse.map (D.int ∘ λa=>1+a))=A.reverse.map λa=>D.int (1+a):=rfl;rw[m];unfold ro;generalize (A.reverse.map λa=>D.int (1+a))=p,A.reverse.map D.int=q at *;simp[c,f,ai]
end
section
variable {ns:AG}{x0 x1 x2:Int}{n st:Nat}{pp hh bk:D}{k:Kd}{R:List Rl}{H bits:AH}{l:Addr}{due:AH->Bool}
theorem Fc(n:Nat)(h:n<=1000):cM [.int (n:Int)]=some ((List.range' 0 n).map λn:Nat=>D.int (n:Int)):=by
 rw[l9 (by lia) (by lia),fv];simp[List.range_eq_range']
theorem Fd(ns:AG)(h:ns.length<=63):dy (ns.map D.int) none (some 63)=ns.map D.int:=by
 unfold dy;have b:=HT.sIx_nat (ns.map D.int).length (ns.map D.int).length 63;rw[Nat.min_eq_right (by simpa using h)]at b;have c:HT.sIx (ns.map D.int).length (ns.map D.int).length (some 63)=(ns.map D.int).length:=b;rw[c,HT.sIx_none];exact List.take_of_length_le (by simp)
theorem Fe(g:Game pp k R H st due)(c:ns.length<=63)(hb:bits.length=H.length){t:Hs}(o:t l=some (.bls [])):JV (ro ns n pp k R H st l (bits.map D.bl) none none) t KU:=by
 have z:=g.hH;have hs:=g.hs;refine Ei  ?_ (KD (λn:Nat=>D.int n) (λi ρ f=>(∃y,ρ=ro ns n pp k R H st l (bits.map D.bl) y none)/\f l=some (.bls (bits.take i.length))) (List.range' 0 st) [] _ t _ ⟨⟨none,rfl⟩,o⟩ (λq a r ρ f Q e m w=>?_) λρ' f m=>?_)
 .unfold ro
  simp[(Fc st (by lia))]
 .obtain⟨⟨y,rfl⟩,i2⟩:=m
  have p:a=q.length/\q.length<st:=by
   rw[Qj]at e;have x:=congrArg List.length e;simp at x
   have u:(List.range' 0 st)[q.length]?=some a:=by rw[e];simp
   rw[List.getElem?_range' (by lia)]at u;lia
  obtain⟨rfl,s⟩:=p;refine⟨_,rfl,?_⟩
  have b:q.length<bits.length:=by lia
  have j:bf (bits.map D.bl) q.length=some (.bl bits[q.length]):=by
   rw[er,fx b];rfl
  refine KF (c:=bits[q.length])  rfl ?_ i2 (by rw[List.length_take];lia) (by lia) g.r λd=>?_
  .unfold ro
   simp[j]
  .refine w _ _ ⟨⟨_,rfl⟩,?_⟩
   rw[Yo,qz,w9,List.take_succ_eq_append_getElem b]
 .obtain⟨⟨y,rfl⟩,i2⟩:=m
  rw[Qj,List.length_range']at i2;obtain⟨A,v,h⟩:=VE ns c;refine jY (ρ':=ro ns n pp k R H st l (bits.map D.bl) y (↑(.lst (A.map D.int)))) ?_ (Fb g (by lia) i2 (by rw[List.length_take];lia));unfold ro;simp[(Fd ns c),h]
theorem Ff(g:Game pp k R H st due)(c:ns.length<=63)(h:Yp [.scr ns,.int 2]=some (.int x2))(j:n=H.length):iT nU [↑(.scr ns),↑(.int n),↑(.lst (H.map aL)),↑(.int st),↑pp,↑(Yj k R),none,none,none,none]=some (.rt (.bl true)):=by
 refine H_ ?_;have o:=g.hH;have e:=g.ln;refine jZ (Ez    rfl (Ef (m:=61)  (by lia) (by lia) (λr d=>⟨(g.ok r d).1,by have:=(g.ok r d).2;lia⟩) (.inl rfl)) (by simp) (EN k R) (oz H) λa t' p f m=>?_);obtain⟨bits,i,b⟩:=jS (x2/61) n (by lia);refine jY (ρ':=ro ns n pp k R H st a (bits.map D.bl) none none) ?_ (Fe g c (by lia) f);unfold ro;simp[h,b]
def Fg(b:Yp [.scr ns,.int 0]=some (.int x0))(a:1+x0/8%16=(n:Int)):i3 [↑(.scr ns),none,none,none,none,none,none,none,none,none]=sT [↑(.scr ns),↑(.int n),none,none,none,none,none,none,none,none]:=by
 simp[i3,b,a]
def Fh(b:Yp [.scr ns,.int 1]=some (.int x1))(a:nB [.int x1,.int n]=some hh):sT [↑(.scr ns),↑(.int n),none,none,none,none,none,none,none,none]=nV [↑(.scr ns),↑(.int n),↑hh,none,none,none,none,none,none,none]:=by
 simp[sT,b,a]
theorem Fi(hh:D)(b:Yp [.scr ns,.int 0]=some (.int x0))(e:Yp [.scr ns,.int 2]=some (.int x2)):
 ∃st:Nat,st<=n/\nV [↑(.scr ns),↑(.int n),↑hh,none,none,none,none,none,none,none]=sS [↑(.scr ns),↑(.int n),↑hh,↑(.int st),none,none,none,none,none,none]:=by
 have a:0<(n:Int)+1:=by lia
 have g:=Int.emod_nonneg x2 (show(n:Int)+1≠0 by lia);have f:=Int.emod_lt_of_pos x2 a
 obtain⟨s,hs⟩:∃s:Nat,x2%(n+1)=s:=⟨(x2%(n+1)).toNat,by lia⟩
 have d:aN (.int x2) (.int (n+1))=some (.int s):=by rw[<-hs];exact jE a
 have cs:x0/4%2=0\/x0/4%2=1:=by lia
 rcases cs with c|c
 .exact⟨0,by lia,by simp[nV,b,e,d,c]⟩
 .exact⟨s,by lia,by simp[nV,b,e,d,c]⟩
def Fj(b:Yp [.scr ns,.int 0]=some (.int x0))(a:nP [.scr ns,.int (x0%4),hh,.int st]=some (.tup [pp,bk])):sS [↑(.scr ns),↑(.int n),↑hh,↑(.int st),none,none,none,none,none,none]=Dk [↑(.scr ns),↑(.int n),↑hh,↑(.int st),↑pp,↑bk,none,none,none,none]:=by
 simp[sS,b,a,fj]
end
theorem law_true(ns:AG)(a:ns.length<=63):jQ [.scr ns]=some (.bl true):=by
 rw[jQ,Yg (by rfl)];have d:=jR ns 0 0 rfl;have h:=jR ns 1 1 rfl;have i:=jR ns 2 2 rfl;generalize ns.getD 0 0=f at d;generalize ns.getD 1 0=m at h
 obtain⟨n,l⟩:∃n:Nat,1+f/8%16=n:=⟨(1+f/8%16).toNat,by lia⟩
 obtain⟨H,e,b⟩:=U4 m n (by lia);rw[<-tq]at b;obtain⟨st,o,e2⟩:=Fi (n:=n) (.lst (H.map aL)) d i;obtain⟨p,k,R,due,j,g⟩:=E9 (H:=H) (st:=st) a (by lia) (by lia) (v:=f%4) (by lia);have c:Yd 10 [D.scr ns]=[↑(.scr ns),none,none,none,none,none,none,none,none,none]:=rfl;rw[c,Fg d l,Fh h b,e2,Fj d j,Dk,Ff g a i e.symm];rfl
end Lw
end
noncomputable section
namespace Op
open PySem PySem.W PyProof.Rows PySem.Calls
noncomputable abbrev pg:P7:=PySem.Challenge.pw_duskbook_k42_whole_keepers_papers_win
noncomputable def bL(i j:Nat):Stmt:=L2.inClass (Lw.top i) j
noncomputable abbrev en(P:Params)(x:Str)(t:Nat)(v:Value):DictEntry:=⟨PyData.keyHash P x,.str x t,v⟩
noncomputable abbrev fn(name a:Str)(s:Stmt)(i k c h:Value)(f:Option Addr)(d j:Value)(g b:Nat):Data:=.func ⟨name,a,L2.aDa s,.stmts (L2.aCa s),L2.aAa s,g,[],i,k,c,h,f,d,j,b⟩
noncomputable abbrev tu(l:AD):Obj:=⟨.type "tuple",none,.seq ⟨l⟩ 0,#[]⟩
noncomputable abbrev fl:Obj:=⟨.none,none,.fields #[],#[]⟩
noncomputable abbrev oZ(x:Str)(i:Nat):Obj:=⟨.none,none,fn x x (Lw.top i) .none .none .none .none none .none .none 0 0,#[]⟩
noncomputable abbrev oF(x:Str)(i:Nat)(d:Value)(c:Nat):Obj:=⟨.type "function",none,.func (fnOf x x (L2.aDa (Lw.top i)) (L2.aCa (Lw.top i)) (L2.aAa (Lw.top i)) .none .none .none d none (.ref c) .none),#[]⟩
noncomputable abbrev oM(x q:Str)(i j:Nat)(d:Value)(c:Nat):Obj:=⟨.type "function",none,.func (fnOf x q (L2.aDa (L2.inClass (Lw.top i) j)) (L2.aCa (L2.inClass (Lw.top i) j)) (L2.aAa (L2.inClass (Lw.top i) j)) .none .none .none d none (.ref c) .none),#[]⟩
noncomputable abbrev oC(x:Str)(t l n b:Nat)(u v:Value)(c k e:Nat):Obj:=⟨.type "code",none,.fields #[.str x t,.str x (t+1),.str "/claim/cut.py" (t+2),.int (.ofNat l) 0,.int (.ofNat n) 0,.int 0 0,.int 0 0,.int 3 0,.ref b,.bool true,.int (.ofNat k) 0,.ref (b+1),.none,u,v,.ref c,.int (.ofNat e) 0,.int (.ofNat l) 0,.str "/claim/cut.py" (e+1)],#[]⟩
noncomputable abbrev p0:Value:=(.str "duskbook.adding" 187)
noncomputable abbrev p1:Value:=(.str "duskbook.parts" 207)
noncomputable abbrev p2:Value:=(.str "duskbook.roads" 225)
noncomputable abbrev p3:Value:=(.str "duskbook.blends" 249)
noncomputable abbrev p4:Value:=(.str "duskbook.books" 360)
noncomputable abbrev p5:Value:=(.str "duskbook.deriving" 477)
noncomputable abbrev p6:Value:=(.str "duskbook.storming" 520)
noncomputable abbrev p7:Value:=(.str "duskbook.playing" 634)
noncomputable abbrev p8:Value:=(.str "duskbook.settlers" 719)
noncomputable abbrev p9:Value:=(.str "duskbook.keeping" 864)
noncomputable abbrev KW:Value:=(.str "duskbook.checking" 969)
noncomputable abbrev dn:Value:=(.str "duskbook.watches" 982)
noncomputable abbrev bp:Value:=(.str "law_duskbook_k42_whole_keepers_papers_win" 1075)
def V0(P:Params):List DictEntry:=[en P "__doc__" 166 .none,en P "__package__" 167 .none,en P "__loader__" 168 (.builtin "__main__.__loader__#opaque"),en P "__spec__" 169 .none,en P "__annotations__" 170 (.ref 6),en P "__builtins__" 171 (.ref 4),en P "__file__" 173 (.str "/claim/cut.py" 172),en P "__cached__" 174 .none,en P "both_added" 196 (.ref 21),en P "added" 206 (.ref 28),en P "HANDS" 211 (.ref 29),en P "beacons_with" 217 (.ref 34),en P "is_rising" 224 (.ref 41),en P "contrary" 233 (.ref 48),en P "led_to" 239 (.ref 53),en P "is_road" 248 (.ref 60),en P "EXCHANGED_KINDS" 263 (.ref 61),en P "exchanged_rule" 269 (.ref 66),en P "exchanged" 275 (.ref 71),en P "DuskError" 295 (.ref 81),en P "NoHands" 311 (.ref 94),en P "Over" 327 (.ref 106),en P "NoLight" 343 (.ref 118),en P "NoneSettled" 359 (.ref 130),en P "BEACON_COUNT" 363 (.int (60) 362),en P "either_holds" 369 (.ref 137),en P "sum_holds" 375 (.ref 142),en P "if_holds" 381 (.ref 147),en P "rule_holds" 390 (.ref 154),en P "broken_rules" 396 (.ref 159),en P "holds" 404 (.ref 166),en P "beacons_in" 410 (.ref 171),en P "beacons_of" 419 (.ref 178),en P "is_void" 427 (.ref 185),en P "without" 433 (.ref 190),en P "either_left" 439 (.ref 195),en P "sum_left" 450 (.ref 202),en P "if_left" 460 (.ref 209),en P "rule_left" 470 (.ref 216),en P "left_behind" 476 (.ref 221)]
def V1(P:Params):List DictEntry:=[en P "is_place" 486 (.ref 228),en P "body_is_known" 492 (.ref 233),en P "is_step" 502 (.ref 240),en P "is_derivation" 513 (.ref 247),en P "derived" 519 (.ref 252),en P "is_broken" 527 (.ref 257),en P "lead_there_and_back" 536 (.ref 264),en P "clash_good" 545 (.ref 271),en P "cross_good" 554 (.ref 278),en P "late_good" 565 (.ref 285),en P "odd_good" 571 (.ref 290),en P "first_ones" 577 (.ref 295),en P "is_first_part" 587 (.ref 302),en P "is_last_part" 599 (.ref 309),en P "lone_good" 611 (.ref 316),en P "either_paper_good" 621 (.ref 323),en P "storm_good" 633 (.ref 330),en P "row_of" 641 (.ref 335),en P "is_odd_count" 647 (.ref 340),en P "plan_said" 656 (.ref 347),en P "sums_said" 665 (.ref 354),en P "rows_said" 671 (.ref 359),en P "cross_said" 680 (.ref 366),en P "late_said" 689 (.ref 373),en P "odd_said" 698 (.ref 380),en P "lone_said" 704 (.ref 385),en P "said" 718 (.ref 392),en P "Settler" 766 (.ref 423),en P "Rowed" 810 (.ref 458),en P "Papered" 851 (.ref 485),en P "play_out" 863 (.ref 494),en P "rows_by_beacon" 871 (.ref 499),en P "is_plan_row" 879 (.ref 506),en P "come_to" 888 (.ref 513),en P "either_is_kept" 894 (.ref 518),en P "plan_good" 900 (.ref 523),en P "is_sum_row" 906 (.ref 528),en P "replaced" 917 (.ref 535),en P "sums_good" 923 (.ref 540),en P "are_some_of" 929 (.ref 545)]
def V2(P:Params):List DictEntry:=[en P "ahead_of" 935 (.ref 550),en P "is_row" 944 (.ref 557),en P "holds_where_lit" 950 (.ref 562),en P "rows_good" 956 (.ref 567),en P "keeper_good" 968 (.ref 574),en P "good" 981 (.ref 581),en P "is_hand" 990 (.ref 588),en P "check_hands" 996 (.ref 593),en P "Watch" 1074 (.ref 652),en P "_law_cell" 1084 (.ref 663),en P "_law_mixed" 1092 (.ref 670),en P "_law_bits" 1103 (.ref 677),en P "_law_so" 1109 (.ref 682),en P "_law_hands" 1115 (.ref 687),en P "_law_own" 1121 (.ref 692),en P "_law_plan" 1127 (.ref 697),en P "_law_comes" 1138 (.ref 704),en P "_law_either" 1148 (.ref 711),en P "_law_eithers" 1164 (.ref 718),en P "_law_sum_rows" 1170 (.ref 723),en P "_law_sum" 1176 (.ref 728),en P "_law_sums" 1182 (.ref 733),en P "_law_lit" 1194 (.ref 740),en P "_law_rows" 1200 (.ref 745),en P "_law_if" 1206 (.ref 750),en P "_law_ifs" 1212 (.ref 755),en P "_law_numbers_of" 1222 (.ref 762),en P "_law_paper" 1234 (.ref 769),en P "_law_played" 1240 (.ref 774),en P "law" 1246 (.ref 779)]
def et(P:Params):List DictEntry:=V0 P++V1 P++V2 P
noncomputable abbrev ns(P:Params)(x:DictEntry)(n k:Nat):Obj:=⟨.type "dict",none,.dict ⟨x::(et P).take n⟩ k,#[]⟩
def V3:AD:=[(.int (2) 0),(.int (0) 0),(.ref 20),(.int (4) 0),(.int (0) 0),(.ref 27),(.int (11) 0),(.int (0) 0),(.ref 33),(.int (13) 0),(.int (0) 0),(.ref 40),(.int (16) 0),(.int (0) 0),(.ref 47),(.int (18) 0),(.int (0) 0),(.ref 52),(.int (26) 0),(.int (0) 0),(.ref 59),(.int (33) 0),(.int (0) 0),(.ref 65),(.int (39) 0),(.int (0) 0),(.ref 70),(.int (43) 0),(.int (0) 0),(.ref 77),(.int (45) 0),(.int (0) 0),(.ref 90),(.int (47) 0),(.int (0) 0),(.ref 102),(.int (49) 0),(.int (0) 0),(.ref 114),(.int (51) 0)]
def V4:AD:=[(.int (0) 0),(.ref 126),(.int (55) 0),(.int (0) 0),(.ref 136),(.int (57) 0),(.int (0) 0),(.ref 141),(.int (60) 0),(.int (0) 0),(.ref 146),(.int (64) 0),(.int (0) 0),(.ref 153),(.int (70) 0),(.int (0) 0),(.ref 158),(.int (72) 0),(.int (0) 0),(.ref 165),(.int (74) 0),(.int (0) 0),(.ref 170),(.int (80) 0),(.int (0) 0),(.ref 177),(.int (85) 0),(.int (0) 0),(.ref 184),(.int (87) 0),(.int (0) 0),(.ref 189),(.int (89) 0),(.int (0) 0),(.ref 194),(.int (93) 0),(.int (0) 0),(.ref 201),(.int (99) 0),(.int (0) 0)]
def V5:AD:=[(.ref 208),(.int (106) 0),(.int (0) 0),(.ref 215),(.int (114) 0),(.int (0) 0),(.ref 220),(.int (118) 0),(.int (0) 0),(.ref 227),(.int (120) 0),(.int (0) 0),(.ref 232),(.int (122) 0),(.int (0) 0),(.ref 239),(.int (127) 0),(.int (0) 0),(.ref 246),(.int (134) 0),(.int (0) 0),(.ref 251),(.int (138) 0),(.int (0) 0),(.ref 256),(.int (140) 0),(.int (0) 0),(.ref 263),(.int (144) 0),(.int (0) 0),(.ref 270),(.int (146) 0),(.int (0) 0),(.ref 277),(.int (150) 0),(.int (0) 0),(.ref 284),(.int (154) 0),(.int (0) 0),(.ref 289)]
def V6:AD:=[(.int (161) 0),(.int (0) 0),(.ref 294),(.int (166) 0),(.int (0) 0),(.ref 301),(.int (170) 0),(.int (0) 0),(.ref 308),(.int (176) 0),(.int (0) 0),(.ref 315),(.int (182) 0),(.int (0) 0),(.ref 322),(.int (190) 0),(.int (0) 0),(.ref 329),(.int (205) 0),(.int (0) 0),(.ref 334),(.int (207) 0),(.int (0) 0),(.ref 339),(.int (209) 0),(.int (0) 0),(.ref 346),(.int (214) 0),(.int (0) 0),(.ref 353),(.int (217) 0),(.int (0) 0),(.ref 358),(.int (223) 0),(.int (0) 0),(.ref 365),(.int (230) 0),(.int (0) 0),(.ref 372),(.int (235) 0)]
def V7:AD:=[(.int (0) 0),(.ref 379),(.int (240) 0),(.int (0) 0),(.ref 384),(.int (244) 0),(.int (0) 0),(.ref 391),(.int (264) 0),(.int (0) 0),(.ref 398),(.int (274) 0),(.int (0) 0),(.ref 433),(.int (287) 0),(.int (0) 0),(.ref 466),(.int (298) 0),(.int (0) 0),(.ref 493),(.int (308) 0),(.int (0) 0),(.ref 498),(.int (310) 0),(.int (0) 0),(.ref 505),(.int (312) 0),(.int (0) 0),(.ref 512),(.int (317) 0),(.int (0) 0),(.ref 517),(.int (320) 0),(.int (0) 0),(.ref 522),(.int (325) 0),(.int (0) 0),(.ref 527),(.int (327) 0),(.int (0) 0)]
def V8:AD:=[(.ref 534),(.int (333) 0),(.int (0) 0),(.ref 539),(.int (338) 0),(.int (0) 0),(.ref 544),(.int (340) 0),(.int (0) 0),(.ref 549),(.int (342) 0),(.int (0) 0),(.ref 556),(.int (344) 0),(.int (0) 0),(.ref 561),(.int (346) 0),(.int (0) 0),(.ref 566),(.int (353) 0),(.int (0) 0),(.ref 573),(.int (366) 0),(.int (0) 0),(.ref 580),(.int (371) 0),(.int (0) 0),(.ref 587),(.int (373) 0),(.int (0) 0),(.ref 592),(.int (380) 0),(.int (0) 0),(.ref 599),(.int (420) 0),(.int (0) 0),(.ref 662),(.int (424) 0),(.int (0) 0),(.ref 669)]
def V9:AD:=[(.int (426) 0),(.int (0) 0),(.ref 676),(.int (433) 0),(.int (0) 0),(.ref 681),(.int (442) 0),(.int (0) 0),(.ref 686),(.int (444) 0),(.int (0) 0),(.ref 691),(.int (446) 0),(.int (0) 0),(.ref 696),(.int (453) 0),(.int (0) 0),(.ref 703),(.int (460) 0),(.int (0) 0),(.ref 710),(.int (467) 0),(.int (0) 0),(.ref 717),(.int (477) 0),(.int (0) 0),(.ref 722),(.int (484) 0),(.int (0) 0),(.ref 727),(.int (494) 0),(.int (0) 0),(.ref 732),(.int (497) 0),(.int (0) 0),(.ref 739),(.int (502) 0),(.int (0) 0),(.ref 744),(.int (512) 0)]
def V_:AD:=[(.int (0) 0),(.ref 749),(.int (520) 0),(.int (0) 0),(.ref 754),(.int (532) 0),(.int (0) 0),(.ref 761),(.int (540) 0),(.int (0) 0),(.ref 768),(.int (552) 0),(.int (0) 0),(.ref 773),(.int (561) 0),(.int (0) 0),(.ref 778)]
def ff:AD:=V3++V4++V5++V6++V7++V8++V9++V_
noncomputable abbrev ft(n:Nat):Obj:=⟨.none,none,.fields ⟨ff.take n⟩,#[]⟩
noncomputable abbrev dF(x:Str)(i l n t b:Nat)(a:Value)(k:Nat):List Obj:=[tu [],fl,oZ x i,oC x t l n b .none .none (b+2) k (t+3),oF x i a (b+3)]
noncomputable abbrev dG(x:Str)(i l n t b:Nat)(a:Value)(k:Nat)(u:AD):List Obj:=[tu [],fl,tu u,tu [],oZ x i,oC x t l n b (.ref (b+2)) (.ref (b+3)) (b+4) k (t+3+u.length),oF x i a (b+5)]
def Wb(P:Params):List Obj:=[boot_o_0 P,boot_o_1 P,boot_o_2 P,ns P (en P "__name__" 165 (.str "law_duskbook_k42_whole_keepers_papers_win" 1075)) 110 111,boot_o_4 P,boot_o_5 P,boot_o_6 P,boot_o_7 P,boot_o_8 P,boot_o_9 P,boot_o_10 P,tu [],ft 297,⟨(.type "code"),none,(.fields #[(.str "<module>" 182),(.str "<module>" 183),(.str "/claim/cut.py" 184),(.int (1) 0),(.int (0) 0),(.int (0) 0),(.int (0) 0),(.int (0) 0),(.ref 11),(.bool false),(.int (181) 0),(.ref 12),.none,.none,.none,.none,(.int (185) 0),(.int (1) 0),(.str "/claim/cut.py" 186)]),#[]⟩,⟨(.type "frame"),none,.plain,#[(some (.ref 13)),(some (.ref 3)),(some (.ref 3)),none,(some (.str "__main__" 164)),none,(some (.ref 0))]⟩]++(dG "both_added" 1 2 2 189 15 p0 181 [(.str "rule" 192),(.str "other" 193)]++(dG "added" 2 4 2 197 22 p0 181 [(.str "book" 200),(.str "places" 201),(.str "whole" 202),(.str "place" 203)]++([tu [(.str "keeper" 209),(.str "storm" 210)]]++(dF "beacons_with" 5 11 3 212 30 p1 181++(dG "is_rising" 6 13 1 218 35 p1 181 [(.str "numbers" 221)]++(dG "contrary" 8 16 1 227 42 p2 181 [(.str "saying" 230)]++(dF "led_to" 9 18 2 234 49 p2 181++(dG "is_road" 10 26 2 240 54 p2 181 [(.str "book" 243),(.str "road" 244),(.str "place" 245)]++([⟨(.type "dict"),none,(.dict #[en P "eithers" 251 (.str "eithers" 252),en P "sums" 253 (.str "sums" 254),en P "ifs" 255 (.str "nots" 256),en P "nots" 257 (.str "ifs" 258)] 4),#[]⟩]++(dF "exchanged_rule" 13 33 2 264 62 p3 181++(dF "exchanged" 14 39 1 270 67 p3 181++([tu [(.type "ValueError")],⟨(.type "builtin_function_or_method"),none,(.fields #[(.builtin "type.__prepare__"),(.type "type")]),#[]⟩,⟨(.type "dict"),none,(.dict #[en P "__module__" 285 (.str "duskbook.errors" 276),en P "__qualname__" 287 (.str "DuskError" 286),en P "__firstlineno__" 289 (.int (43) 288),en P "__static_attributes__" 290 (.ref 79)] 4),#[]⟩,tu [],fl,⟨(.type "code"),none,(.fields #[(.str "DuskError" 280),(.str "DuskError" 281),(.str "/claim/cut.py" 282),(.int (43) 0),(.int (0) 0),(.int (0) 0),(.int (0) 0),(.int (0) 0),(.ref 75),(.bool false),(.int (181) 0),(.ref 76),.none,.none,.none,.none,(.int (283) 0),(.int (43) 0),(.str "/claim/cut.py" 284)]),#[]⟩,⟨(.type "frame"),none,.plain,#[(some (.ref 77)),(some (.ref 3)),(some (.ref 74)),none,(some (.str "duskbook.errors" 276)),none,(some (.ref 0))]⟩,tu [],⟨(.type "dict"),none,(.dict #[en P "__module__" 285 (.str "duskbook.errors" 276),en P "__firstlineno__" 289 (.int (43) 288),en P "__static_attributes__" 290 (.ref 79),en P "__weakref__" 292 (.ref 82),en P "__doc__" 293 .none] 3),#[]⟩,⟨(.type "type"),none,(.cls ⟨"DuskError",[(.type "ValueError")],[(.ref 81),(.type "ValueError"),(.type "Exception"),(.type "BaseException"),(.type "object")],80,"DuskError",true,[],[(.ref 94),(.ref 106),(.ref 118),(.ref 130)],false,none,false⟩),#[(some (.ref 72)),none,(some (.str "DuskError" 278)),(some (.str "DuskError" 286)),(some (.builtin "ValueError.__new__")),(some (.bool true))]⟩,⟨(.type "getset_descriptor"),none,(.fields #[(.str "__weakref__" 291),(.ref 81),(.builtin "ExceptionGroup.__weakref__"),.none]),#[]⟩,⟨(.type "super"),none,(.fields #[(.ref 81),(.ref 81),(.ref 81)]),#[]⟩,⟨(.type "builtin_function_or_method"),none,(.fields #[(.builtin "object.__init_subclass__"),(.ref 81)]),#[]⟩,tu [(.ref 81)],⟨(.type "builtin_function_or_method"),none,(.fields #[(.builtin "type.__prepare__"),(.type "type")]),#[]⟩,⟨(.type "dict"),none,(.dict #[en P "__module__" 303 (.str "duskbook.errors" 276),en P "__qualname__" 305 (.str "NoHands" 304),en P "__firstlineno__" 307 (.int (45) 306),en P "__static_attributes__" 308 (.ref 92)] 4),#[]⟩,tu [],fl,⟨(.type "code"),none,(.fields #[(.str "NoHands" 298),(.str "NoHands" 299),(.str "/claim/cut.py" 300),(.int (45) 0),(.int (0) 0),(.int (0) 0),(.int (0) 0),(.int (0) 0),(.ref 88),(.bool false),(.int (181) 0),(.ref 89),.none,.none,.none,.none,(.int (301) 0),(.int (45) 0),(.str "/claim/cut.py" 302)]),#[]⟩,⟨(.type "frame"),none,.plain,#[(some (.ref 90)),(some (.ref 3)),(some (.ref 87)),none,(some (.str "duskbook.errors" 276)),none,(some (.ref 0))]⟩,tu [],⟨(.type "dict"),none,(.dict #[en P "__module__" 303 (.str "duskbook.errors" 276),en P "__firstlineno__" 307 (.int (45) 306),en P "__static_attributes__" 308 (.ref 92),en P "__doc__" 309 .none] 2),#[]⟩,⟨(.type "type"),none,(.cls ⟨"NoHands",[(.ref 81)],[(.ref 94),(.ref 81),(.type "ValueError"),(.type "Exception"),(.type "BaseException"),(.type "object")],93,"NoHands",true,[],[],false,none,false⟩),#[(some (.ref 85)),none,(some (.str "NoHands" 296)),(some (.str "NoHands" 304)),(some (.builtin "ValueError.__new__")),(some (.bool true))]⟩,⟨(.type "super"),none,(.fields #[(.ref 94),(.ref 94),(.ref 94)]),#[]⟩,⟨(.type "builtin_function_or_method"),none,(.fields #[(.builtin "object.__init_subclass__"),(.ref 94)]),#[]⟩,tu [(.ref 81)],⟨(.type "builtin_function_or_method"),none,(.fields #[(.builtin "type.__prepare__"),(.type "type")]),#[]⟩,⟨(.type "dict"),none,(.dict #[en P "__module__" 319 (.str "duskbook.errors" 276),en P "__qualname__" 321 (.str "Over" 320),en P "__firstlineno__" 323 (.int (47) 322),en P "__static_attributes__" 324 (.ref 104)] 4),#[]⟩,tu [],fl,⟨(.type "code"),none,(.fields #[(.str "Over" 314),(.str "Over" 315),(.str "/claim/cut.py" 316),(.int (47) 0),(.int (0) 0),(.int (0) 0),(.int (0) 0),(.int (0) 0),(.ref 100),(.bool false),(.int (181) 0),(.ref 101),.none,.none,.none,.none,(.int (317) 0),(.int (47) 0),(.str "/claim/cut.py" 318)]),#[]⟩,⟨(.type "frame"),none,.plain,#[(some (.ref 102)),(some (.ref 3)),(some (.ref 99)),none,(some (.str "duskbook.errors" 276)),none,(some (.ref 0))]⟩,tu [],⟨(.type "dict"),none,(.dict #[en P "__module__" 319 (.str "duskbook.errors" 276),en P "__firstlineno__" 323 (.int (47) 322),en P "__static_attributes__" 324 (.ref 104),en P "__doc__" 325 .none] 2),#[]⟩,⟨(.type "type"),none,(.cls ⟨"Over",[(.ref 81)],[(.ref 106),(.ref 81),(.type "ValueError"),(.type "Exception"),(.type "BaseException"),(.type "object")],105,"Over",true,[],[],false,none,false⟩),#[(some (.ref 97)),none,(some (.str "Over" 312)),(some (.str "Over" 320)),(some (.builtin "ValueError.__new__")),(some (.bool true))]⟩,⟨(.type "super"),none,(.fields #[(.ref 106),(.ref 106),(.ref 106)]),#[]⟩,⟨(.type "builtin_function_or_method"),none,(.fields #[(.builtin "object.__init_subclass__"),(.ref 106)]),#[]⟩,tu [(.ref 81)],⟨(.type "builtin_function_or_method"),none,(.fields #[(.builtin "type.__prepare__"),(.type "type")]),#[]⟩,⟨(.type "dict"),none,(.dict #[en P "__module__" 335 (.str "duskbook.errors" 276),en P "__qualname__" 337 (.str "NoLight" 336),en P "__firstlineno__" 339 (.int (49) 338),en P "__static_attributes__" 340 (.ref 116)] 4),#[]⟩]++([tu [],fl,⟨(.type "code"),none,(.fields #[(.str "NoLight" 330),(.str "NoLight" 331),(.str "/claim/cut.py" 332),(.int (49) 0),(.int (0) 0),(.int (0) 0),(.int (0) 0),(.int (0) 0),(.ref 112),(.bool false),(.int (181) 0),(.ref 113),.none,.none,.none,.none,(.int (333) 0),(.int (49) 0),(.str "/claim/cut.py" 334)]),#[]⟩,⟨(.type "frame"),none,.plain,#[(some (.ref 114)),(some (.ref 3)),(some (.ref 111)),none,(some (.str "duskbook.errors" 276)),none,(some (.ref 0))]⟩,tu [],⟨(.type "dict"),none,(.dict #[en P "__module__" 335 (.str "duskbook.errors" 276),en P "__firstlineno__" 339 (.int (49) 338),en P "__static_attributes__" 340 (.ref 116),en P "__doc__" 341 .none] 2),#[]⟩,⟨(.type "type"),none,(.cls ⟨"NoLight",[(.ref 81)],[(.ref 118),(.ref 81),(.type "ValueError"),(.type "Exception"),(.type "BaseException"),(.type "object")],117,"NoLight",true,[],[],false,none,false⟩),#[(some (.ref 109)),none,(some (.str "NoLight" 328)),(some (.str "NoLight" 336)),(some (.builtin "ValueError.__new__")),(some (.bool true))]⟩,⟨(.type "super"),none,(.fields #[(.ref 118),(.ref 118),(.ref 118)]),#[]⟩,⟨(.type "builtin_function_or_method"),none,(.fields #[(.builtin "object.__init_subclass__"),(.ref 118)]),#[]⟩,tu [(.ref 81)],⟨(.type "builtin_function_or_method"),none,(.fields #[(.builtin "type.__prepare__"),(.type "type")]),#[]⟩,⟨(.type "dict"),none,(.dict #[en P "__module__" 351 (.str "duskbook.errors" 276),en P "__qualname__" 353 (.str "NoneSettled" 352),en P "__firstlineno__" 355 (.int (51) 354),en P "__static_attributes__" 356 (.ref 128)] 4),#[]⟩,tu [],fl,⟨(.type "code"),none,(.fields #[(.str "NoneSettled" 346),(.str "NoneSettled" 347),(.str "/claim/cut.py" 348),(.int (51) 0),(.int (0) 0),(.int (0) 0),(.int (0) 0),(.int (0) 0),(.ref 124),(.bool false),(.int (181) 0),(.ref 125),.none,.none,.none,.none,(.int (349) 0),(.int (51) 0),(.str "/claim/cut.py" 350)]),#[]⟩,⟨(.type "frame"),none,.plain,#[(some (.ref 126)),(some (.ref 3)),(some (.ref 123)),none,(some (.str "duskbook.errors" 276)),none,(some (.ref 0))]⟩,tu [],⟨(.type "dict"),none,(.dict #[en P "__module__" 351 (.str "duskbook.errors" 276),en P "__firstlineno__" 355 (.int (51) 354),en P "__static_attributes__" 356 (.ref 128),en P "__doc__" 357 .none] 2),#[]⟩,⟨(.type "type"),none,(.cls ⟨"NoneSettled",[(.ref 81)],[(.ref 130),(.ref 81),(.type "ValueError"),(.type "Exception"),(.type "BaseException"),(.type "object")],129,"NoneSettled",true,[],[],false,none,false⟩),#[(some (.ref 121)),none,(some (.str "NoneSettled" 344)),(some (.str "NoneSettled" 352)),(some (.builtin "ValueError.__new__")),(some (.bool true))]⟩,⟨(.type "super"),none,(.fields #[(.ref 130),(.ref 130),(.ref 130)]),#[]⟩,⟨(.type "builtin_function_or_method"),none,(.fields #[(.builtin "object.__init_subclass__"),(.ref 130)]),#[]⟩]++(dF "either_holds" 23 55 2 364 133 p4 181++(dF "sum_holds" 24 57 2 370 138 p4 181++(dF "if_holds" 25 60 3 376 143 p4 181++(dG "rule_holds" 26 64 3 382 148 p4 181 [(.str "kind" 385),(.str "rule" 386),(.str "evening" 387)]++(dF "broken_rules" 27 70 2 391 155 p4 181++(dG "holds" 28 72 2 397 160 p4 181 [(.str "book" 400),(.str "evening" 401)]++(dF "beacons_in" 29 74 2 405 167 p4 181++(dG "beacons_of" 30 80 1 411 172 p4 181 [(.str "book" 414),(.str "found" 415),(.str "rule" 416)]++(dG "is_void" 31 85 2 420 179 p4 181 [(.str "kind" 423),(.str "rule" 424)]++(dF "without" 32 87 2 428 186 p4 181++(dF "either_left" 33 89 3 434 191 p4 181))))))))))))))))))))))))
def Wc(P:Params):List Obj:=dG "sum_left" 34 93 3 440 196 p4 181 [(.str "rule" 443),(.str "beacon" 444),(.str "lit" 445),(.str "beacons" 446),(.str "odd" 447)]++(dG "if_left" 35 99 3 451 203 p4 181 [(.str "rule" 454),(.str "beacon" 455),(.str "so" 456),(.str "head" 457)]++(dG "rule_left" 36 106 4 461 210 p4 181 [(.str "kind" 464),(.str "rule" 465),(.str "beacon" 466),(.str "lit" 467)]++(dF "left_behind" 37 114 3 471 217 p4 181++(dG "is_place" 39 118 2 479 222 p5 181 [(.str "book" 482),(.str "place" 483)]++(dF "body_is_known" 40 120 2 487 229 p5 181++(dG "is_step" 41 122 3 493 234 p5 181 [(.str "book" 496),(.str "known" 497),(.str "place" 498),(.str "rule" 499)]++(dG "is_derivation" 42 127 3 503 241 p5 181 [(.str "book" 506),(.str "facts" 507),(.str "places" 508),(.str "known" 509),(.str "place" 510)]++(dF "derived" 43 134 3 514 248 p5 181++(dF "is_broken" 45 138 1 522 253 p6 181++(dG "lead_there_and_back" 46 140 3 528 258 p6 181 [(.str "book" 531),(.str "road" 532),(.str "other" 533)]++(dG "clash_good" 47 144 3 537 265 p6 181 [(.str "road" 540),(.str "other" 541),(.str "book" 542)]++(dG "cross_good" 48 146 3 546 272 p6 181 [(.str "road" 549),(.str "book" 550),(.str "storms" 551)]++(dG "late_good" 49 150 5 555 279 p6 181 [(.str "road" 558),(.str "other" 559),(.str "book" 560),(.str "keepers" 561),(.str "storms" 562)]++(dF "odd_good" 50 154 3 566 286 p6 181++(dF "first_ones" 51 161 4 572 291 p6 181++(dG "is_first_part" 52 166 4 578 296 p6 181 [(.str "beacon" 581),(.str "places" 582),(.str "book" 583),(.str "storms" 584)]++(dG "is_last_part" 53 170 4 588 303 p6 181 [(.str "beacon" 591),(.str "places" 592),(.str "book" 593),(.str "facts" 594),(.str "rule" 595),(.str "known" 596)]++(dG "lone_good" 54 176 4 600 310 p6 181 [(.str "paper" 603),(.str "book" 604),(.str "keepers" 605),(.str "storms" 606),(.str "beacon" 607),(.str "facts" 608)]++(dG "either_paper_good" 55 182 4 612 317 p6 181 [(.str "paper" 615),(.str "book" 616),(.str "keepers" 617),(.str "storms" 618)]++(dG "storm_good" 56 190 4 622 324 p6 181 [(.str "paper" 625),(.str "book" 626),(.str "hands" 627),(.str "start" 628),(.str "keepers" 629),(.str "storms" 630)]++(dF "row_of" 58 205 2 636 331 p7 181++(dF "is_odd_count" 59 207 2 642 336 p7 181++(dG "plan_said" 60 209 2 648 341 p7 181 [(.str "rows" 651),(.str "evening" 652),(.str "row" 653)]++(dG "sums_said" 61 214 2 657 348 p7 181 [(.str "rows" 660),(.str "evening" 661),(.str "row" 662)]))))))))))))))))))))))))
def Wd(P:Params):List Obj:=dF "rows_said" 62 217 4 666 355 p7 181++(dG "cross_said" 63 223 2 672 360 p7 181 [(.str "road" 675),(.str "evening" 676),(.str "beacon" 677)]++(dG "late_said" 64 230 2 681 367 p7 181 [(.str "road" 684),(.str "evening" 685),(.str "is_so" 686)]++(dG "odd_said" 65 235 2 690 374 p7 181 [(.str "whole" 693),(.str "evening" 694),(.str "beacons" 695)]++(dF "lone_said" 66 240 4 699 381 p7 181++(dG "said" 67 244 5 705 386 p7 181 [(.str "paper" 708),(.str "book" 709),(.str "hands" 710),(.str "start" 711),(.str "evening" 712),(.str "word" 713),(.str "so" 714),(.str "ahead" 715)]++([tu [],⟨(.type "builtin_function_or_method"),none,(.fields #[(.builtin "type.__prepare__"),(.type "type")]),#[]⟩,⟨(.type "dict"),none,(.dict #[en P "__module__" 728 (.str "duskbook.settlers" 719),en P "__qualname__" 730 (.str "Settler" 729),en P "__firstlineno__" 732 (.int (264) 731),en P "__init__" 740 (.ref 406),en P "says" 748 (.ref 413),en P "sees" 757 (.ref 420),en P "__static_attributes__" 759 (.ref 421)] 7),#[]⟩,tu [],⟨.none,none,(.fields #[(.int (266) 0),(.int (4) 0),(.ref 405),(.int (269) 0),(.int (4) 0),(.ref 412),(.int (272) 0),(.int (4) 0),(.ref 419)]),#[]⟩,⟨(.type "code"),none,(.fields #[(.str "Settler" 723),(.str "Settler" 724),(.str "/claim/cut.py" 725),(.int (264) 0),(.int (0) 0),(.int (0) 0),(.int (0) 0),(.int (0) 0),(.ref 396),(.bool false),(.int (181) 0),(.ref 397),.none,.none,.none,.none,(.int (726) 0),(.int (264) 0),(.str "/claim/cut.py" 727)]),#[]⟩,⟨(.type "frame"),none,.plain,#[(some (.ref 398)),(some (.ref 3)),(some (.ref 395)),none,(some (.str "duskbook.settlers" 719)),none,(some (.ref 0))]⟩,tu [],fl,tu [(.str "self" 736),(.str "hand" 737)],tu [],⟨.none,none,(fn "__init__" "Settler.__init__" (bL 69 0) .none .none .none .none none .none .none 0 0),#[]⟩,⟨(.type "code"),none,(.fields #[(.str "__init__" 733),(.str "Settler.__init__" 734),(.str "/claim/cut.py" 735),(.int (266) 0),(.int (2) 0),(.int (0) 0),(.int (0) 0),(.int (3) 0),(.ref 400),(.bool true),(.int (181) 0),(.ref 401),.none,(.ref 402),(.ref 403),(.ref 404),(.int (738) 0),(.int (266) 0),(.str "/claim/cut.py" 739)]),#[]⟩,oM "__init__" "Settler.__init__" 69 0 p8 405,tu [],fl,tu [(.str "self" 744),(.str "watch" 745)],tu [],⟨.none,none,(fn "says" "Settler.says" (bL 69 1) .none .none .none .none none .none .none 0 0),#[]⟩,⟨(.type "code"),none,(.fields #[(.str "says" 741),(.str "Settler.says" 742),(.str "/claim/cut.py" 743),(.int (269) 0),(.int (2) 0),(.int (0) 0),(.int (0) 0),(.int (3) 0),(.ref 407),(.bool true),(.int (181) 0),(.ref 408),.none,(.ref 409),(.ref 410),(.ref 411),(.int (746) 0),(.int (269) 0),(.str "/claim/cut.py" 747)]),#[]⟩,oM "says" "Settler.says" 69 1 p8 412,tu [],fl,tu [(.str "self" 752),(.str "hand" 753),(.str "lit" 754)],tu [],⟨.none,none,(fn "sees" "Settler.sees" (bL 69 2) .none .none .none .none none .none .none 0 0),#[]⟩,⟨(.type "code"),none,(.fields #[(.str "sees" 749),(.str "Settler.sees" 750),(.str "/claim/cut.py" 751),(.int (272) 0),(.int (3) 0),(.int (0) 0),(.int (0) 0),(.int (3) 0),(.ref 414),(.bool true),(.int (181) 0),(.ref 415),.none,(.ref 416),(.ref 417),(.ref 418),(.int (755) 0),(.int (272) 0),(.str "/claim/cut.py" 756)]),#[]⟩,oM "sees" "Settler.sees" 69 2 p8 419,tu [(.str "hand" 758)],⟨(.type "dict"),none,(.dict #[en P "__module__" 728 (.str "duskbook.settlers" 719),en P "__firstlineno__" 732 (.int (264) 731),en P "__init__" 740 (.ref 406),en P "says" 748 (.ref 413),en P "sees" 757 (.ref 420),en P "__static_attributes__" 759 (.ref 421),en P "__dict__" 761 (.ref 424),en P "__weakref__" 763 (.ref 425),en P "__doc__" 764 .none] 4),#[]⟩,⟨(.type "type"),none,(.cls ⟨"Settler",[(.type "object")],[(.ref 423),(.type "object")],422,"Settler",true,[],[(.ref 458),(.ref 485)],false,none,false⟩),#[none,none,(some (.str "Settler" 721)),(some (.str "Settler" 729)),(some (.builtin "object.__new__")),(some (.bool true))]⟩,⟨(.type "getset_descriptor"),none,(.fields #[(.str "__dict__" 760),(.ref 423),(.builtin "function.__dict__"),(.builtin "function.__dict__#set")]),#[]⟩,⟨(.type "getset_descriptor"),none,(.fields #[(.str "__weakref__" 762),(.ref 423),(.builtin "ExceptionGroup.__weakref__"),.none]),#[]⟩,⟨(.type "super"),none,(.fields #[(.ref 423),(.ref 423),(.ref 423)]),#[]⟩,⟨(.type "builtin_function_or_method"),none,(.fields #[(.builtin "object.__init_subclass__"),(.ref 423)]),#[]⟩,tu [(.ref 423)],⟨(.type "builtin_function_or_method"),none,(.fields #[(.builtin "type.__prepare__"),(.type "type")]),#[]⟩,⟨(.type "dict"),none,(.dict #[en P "__module__" 774 (.str "duskbook.settlers" 719),en P "__qualname__" 776 (.str "Rowed" 775),en P "__firstlineno__" 778 (.int (274) 777),en P "__init__" 787 (.ref 441),en P "says" 795 (.ref 448),en P "sees" 804 (.ref 455),en P "__static_attributes__" 807 (.ref 456)] 7),#[]⟩,tu [],⟨.none,none,(.fields #[(.int (276) 0),(.int (4) 0),(.ref 440),(.int (281) 0),(.int (4) 0),(.ref 447),(.int (284) 0),(.int (4) 0),(.ref 454)]),#[]⟩]++([⟨(.type "code"),none,(.fields #[(.str "Rowed" 769),(.str "Rowed" 770),(.str "/claim/cut.py" 771),(.int (274) 0),(.int (0) 0),(.int (0) 0),(.int (0) 0),(.int (0) 0),(.ref 431),(.bool false),(.int (181) 0),(.ref 432),.none,.none,.none,.none,(.int (772) 0),(.int (274) 0),(.str "/claim/cut.py" 773)]),#[]⟩,⟨(.type "frame"),none,.plain,#[(some (.ref 433)),(some (.ref 3)),(some (.ref 430)),none,(some (.str "duskbook.settlers" 719)),none,(some (.ref 0))]⟩,tu [],fl,tu [(.str "self" 782),(.str "hand" 783),(.str "row" 784)],tu [],⟨.none,none,(fn "__init__" "Rowed.__init__" (bL 70 0) .none .none .none .none none .none .none 0 0),#[]⟩,⟨(.type "code"),none,(.fields #[(.str "__init__" 779),(.str "Rowed.__init__" 780),(.str "/claim/cut.py" 781),(.int (276) 0),(.int (3) 0),(.int (0) 0),(.int (0) 0),(.int (3) 0),(.ref 435),(.bool true),(.int (181) 0),(.ref 436),.none,(.ref 437),(.ref 438),(.ref 439),(.int (785) 0),(.int (276) 0),(.str "/claim/cut.py" 786)]),#[]⟩,oM "__init__" "Rowed.__init__" 70 0 p8 440,tu [],fl,tu [(.str "self" 791),(.str "watch" 792)],tu [],⟨.none,none,(fn "says" "Rowed.says" (bL 70 1) .none .none .none .none none .none .none 0 0),#[]⟩,⟨(.type "code"),none,(.fields #[(.str "says" 788),(.str "Rowed.says" 789),(.str "/claim/cut.py" 790),(.int (281) 0),(.int (2) 0),(.int (0) 0),(.int (0) 0),(.int (3) 0),(.ref 442),(.bool true),(.int (181) 0),(.ref 443),.none,(.ref 444),(.ref 445),(.ref 446),(.int (793) 0),(.int (281) 0),(.str "/claim/cut.py" 794)]),#[]⟩,oM "says" "Rowed.says" 70 1 p8 447,tu [],fl,tu [(.str "self" 799),(.str "hand" 800),(.str "lit" 801)],tu [],⟨.none,none,(fn "sees" "Rowed.sees" (bL 70 2) .none .none .none .none none .none .none 0 0),#[]⟩,⟨(.type "code"),none,(.fields #[(.str "sees" 796),(.str "Rowed.sees" 797),(.str "/claim/cut.py" 798),(.int (284) 0),(.int (3) 0),(.int (0) 0),(.int (0) 0),(.int (3) 0),(.ref 449),(.bool true),(.int (181) 0),(.ref 450),.none,(.ref 451),(.ref 452),(.ref 453),(.int (802) 0),(.int (284) 0),(.str "/claim/cut.py" 803)]),#[]⟩,oM "sees" "Rowed.sees" 70 2 p8 454,tu [(.str "row" 805),(.str "seen" 806)],⟨(.type "dict"),none,(.dict #[en P "__module__" 774 (.str "duskbook.settlers" 719),en P "__firstlineno__" 778 (.int (274) 777),en P "__init__" 787 (.ref 441),en P "says" 795 (.ref 448),en P "sees" 804 (.ref 455),en P "__static_attributes__" 807 (.ref 456),en P "__doc__" 808 .none] 2),#[]⟩,⟨(.type "type"),none,(.cls ⟨"Rowed",[(.ref 423)],[(.ref 458),(.ref 423),(.type "object")],457,"Rowed",true,[],[],false,none,false⟩),#[(some (.ref 428)),none,(some (.str "Rowed" 767)),(some (.str "Rowed" 775)),(some (.builtin "object.__new__")),(some (.bool true))]⟩,⟨(.type "super"),none,(.fields #[(.ref 458),(.ref 458),(.ref 458)]),#[]⟩,⟨(.type "builtin_function_or_method"),none,(.fields #[(.builtin "object.__init_subclass__"),(.ref 458)]),#[]⟩,tu [(.ref 423)],⟨(.type "builtin_function_or_method"),none,(.fields #[(.builtin "type.__prepare__"),(.type "type")]),#[]⟩,⟨(.type "dict"),none,(.dict #[en P "__module__" 818 (.str "duskbook.settlers" 719),en P "__qualname__" 820 (.str "Papered" 819),en P "__firstlineno__" 822 (.int (287) 821),en P "__init__" 835 (.ref 475),en P "says" 843 (.ref 482),en P "__static_attributes__" 848 (.ref 483)] 6),#[]⟩,tu [],⟨.none,none,(.fields #[(.int (289) 0),(.int (4) 0),(.ref 474),(.int (296) 0),(.int (4) 0),(.ref 481)]),#[]⟩,⟨(.type "code"),none,(.fields #[(.str "Papered" 813),(.str "Papered" 814),(.str "/claim/cut.py" 815),(.int (287) 0),(.int (0) 0),(.int (0) 0),(.int (0) 0),(.int (0) 0),(.ref 464),(.bool false),(.int (181) 0),(.ref 465),.none,.none,.none,.none,(.int (816) 0),(.int (287) 0),(.str "/claim/cut.py" 817)]),#[]⟩,⟨(.type "frame"),none,.plain,#[(some (.ref 466)),(some (.ref 3)),(some (.ref 463)),none,(some (.str "duskbook.settlers" 719)),none,(some (.ref 0))]⟩,tu [(.int (0) 823)],tu [],fl,tu [(.str "self" 827),(.str "hand" 828),(.str "paper" 829),(.str "book" 830),(.str "hands" 831),(.str "start" 832)],tu []]++([⟨.none,none,(fn "__init__" "Papered.__init__" (bL 71 0) .none .none .none .none none .none .none 0 0),#[]⟩,⟨(.type "code"),none,(.fields #[(.str "__init__" 824),(.str "Papered.__init__" 825),(.str "/claim/cut.py" 826),(.int (289) 0),(.int (6) 0),(.int (0) 0),(.int (0) 0),(.int (3) 0),(.ref 469),(.bool true),(.int (181) 0),(.ref 470),.none,(.ref 471),(.ref 472),(.ref 473),(.int (833) 0),(.int (289) 0),(.str "/claim/cut.py" 834)]),#[]⟩,⟨(.type "function"),none,(fn "__init__" "Papered.__init__" (bL 71 0) (.ref 468) .none .none (.str "duskbook.settlers" 719) none (.ref 474) .none 3 0),#[]⟩,tu [],fl,tu [(.str "self" 839),(.str "watch" 840)],tu [],⟨.none,none,(fn "says" "Papered.says" (bL 71 1) .none .none .none .none none .none .none 0 0),#[]⟩,⟨(.type "code"),none,(.fields #[(.str "says" 836),(.str "Papered.says" 837),(.str "/claim/cut.py" 838),(.int (296) 0),(.int (2) 0),(.int (0) 0),(.int (0) 0),(.int (3) 0),(.ref 476),(.bool true),(.int (181) 0),(.ref 477),.none,(.ref 478),(.ref 479),(.ref 480),(.int (841) 0),(.int (296) 0),(.str "/claim/cut.py" 842)]),#[]⟩,oM "says" "Papered.says" 71 1 p8 481,tu [(.str "book" 844),(.str "hands" 845),(.str "paper" 846),(.str "start" 847)],⟨(.type "dict"),none,(.dict #[en P "__module__" 818 (.str "duskbook.settlers" 719),en P "__firstlineno__" 822 (.int (287) 821),en P "__init__" 835 (.ref 475),en P "says" 843 (.ref 482),en P "__static_attributes__" 848 (.ref 483),en P "__doc__" 849 .none] 2),#[]⟩,⟨(.type "type"),none,(.cls ⟨"Papered",[(.ref 423)],[(.ref 485),(.ref 423),(.type "object")],484,"Papered",true,[],[],false,none,false⟩),#[(some (.ref 461)),none,(some (.str "Papered" 811)),(some (.str "Papered" 819)),(some (.builtin "object.__new__")),(some (.bool true))]⟩,⟨(.type "super"),none,(.fields #[(.ref 485),(.ref 485),(.ref 485)]),#[]⟩,⟨(.type "builtin_function_or_method"),none,(.fields #[(.builtin "object.__init_subclass__"),(.ref 485)]),#[]⟩]++(dG "play_out" 72 298 3 852 488 p8 181 [(.str "watch" 855),(.str "keeper" 856),(.str "storm" 857),(.str "hand" 858),(.str "mover" 859),(.str "lit" 860)]++(dF "rows_by_beacon" 74 308 1 866 495 p9 181++(dG "is_plan_row" 75 310 2 872 500 p9 181 [(.str "row" 875),(.str "storms" 876)]++(dG "come_to" 76 312 2 880 507 p9 181 [(.str "saying" 883),(.str "plan" 884),(.str "row" 885)]++(dF "either_is_kept" 77 317 2 889 514 p9 181++(dF "plan_good" 78 320 4 895 519 p9 181++(dF "is_sum_row" 79 325 2 901 524 p9 181++(dG "replaced" 80 327 2 907 529 p9 181 [(.str "rule" 910),(.str "sums" 911),(.str "whole" 912),(.str "beacon" 913),(.str "row" 914)]++(dF "sums_good" 81 333 4 918 536 p9 181++(dF "are_some_of" 82 338 2 924 541 p9 181++(dF "ahead_of" 83 340 2 930 546 p9 181++(dG "is_row" 84 342 3 936 551 p9 181 [(.str "row" 939),(.str "first" 940),(.str "keepers" 941)]++(dF "holds_where_lit" 85 344 3 945 558 p9 181++(dF "rows_good" 86 346 6 951 563 p9 181++(dG "keeper_good" 87 353 4 957 568 p9 181 [(.str "paper" 960),(.str "book" 961),(.str "hands" 962),(.str "start" 963),(.str "keepers" 964),(.str "storms" 965)]++(dG "good" 89 366 5 971 575 KW 181 [(.str "paper" 974),(.str "book" 975),(.str "hands" 976),(.str "start" 977),(.str "hand" 978)]))))))))))))))))))))))))
def We(P:Params):List Obj:=dG "is_hand" 91 371 1 984 582 dn 181 [(.str "thing" 987)]++(dF "check_hands" 92 373 2 991 589 dn 181++([tu [],⟨(.type "builtin_function_or_method"),none,(.fields #[(.builtin "type.__prepare__"),(.type "type")]),#[]⟩,⟨(.type "dict"),none,(.dict #[en P "__module__" 1004 (.str "duskbook.watches" 982),en P "__qualname__" 1006 (.str "Watch" 1005),en P "__firstlineno__" 1008 (.int (380) 1007),en P "__init__" 1017 (.ref 607),en P "turn" 1024 (.ref 614),en P "evening" 1031 (.ref 621),en P "left" 1041 (.ref 628),en P "winner" 1048 (.ref 635),en P "settle" 1056 (.ref 642),en P "back" 1063 (.ref 649),en P "__static_attributes__" 1067 (.ref 650)] 11),#[]⟩,tu [],⟨.none,none,(.fields #[(.int (382) 0),(.int (4) 0),(.ref 606),(.int (388) 0),(.int (4) 0),(.ref 613),(.int (393) 0),(.int (4) 0),(.ref 620),(.int (396) 0),(.int (4) 0),(.ref 627),(.int (402) 0),(.int (4) 0),(.ref 634),(.int (407) 0),(.int (4) 0),(.ref 641),(.int (415) 0),(.int (4) 0),(.ref 648)]),#[]⟩,⟨(.type "code"),none,(.fields #[(.str "Watch" 999),(.str "Watch" 1000),(.str "/claim/cut.py" 1001),(.int (380) 0),(.int (0) 0),(.int (0) 0),(.int (0) 0),(.int (0) 0),(.ref 597),(.bool false),(.int (181) 0),(.ref 598),.none,.none,.none,.none,(.int (1002) 0),(.int (380) 0),(.str "/claim/cut.py" 1003)]),#[]⟩,⟨(.type "frame"),none,.plain,#[(some (.ref 599)),(some (.ref 3)),(some (.ref 596)),none,(some (.str "duskbook.watches" 982)),none,(some (.ref 0))]⟩,tu [],fl,tu [(.str "self" 1012),(.str "book" 1013),(.str "hands" 1014)],tu [],⟨.none,none,(fn "__init__" "Watch.__init__" (bL 93 0) .none .none .none .none none .none .none 0 0),#[]⟩,⟨(.type "code"),none,(.fields #[(.str "__init__" 1009),(.str "Watch.__init__" 1010),(.str "/claim/cut.py" 1011),(.int (382) 0),(.int (3) 0),(.int (0) 0),(.int (0) 0),(.int (3) 0),(.ref 601),(.bool true),(.int (181) 0),(.ref 602),.none,(.ref 603),(.ref 604),(.ref 605),(.int (1015) 0),(.int (382) 0),(.str "/claim/cut.py" 1016)]),#[]⟩,oM "__init__" "Watch.__init__" 93 0 dn 606,tu [],fl,tu [(.str "self" 1021)],tu [],⟨.none,none,(fn "turn" "Watch.turn" (bL 93 1) .none .none .none .none none .none .none 0 0),#[]⟩,⟨(.type "code"),none,(.fields #[(.str "turn" 1018),(.str "Watch.turn" 1019),(.str "/claim/cut.py" 1020),(.int (388) 0),(.int (1) 0),(.int (0) 0),(.int (0) 0),(.int (3) 0),(.ref 608),(.bool true),(.int (181) 0),(.ref 609),.none,(.ref 610),(.ref 611),(.ref 612),(.int (1022) 0),(.int (388) 0),(.str "/claim/cut.py" 1023)]),#[]⟩,oM "turn" "Watch.turn" 93 1 dn 613,tu [],fl,tu [(.str "self" 1028)],tu [],⟨.none,none,(fn "evening" "Watch.evening" (bL 93 2) .none .none .none .none none .none .none 0 0),#[]⟩,⟨(.type "code"),none,(.fields #[(.str "evening" 1025),(.str "Watch.evening" 1026),(.str "/claim/cut.py" 1027),(.int (393) 0),(.int (1) 0),(.int (0) 0),(.int (0) 0),(.int (3) 0),(.ref 615),(.bool true),(.int (181) 0),(.ref 616),.none,(.ref 617),(.ref 618),(.ref 619),(.int (1029) 0),(.int (393) 0),(.str "/claim/cut.py" 1030)]),#[]⟩,oM "evening" "Watch.evening" 93 2 dn 620,tu [],fl,tu [(.str "self" 1035),(.str "book" 1036),(.str "beacon" 1037),(.str "lit" 1038)],tu [],⟨.none,none,(fn "left" "Watch.left" (bL 93 3) .none .none .none .none none .none .none 0 0),#[]⟩,⟨(.type "code"),none,(.fields #[(.str "left" 1032),(.str "Watch.left" 1033),(.str "/claim/cut.py" 1034),(.int (396) 0),(.int (1) 0),(.int (0) 0),(.int (0) 0),(.int (3) 0),(.ref 622),(.bool true),(.int (181) 0),(.ref 623),.none,(.ref 624),(.ref 625),(.ref 626),(.int (1039) 0),(.int (396) 0),(.str "/claim/cut.py" 1040)]),#[]⟩,oM "left" "Watch.left" 93 3 dn 627,tu [],fl,tu [(.str "self" 1045)],tu [],⟨.none,none,(fn "winner" "Watch.winner" (bL 93 4) .none .none .none .none none .none .none 0 0),#[]⟩]++([⟨(.type "code"),none,(.fields #[(.str "winner" 1042),(.str "Watch.winner" 1043),(.str "/claim/cut.py" 1044),(.int (402) 0),(.int (1) 0),(.int (0) 0),(.int (0) 0),(.int (3) 0),(.ref 629),(.bool true),(.int (181) 0),(.ref 630),.none,(.ref 631),(.ref 632),(.ref 633),(.int (1046) 0),(.int (402) 0),(.str "/claim/cut.py" 1047)]),#[]⟩,oM "winner" "Watch.winner" 93 4 dn 634,tu [],fl,tu [(.str "self" 1052),(.str "lit" 1053)],tu [],⟨.none,none,(fn "settle" "Watch.settle" (bL 93 5) .none .none .none .none none .none .none 0 0),#[]⟩,⟨(.type "code"),none,(.fields #[(.str "settle" 1049),(.str "Watch.settle" 1050),(.str "/claim/cut.py" 1051),(.int (407) 0),(.int (2) 0),(.int (0) 0),(.int (0) 0),(.int (3) 0),(.ref 636),(.bool true),(.int (181) 0),(.ref 637),.none,(.ref 638),(.ref 639),(.ref 640),(.int (1054) 0),(.int (407) 0),(.str "/claim/cut.py" 1055)]),#[]⟩,oM "settle" "Watch.settle" 93 5 dn 641,tu [],fl,tu [(.str "self" 1060)],tu [],⟨.none,none,(fn "back" "Watch.back" (bL 93 6) .none .none .none .none none .none .none 0 0),#[]⟩,⟨(.type "code"),none,(.fields #[(.str "back" 1057),(.str "Watch.back" 1058),(.str "/claim/cut.py" 1059),(.int (415) 0),(.int (1) 0),(.int (0) 0),(.int (0) 0),(.int (3) 0),(.ref 643),(.bool true),(.int (181) 0),(.ref 644),.none,(.ref 645),(.ref 646),(.ref 647),(.int (1061) 0),(.int (415) 0),(.str "/claim/cut.py" 1062)]),#[]⟩,oM "back" "Watch.back" 93 6 dn 648,tu [(.str "book" 1064),(.str "hands" 1065),(.str "truths" 1066)],⟨(.type "dict"),none,(.dict #[en P "__module__" 1004 (.str "duskbook.watches" 982),en P "__firstlineno__" 1008 (.int (380) 1007),en P "__init__" 1017 (.ref 607),en P "turn" 1024 (.ref 614),en P "evening" 1031 (.ref 621),en P "left" 1041 (.ref 628),en P "winner" 1048 (.ref 635),en P "settle" 1056 (.ref 642),en P "back" 1063 (.ref 649),en P "__static_attributes__" 1067 (.ref 650),en P "__dict__" 1069 (.ref 653),en P "__weakref__" 1071 (.ref 654),en P "__doc__" 1072 .none] 4),#[]⟩,⟨(.type "type"),none,(.cls ⟨"Watch",[(.type "object")],[(.ref 652),(.type "object")],651,"Watch",true,[],[],false,none,false⟩),#[none,none,(some (.str "Watch" 997)),(some (.str "Watch" 1005)),(some (.builtin "object.__new__")),(some (.bool true))]⟩,⟨(.type "getset_descriptor"),none,(.fields #[(.str "__dict__" 1068),(.ref 652),(.builtin "function.__dict__"),(.builtin "function.__dict__#set")]),#[]⟩,⟨(.type "getset_descriptor"),none,(.fields #[(.str "__weakref__" 1070),(.ref 652),(.builtin "ExceptionGroup.__weakref__"),.none]),#[]⟩,⟨(.type "super"),none,(.fields #[(.ref 652),(.ref 652),(.ref 652)]),#[]⟩,⟨(.type "builtin_function_or_method"),none,(.fields #[(.builtin "object.__init_subclass__"),(.ref 652)]),#[]⟩]++(dG "_law_cell" 95 420 2 1077 657 bp 181 [(.str "script" 1080),(.str "k" 1081)]++(dG "_law_mixed" 96 424 2 1085 664 bp 181 [(.str "cell" 1088),(.str "by" 1089)]++(dG "_law_bits" 97 426 2 1093 671 bp 181 [(.str "cell" 1096),(.str "many" 1097),(.str "left" 1098),(.str "bits" 1099),(.str "k" 1100)]++(dF "_law_so" 98 433 3 1104 678 bp 181++(dF "_law_hands" 99 442 2 1110 683 bp 181++(dF "_law_own" 100 444 3 1116 688 bp 181++(dF "_law_plan" 101 446 3 1122 693 bp 181++(dG "_law_comes" 102 453 2 1128 698 bp 181 [(.str "rows" 1131),(.str "saying" 1132),(.str "beacon" 1133),(.str "source" 1134),(.str "lit" 1135)]++(dG "_law_either" 103 460 3 1139 705 bp 181 [(.str "rows" 1142),(.str "one" 1143),(.str "other" 1144),(.str "here" 1145)]++(dG "_law_eithers" 104 467 4 1149 712 bp 181 [(.str "script" 1152),(.str "rows" 1153),(.str "hands" 1154),(.str "start" 1155),(.str "rules" 1156),(.str "many" 1157),(.str "cell" 1158),(.str "left" 1159),(.str "one" 1160),(.str "other" 1161)]++(dF "_law_sum_rows" 105 477 3 1165 719 bp 181++(dF "_law_sum" 106 484 2 1171 724 bp 181++(dF "_law_sums" 107 494 2 1177 729 bp 181++(dG "_law_lit" 108 497 4 1183 734 bp 181 [(.str "hands" 1186),(.str "start" 1187),(.str "dark" 1188),(.str "own" 1189),(.str "lit" 1190),(.str "beacon" 1191)]++(dF "_law_rows" 109 502 3 1195 741 bp 181++(dF "_law_if" 110 512 4 1201 746 bp 181++(dF "_law_ifs" 111 520 4 1207 751 bp 181++(dG "_law_numbers_of" 112 532 1 1213 756 bp 181 [(.str "cells" 1216),(.str "row" 1217),(.str "cell" 1218),(.str "number" 1219)]++(dG "_law_paper" 113 540 4 1223 763 bp 181 [(.str "script" 1226),(.str "way" 1227),(.str "hands" 1228),(.str "start" 1229),(.str "paper" 1230),(.str "book" 1231)]++(dF "_law_played" 114 552 6 1235 770 bp 181++(dF "law" 115 561 1 1241 775 bp 181))))))))))))))))))))))))
def al(P:Params):List Obj:=Wb P++Wc P++Wd P++We P
def upd(l:List (Nat×Obj))(xs:List Obj):List Obj:=l.foldl (λxs p=>xs.set p.1 p.2) xs
def ev:List Obj->List Obj
 | []=>[]
 | [x]=>[x]
 | x::_::r=>x::ev r
def bt:Nat->List Obj->BT
 | 0,_=>.nil
 | _+1,[]=>.nil
 | n+1,x::xs=>.node x (bt n (ev xs)) (bt n (ev xs.tail))
noncomputable abbrev bd:List Stmt:=behindTheImports pg
noncomputable abbrev sl(i n:Nat):List Stmt:=(bd.drop i).take n
noncomputable abbrev env:Env:={ scope:=pg.main.scope,locals:=mainNs,globals:=mainNs,cells:=[],code:=(.ref 13),frame:=some 14 }
noncomputable abbrev cE:Code:=.body bd env
noncomputable abbrev B:List Frame:=[topFrame ⟨0,0,0,0⟩]
noncomputable abbrev ss(n:Nat)(l:Params->List (Nat×Obj))(t:Nat)(w:World)(os:OsState):SharedT:=⟨bt 12 (upd (l w.params) ((al w.params).take n)),n,{},.mk [],boot_drawn,t,os⟩
def h0(P:Params):Heap:=⟨⟨upd [(3,boot_o_3 P),(12,fl)] ((al P).take 15)⟩,{}⟩
noncomputable abbrev s0(w:World)(os:OsState):Shared:=⟨h0 w.params,.mk [],boot_drawn,187,os⟩
noncomputable abbrev s1:World->OsState->SharedT:=ss 15 (λP=>[(3,boot_o_3 P),(12,fl)]) 187
noncomputable abbrev s2:World->OsState->SharedT:=ss 72 (λP=>[(3,ns P (en P "__name__" 165 (.str "duskbook.errors" 276)) 19 20),(12,ft 27)]) 278
noncomputable abbrev s3:World->OsState->SharedT:=ss 97 (λP=>[(3,ns P (en P "__name__" 165 (.str "duskbook.errors" 276)) 21 22),(12,ft 33),(81,⟨(.type "type"),none,(.cls ⟨"DuskError",[(.type "ValueError")],[(.ref 81),(.type "ValueError"),(.type "Exception"),(.type "BaseException"),(.type "object")],80,"DuskError",true,[],[(.ref 94)],false,none,false⟩),#[(some (.ref 72)),none,(some (.str "DuskError" 278)),(some (.str "DuskError" 286)),(some (.builtin "ValueError.__new__")),(some (.bool true))]⟩)]) 312
noncomputable abbrev s4:World->OsState->SharedT:=ss 109 (λP=>[(3,ns P (en P "__name__" 165 (.str "duskbook.errors" 276)) 22 23),(12,ft 36),(81,⟨(.type "type"),none,(.cls ⟨"DuskError",[(.type "ValueError")],[(.ref 81),(.type "ValueError"),(.type "Exception"),(.type "BaseException"),(.type "object")],80,"DuskError",true,[],[(.ref 94),(.ref 106)],false,none,false⟩),#[(some (.ref 72)),none,(some (.str "DuskError" 278)),(some (.str "DuskError" 286)),(some (.builtin "ValueError.__new__")),(some (.bool true))]⟩)]) 328
noncomputable abbrev s5:World->OsState->SharedT:=ss 121 (λP=>[(3,ns P (en P "__name__" 165 (.str "duskbook.errors" 276)) 23 24),(12,ft 39),(81,⟨(.type "type"),none,(.cls ⟨"DuskError",[(.type "ValueError")],[(.ref 81),(.type "ValueError"),(.type "Exception"),(.type "BaseException"),(.type "object")],80,"DuskError",true,[],[(.ref 94),(.ref 106),(.ref 118)],false,none,false⟩),#[(some (.ref 72)),none,(some (.str "DuskError" 278)),(some (.str "DuskError" 286)),(some (.builtin "ValueError.__new__")),(some (.bool true))]⟩)]) 344
noncomputable abbrev s6:World->OsState->SharedT:=ss 167 (λP=>[(3,ns P (en P "__name__" 165 (.str "duskbook.books" 360)) 31 32),(12,ft 60)]) 405
noncomputable abbrev s7:World->OsState->SharedT:=ss 248 (λP=>[(3,ns P (en P "__name__" 165 (.str "duskbook.deriving" 477)) 44 45),(12,ft 99)]) 514
noncomputable abbrev s8:World->OsState->SharedT:=ss 324 (λP=>[(3,ns P (en P "__name__" 165 (.str "duskbook.storming" 520)) 56 57),(12,ft 135)]) 622
noncomputable abbrev s9:World->OsState->SharedT:=ss 393 (λP=>[(3,ns P (en P "__name__" 165 (.str "duskbook.settlers" 719)) 67 68),(12,ft 168)]) 721
noncomputable abbrev Fl:World->OsState->SharedT:=ss 428 (λP=>[(3,ns P (en P "__name__" 165 (.str "duskbook.settlers" 719)) 68 69),(12,ft 171),(423,⟨(.type "type"),none,(.cls ⟨"Settler",[(.type "object")],[(.ref 423),(.type "object")],422,"Settler",true,[],[],false,none,false⟩),#[none,none,(some (.str "Settler" 721)),(some (.str "Settler" 729)),(some (.builtin "object.__new__")),(some (.bool true))]⟩)]) 767
noncomputable abbrev Fm:World->OsState->SharedT:=ss 461 (λP=>[(3,ns P (en P "__name__" 165 (.str "duskbook.settlers" 719)) 69 70),(12,ft 174),(423,⟨(.type "type"),none,(.cls ⟨"Settler",[(.type "object")],[(.ref 423),(.type "object")],422,"Settler",true,[],[(.ref 458)],false,none,false⟩),#[none,none,(some (.str "Settler" 721)),(some (.str "Settler" 729)),(some (.builtin "object.__new__")),(some (.bool true))]⟩)]) 811
noncomputable abbrev Fn:World->OsState->SharedT:=ss 507 (λP=>[(3,ns P (en P "__name__" 165 (.str "duskbook.keeping" 864)) 73 74),(12,ft 186)]) 880
noncomputable abbrev Fo:World->OsState->SharedT:=ss 582 (λP=>[(3,ns P (en P "__name__" 165 (.str "duskbook.watches" 982)) 86 87),(12,ft 225)]) 984
noncomputable abbrev Fp:World->OsState->SharedT:=ss 594 (λP=>[(3,ns P (en P "__name__" 165 (.str "duskbook.watches" 982)) 88 89),(12,ft 231)]) 997
noncomputable abbrev Fs:World->OsState->SharedT:=ss 657 (λP=>[(3,ns P (en P "__name__" 165 (.str "duskbook.watches" 982)) 89 90),(12,ft 234)]) 1075
noncomputable abbrev Ft:World->OsState->SharedT:=ss 734 (λP=>[(3,ns P (en P "__name__" 165 (.str "law_duskbook_k42_whole_keepers_papers_win" 1075)) 102 103),(12,ft 273)]) 1183
noncomputable abbrev Fu:World->OsState->SharedT:=ss 780 (λP=>[]) 1247
def tw(P:Params):Heap:=⟨⟨upd [] ((al P).take 780)⟩,{}⟩
noncomputable abbrev j4(w:World)(os:OsState):Shared:=⟨tw w.params,.mk [],boot_drawn,1247,os⟩
noncomputable abbrev sz(w:World)(os:OsState):Shared:=⟨boot_heap w.params,.mk [],boot_drawn,boot_toks,os⟩
def e0:∀w:World,(λos=>topGo treeTable pg w 11 (some (.ref 6)) 12 (sz w os) (topStub pg))=λos=>some (s0 w os,⟨denote treeTable cE,cE,⟨0,0,0,0⟩,B⟩):=by
 intro w;kernel_rfl
def e1:∀w:World,(λos=>segRun treeTable pg w 11 (some (.ref 6)) 1 1 (s0 w os) (blockOf bd env cE ⟨0,0,0,0⟩ B))=λos=>some (.next,(s1 w os).abs,cE,⟨0,0,0,0⟩):=by
 intro w;kernel_rfl
def e2:∀w:World,(λos=>segRunT treeTable pg w 11 (some (.ref 6)) 1 383 (s1 w os) (piecesOf (sl 0 16) env cE ⟨0,0,0,0⟩ B))=λos=>some (.next,s2 w os,cE,⟨42,0,42,8⟩):=by
 refine byRow2 "special-get-raises" ?_ ?_<;>(intro w;kernel_rfl)
def e3:∀w:World,(λos=>segRunT treeTable pg w 11 (some (.ref 6)) 1 400 (s2 w os) (piecesOf (sl 16 2) env cE ⟨42,0,42,8⟩ B))=λos=>some (.next,s3 w os,cE,⟨45,0,46,8⟩):=by
 intro w;kernel_rfl
def e4:∀w:World,(λos=>segRunT treeTable pg w 11 (some (.ref 6)) 1 214 (s3 w os) (piecesOf (sl 18 1) env cE ⟨45,0,46,8⟩ B))=λos=>some (.next,s4 w os,cE,⟨47,0,48,8⟩):=by
 intro w;kernel_rfl
def e5:∀w:World,(λos=>segRunT treeTable pg w 11 (some (.ref 6)) 1 214 (s4 w os) (piecesOf (sl 19 1) env cE ⟨47,0,48,8⟩ B))=λos=>some (.next,s5 w os,cE,⟨49,0,50,8⟩):=by
 intro w;kernel_rfl
def e6:∀w:World,(λos=>segRunT treeTable pg w 11 (some (.ref 6)) 1 397 (s5 w os) (piecesOf (sl 20 9) env cE ⟨49,0,50,8⟩ B))=λos=>some (.next,s6 w os,cE,⟨72,0,73,48⟩):=by
 intro w;kernel_rfl
def e7:∀w:World,(λos=>segRunT treeTable pg w 11 (some (.ref 6)) 1 393 (s6 w os) (piecesOf (sl 29 14) env cE ⟨72,0,73,48⟩ B))=λos=>some (.next,s7 w os,cE,⟨127,0,133,15⟩):=by
 intro w;kernel_rfl
def e8:∀w:World,(λos=>segRunT treeTable pg w 11 (some (.ref 6)) 1 372 (s7 w os) (piecesOf (sl 43 13) env cE ⟨127,0,133,15⟩ B))=λos=>some (.next,s8 w os,cE,⟨182,0,189,16⟩):=by
 intro w;kernel_rfl
def e9:∀w:World,(λos=>segRunT treeTable pg w 11 (some (.ref 6)) 1 348 (s8 w os) (piecesOf (sl 56 13) env cE ⟨182,0,189,16⟩ B))=λos=>some (.next,s9 w os,cE,⟨263,0,263,8⟩):=by
 intro w;kernel_rfl
def Wf:∀w:World,(λos=>segRunT treeTable pg w 11 (some (.ref 6)) 1 288 (s9 w os) (piecesOf (sl 69 1) env cE ⟨263,0,263,8⟩ B))=λos=>some (.next,Fl w os,cE,⟨264,0,273,12⟩):=by
 intro w;kernel_rfl
def Wg:∀w:World,(λos=>segRunT treeTable pg w 11 (some (.ref 6)) 1 313 (Fl w os) (piecesOf (sl 70 1) env cE ⟨264,0,273,12⟩ B))=λos=>some (.next,Fm w os,cE,⟨274,0,286,26⟩):=by
 intro w;kernel_rfl
def Wh:∀w:World,(λos=>segRunT treeTable pg w 11 (some (.ref 6)) 1 386 (Fm w os) (piecesOf (sl 71 5) env cE ⟨274,0,286,26⟩ B))=λos=>some (.next,Fn w os,cE,⟨310,0,311,67⟩):=by
 intro w;kernel_rfl
def Wi:∀w:World,(λos=>segRunT treeTable pg w 11 (some (.ref 6)) 1 389 (Fn w os) (piecesOf (sl 76 15) env cE ⟨310,0,311,67⟩ B))=λos=>some (.next,Fo w os,cE,⟨370,0,370,8⟩):=by
 intro w;kernel_rfl
def Wj:∀w:World,(λos=>segRunT treeTable pg w 11 (some (.ref 6)) 1 56 (Fo w os) (piecesOf (sl 91 2) env cE ⟨370,0,370,8⟩ B))=λos=>some (.next,Fp w os,cE,⟨373,0,379,69⟩):=by
 intro w;kernel_rfl
def Wl:∀w:World,(λos=>segRunT treeTable pg w 11 (some (.ref 6)) 1 416 (Fp w os) (piecesOf (sl 93 1) env cE ⟨373,0,379,69⟩ B))=λos=>some (.next,Fs w os,cE,⟨380,0,418,32⟩):=by
 intro w;kernel_rfl
def Wn:∀w:World,(λos=>segRunT treeTable pg w 11 (some (.ref 6)) 1 388 (Fs w os) (piecesOf (sl 94 14) env cE ⟨380,0,418,32⟩ B))=λos=>some (.next,Ft w os,cE,⟨494,0,496,33⟩):=by
 intro w;kernel_rfl
def Wo:∀w:World,(λos=>segRunT treeTable pg w 11 (some (.ref 6)) 1 231 (Ft w os) (piecesOf (sl 108 8) env cE ⟨494,0,496,33⟩ B))=λos=>some (.next,Fu w os,cE,⟨561,0,575,102⟩):=by
 intro w;kernel_rfl
def Wp:∀w:World,(λos=>topRun treeTable pg w 11 (some (.ref 6)) 2 (Fu w os).abs ⟨doneF .next,cE,⟨561,0,575,102⟩,B⟩)=λos=>some (j4 w os):=by
 intro w;kernel_rfl
noncomputable abbrev KY:Nat:=2
noncomputable abbrev KZ:List Stmt:=[]
noncomputable abbrev R(w:World)(os:OsState)(m:Nat)(s:Shared)(t:List Stmt)(p:Pos):Prop:=topRun treeTable pg w 11 (some (.ref 6)) m s (restOf t env cE p B)=some (j4 w os)
def Wq(w:World)(os:OsState):R w os KY (Fu w os).abs KZ ⟨561,0,575,102⟩:=congrFun (Wp w) os
noncomputable abbrev K0:Nat:=231+KY
noncomputable abbrev K1:List Stmt:=sl 108 8++KZ
def Wr(w:World)(os:OsState):R w os K0 (Ft w os).abs K1 ⟨494,0,496,33⟩:=piece_app (segRun_of (congrFun (Wo w) os)) (Wq w os)
noncomputable abbrev K2:Nat:=388+K0
noncomputable abbrev K3:List Stmt:=sl 94 14++K1
def Ws(w:World)(os:OsState):R w os K2 (Fs w os).abs K3 ⟨380,0,418,32⟩:=piece_app (segRun_of (congrFun (Wn w) os)) (Wr w os)
noncomputable abbrev K4:Nat:=416+K2
noncomputable abbrev K5:List Stmt:=sl 93 1++K3
def Wt(w:World)(os:OsState):R w os K4 (Fp w os).abs K5 ⟨373,0,379,69⟩:=piece_app (segRun_of (congrFun (Wl w) os)) (Ws w os)
noncomputable abbrev K6:Nat:=56+K4
noncomputable abbrev K7:List Stmt:=sl 91 2++K5
def Wu(w:World)(os:OsState):R w os K6 (Fo w os).abs K7 ⟨370,0,370,8⟩:=piece_app (segRun_of (congrFun (Wj w) os)) (Wt w os)
noncomputable abbrev K8:Nat:=389+K6
noncomputable abbrev K9:List Stmt:=sl 76 15++K7
def Wv(w:World)(os:OsState):R w os K8 (Fn w os).abs K9 ⟨310,0,311,67⟩:=piece_app (segRun_of (congrFun (Wi w) os)) (Wu w os)
noncomputable abbrev K_:Nat:=386+K8
noncomputable abbrev La:List Stmt:=sl 71 5++K9
def Ww(w:World)(os:OsState):R w os K_ (Fm w os).abs La ⟨274,0,286,26⟩:=piece_app (segRun_of (congrFun (Wh w) os)) (Wv w os)
noncomputable abbrev Lb:Nat:=313+K_
noncomputable abbrev Lc:List Stmt:=sl 70 1++La
def Wx(w:World)(os:OsState):R w os Lb (Fl w os).abs Lc ⟨264,0,273,12⟩:=piece_app (segRun_of (congrFun (Wg w) os)) (Ww w os)
noncomputable abbrev Ld:Nat:=288+Lb
noncomputable abbrev Lf:List Stmt:=sl 69 1++Lc
def Wy(w:World)(os:OsState):R w os Ld (s9 w os).abs Lf ⟨263,0,263,8⟩:=piece_app (segRun_of (congrFun (Wf w) os)) (Wx w os)
noncomputable abbrev m9:Nat:=348+Ld
noncomputable abbrev t9:List Stmt:=sl 56 13++Lf
def r9(w:World)(os:OsState):R w os m9 (s8 w os).abs t9 ⟨182,0,189,16⟩:=piece_app (segRun_of (congrFun (e9 w) os)) (Wy w os)
noncomputable abbrev m8:Nat:=372+m9
noncomputable abbrev t8:List Stmt:=sl 43 13++t9
def r8(w:World)(os:OsState):R w os m8 (s7 w os).abs t8 ⟨127,0,133,15⟩:=piece_app (segRun_of (congrFun (e8 w) os)) (r9 w os)
noncomputable abbrev m7:Nat:=393+m8
noncomputable abbrev t7:List Stmt:=sl 29 14++t8
def r7(w:World)(os:OsState):R w os m7 (s6 w os).abs t7 ⟨72,0,73,48⟩:=piece_app (segRun_of (congrFun (e7 w) os)) (r8 w os)
noncomputable abbrev m6:Nat:=397+m7
noncomputable abbrev t6:List Stmt:=sl 20 9++t7
def r6(w:World)(os:OsState):R w os m6 (s5 w os).abs t6 ⟨49,0,50,8⟩:=piece_app (segRun_of (congrFun (e6 w) os)) (r7 w os)
noncomputable abbrev m5:Nat:=214+m6
noncomputable abbrev t5:List Stmt:=sl 19 1++t6
def r5(w:World)(os:OsState):R w os m5 (s4 w os).abs t5 ⟨47,0,48,8⟩:=piece_app (segRun_of (congrFun (e5 w) os)) (r6 w os)
noncomputable abbrev m4:Nat:=214+m5
noncomputable abbrev t4:List Stmt:=sl 18 1++t5
def r4(w:World)(os:OsState):R w os m4 (s3 w os).abs t4 ⟨45,0,46,8⟩:=piece_app (segRun_of (congrFun (e4 w) os)) (r5 w os)
noncomputable abbrev m3:Nat:=400+m4
noncomputable abbrev t3:List Stmt:=sl 16 2++t4
def r3(w:World)(os:OsState):R w os m3 (s2 w os).abs t3 ⟨42,0,42,8⟩:=piece_app (segRun_of (congrFun (e3 w) os)) (r4 w os)
noncomputable abbrev m2:Nat:=383+m3
noncomputable abbrev t2:List Stmt:=sl 0 16++t3
def r2(w:World)(os:OsState):R w os m2 (s1 w os).abs t2 ⟨0,0,0,0⟩:=piece_app (segRun_of (congrFun (e2 w) os)) (r3 w os)
def tb:bd=t2:=by kernel_rfl
def run(w:World)(os:OsState):topRun treeTable pg w 11 (some (.ref 6)) (12+(1+m2)) (sz w os) (topStub pg)=some (j4 w os):=by
 exact go_top (congrFun (e0 w) os) (piece_block (congrFun (e1 w) os) (r2 w os))
theorem op:∀w:World,(fencedOpening treeTable pg w 10470).map (λs=>(s.heap,s.gens,s.drawn,s.toks))=some (boot_heap w.params,Array.mk [],boot_drawn,boot_toks):=
 boot_open (by kernel_rfl) (by decide) (λs=>by kernel_rfl)
def size:∀w:World,((boot_heap w.params).isNs mainGlobals&&(Array.mk []:Array GenState).size==0,(boot_heap w.params).objs.size,(boot_heap w.params).nsMap mainGlobals "__annotations__")=(true,11,(some (.ref 6))):=by
 intro w;kernel_rfl
def K(P:Params):Frag:=(nat_lit 2,boot_o_2 P)::(nat_lit 3,ns P (en P "__name__" 165 (.str "law_duskbook_k42_whole_keepers_papers_win" 1075)) 110 111)::(nat_lit 20,oC "both_added" 189 2 2 15 (.ref 17) (.ref 18) 19 181 194)::(nat_lit 21,oF "both_added" 1 p0 20)::(nat_lit 27,oC "added" 197 4 2 22 (.ref 24) (.ref 25) 26 181 204)::(nat_lit 28,oF "added" 2 p0 27)::(nat_lit 29,tu [(.str "keeper" 209),(.str "storm" 210)])::(nat_lit 33,oC "beacons_with" 212 11 3 30 .none .none 32 181 215)::(nat_lit 34,oF "beacons_with" 5 p1 33)::(nat_lit 40,oC "is_rising" 218 13 1 35 (.ref 37) (.ref 38) 39 181 222)::(nat_lit 41,oF "is_rising" 6 p1 40)::(nat_lit 47,oC "contrary" 227 16 1 42 (.ref 44) (.ref 45) 46 181 231)::(nat_lit 48,oF "contrary" 8 p2 47)::(nat_lit 61,⟨(.type "dict"),none,(.dict #[en P "eithers" 251 (.str "eithers" 252),en P "sums" 253 (.str "sums" 254),en P "ifs" 255 (.str "nots" 256),en P "nots" 257 (.str "ifs" 258)] 4),#[]⟩)::(nat_lit 65,oC "exchanged_rule" 264 33 2 62 .none .none 64 181 267)::(nat_lit 66,oF "exchanged_rule" 13 p3 65)::(nat_lit 70,oC "exchanged" 270 39 1 67 .none .none 69 181 273)::(nat_lit 71,oF "exchanged" 14 p3 70)::(nat_lit 136,oC "either_holds" 364 55 2 133 .none .none 135 181 367)::(nat_lit 137,oF "either_holds" 23 p4 136)::(nat_lit 141,oC "sum_holds" 370 57 2 138 .none .none 140 181 373)::(nat_lit 142,oF "sum_holds" 24 p4 141)::(nat_lit 146,oC "if_holds" 376 60 3 143 .none .none 145 181 379)::(nat_lit 147,oF "if_holds" 25 p4 146)::(nat_lit 153,oC "rule_holds" 382 64 3 148 (.ref 150) (.ref 151) 152 181 388)::(nat_lit 154,oF "rule_holds" 26 p4 153)::(nat_lit 158,oC "broken_rules" 391 70 2 155 .none .none 157 181 394)::(nat_lit 159,oF "broken_rules" 27 p4 158)::(nat_lit 165,oC "holds" 397 72 2 160 (.ref 162) (.ref 163) 164 181 402)::(nat_lit 166,oF "holds" 28 p4 165)::(nat_lit 170,oC "beacons_in" 405 74 2 167 .none .none 169 181 408)::(nat_lit 171,oF "beacons_in" 29 p4 170)::(nat_lit 177,oC "beacons_of" 411 80 1 172 (.ref 174) (.ref 175) 176 181 417)::(nat_lit 178,oF "beacons_of" 30 p4 177)::(nat_lit 189,oC "without" 428 87 2 186 .none .none 188 181 431)::(nat_lit 190,oF "without" 32 p4 189)::(nat_lit 194,oC "either_left" 434 89 3 191 .none .none 193 181 437)::(nat_lit 195,oF "either_left" 33 p4 194)::(nat_lit 201,oC "sum_left" 440 93 3 196 (.ref 198) (.ref 199) 200 181 448)::(nat_lit 202,oF "sum_left" 34 p4 201)::(nat_lit 208,oC "if_left" 451 99 3 203 (.ref 205) (.ref 206) 207 181 458)::(nat_lit 209,oF "if_left" 35 p4 208)::(nat_lit 215,oC "rule_left" 461 106 4 210 (.ref 212) (.ref 213) 214 181 468)::(nat_lit 216,oF "rule_left" 36 p4 215)::(nat_lit 220,oC "left_behind" 471 114 3 217 .none .none 219 181 474)::(nat_lit 221,oF "left_behind" 37 p4 220)::(nat_lit 334,oC "row_of" 636 205 2 331 .none .none 333 181 639)::(nat_lit 335,oF "row_of" 58 p7 334)::(nat_lit 339,oC "is_odd_count" 642 207 2 336 .none .none 338 181 645)::(nat_lit 340,oF "is_odd_count" 59 p7 339)::(nat_lit 346,oC "plan_said" 648 209 2 341 (.ref 343) (.ref 344) 345 181 654)::(nat_lit 347,oF "plan_said" 60 p7 346)::(nat_lit 353,oC "sums_said" 657 214 2 348 (.ref 350) (.ref 351) 352 181 663)::(nat_lit 354,oF "sums_said" 61 p7 353)::(nat_lit 358,oC "rows_said" 666 217 4 355 .none .none 357 181 669)::(nat_lit 359,oF "rows_said" 62 p7 358)::(nat_lit 391,oC "said" 705 244 5 386 (.ref 388) (.ref 389) 390 181 716)::(nat_lit 392,oF "said" 67 p7 391)::(nat_lit 405,⟨(.type "code"),none,(.fields #[(.str "__init__" 733),(.str "Settler.__init__" 734),(.str "/claim/cut.py" 735),(.int (266) 0),(.int (2) 0),(.int (0) 0),(.int (0) 0),(.int (3) 0),(.ref 400),(.bool true),(.int (181) 0),(.ref 401),.none,(.ref 402),(.ref 403),(.ref 404),(.int (738) 0),(.int (266) 0),(.str "/claim/cut.py" 739)]),#[]⟩)::(nat_lit 406,oM "__init__" "Settler.__init__" 69 0 p8 405)::(nat_lit 412,⟨(.type "code"),none,(.fields #[(.str "says" 741),(.str "Settler.says" 742),(.str "/claim/cut.py" 743),(.int (269) 0),(.int (2) 0),(.int (0) 0),(.int (0) 0),(.int (3) 0),(.ref 407),(.bool true),(.int (181) 0),(.ref 408),.none,(.ref 409),(.ref 410),(.ref 411),(.int (746) 0),(.int (269) 0),(.str "/claim/cut.py" 747)]),#[]⟩)::(nat_lit 413,oM "says" "Settler.says" 69 1 p8 412)::(nat_lit 419,⟨(.type "code"),none,(.fields #[(.str "sees" 749),(.str "Settler.sees" 750),(.str "/claim/cut.py" 751),(.int (272) 0),(.int (3) 0),(.int (0) 0),(.int (0) 0),(.int (3) 0),(.ref 414),(.bool true),(.int (181) 0),(.ref 415),.none,(.ref 416),(.ref 417),(.ref 418),(.int (755) 0),(.int (272) 0),(.str "/claim/cut.py" 756)]),#[]⟩)::(nat_lit 420,oM "sees" "Settler.sees" 69 2 p8 419)::(nat_lit 422,⟨(.type "dict"),none,(.dict #[en P "__module__" 728 (.str "duskbook.settlers" 719),en P "__firstlineno__" 732 (.int (264) 731),en P "__init__" 740 (.ref 406),en P "says" 748 (.ref 413),en P "sees" 757 (.ref 420),en P "__static_attributes__" 759 (.ref 421),en P "__dict__" 761 (.ref 424),en P "__weakref__" 763 (.ref 425),en P "__doc__" 764 .none] 4),#[]⟩)::(nat_lit 423,⟨(.type "type"),none,(.cls ⟨"Settler",[(.type "object")],[(.ref 423),(.type "object")],422,"Settler",true,[],[(.ref 458),(.ref 485)],false,none,false⟩),#[none,none,(some (.str "Settler" 721)),(some (.str "Settler" 729)),(some (.builtin "object.__new__")),(some (.bool true))]⟩)::(nat_lit 440,⟨(.type "code"),none,(.fields #[(.str "__init__" 779),(.str "Rowed.__init__" 780),(.str "/claim/cut.py" 781),(.int (276) 0),(.int (3) 0),(.int (0) 0),(.int (0) 0),(.int (3) 0),(.ref 435),(.bool true),(.int (181) 0),(.ref 436),.none,(.ref 437),(.ref 438),(.ref 439),(.int (785) 0),(.int (276) 0),(.str "/claim/cut.py" 786)]),#[]⟩)::(nat_lit 441,oM "__init__" "Rowed.__init__" 70 0 p8 440)::(nat_lit 447,⟨(.type "code"),none,(.fields #[(.str "says" 788),(.str "Rowed.says" 789),(.str "/claim/cut.py" 790),(.int (281) 0),(.int (2) 0),(.int (0) 0),(.int (0) 0),(.int (3) 0),(.ref 442),(.bool true),(.int (181) 0),(.ref 443),.none,(.ref 444),(.ref 445),(.ref 446),(.int (793) 0),(.int (281) 0),(.str "/claim/cut.py" 794)]),#[]⟩)::(nat_lit 448,oM "says" "Rowed.says" 70 1 p8 447)::(nat_lit 454,⟨(.type "code"),none,(.fields #[(.str "sees" 796),(.str "Rowed.sees" 797),(.str "/claim/cut.py" 798),(.int (284) 0),(.int (3) 0),(.int (0) 0),(.int (0) 0),(.int (3) 0),(.ref 449),(.bool true),(.int (181) 0),(.ref 450),.none,(.ref 451),(.ref 452),(.ref 453),(.int (802) 0),(.int (284) 0),(.str "/claim/cut.py" 803)]),#[]⟩)::(nat_lit 455,oM "sees" "Rowed.sees" 70 2 p8 454)::(nat_lit 457,⟨(.type "dict"),none,(.dict #[en P "__module__" 774 (.str "duskbook.settlers" 719),en P "__firstlineno__" 778 (.int (274) 777),en P "__init__" 787 (.ref 441),en P "says" 795 (.ref 448),en P "sees" 804 (.ref 455),en P "__static_attributes__" 807 (.ref 456),en P "__doc__" 808 .none] 2),#[]⟩)::(nat_lit 458,⟨(.type "type"),none,(.cls ⟨"Rowed",[(.ref 423)],[(.ref 458),(.ref 423),(.type "object")],457,"Rowed",true,[],[],false,none,false⟩),#[(some (.ref 428)),none,(some (.str "Rowed" 767)),(some (.str "Rowed" 775)),(some (.builtin "object.__new__")),(some (.bool true))]⟩)::(nat_lit 468,tu [(.int (0) 823)])::(nat_lit 474,⟨(.type "code"),none,(.fields #[(.str "__init__" 824),(.str "Papered.__init__" 825),(.str "/claim/cut.py" 826),(.int (289) 0),(.int (6) 0),(.int (0) 0),(.int (0) 0),(.int (3) 0),(.ref 469),(.bool true),(.int (181) 0),(.ref 470),.none,(.ref 471),(.ref 472),(.ref 473),(.int (833) 0),(.int (289) 0),(.str "/claim/cut.py" 834)]),#[]⟩)::(nat_lit 475,⟨(.type "function"),none,(fn "__init__" "Papered.__init__" (bL 71 0) (.ref 468) .none .none (.str "duskbook.settlers" 719) none (.ref 474) .none 3 0),#[]⟩)::(nat_lit 481,⟨(.type "code"),none,(.fields #[(.str "says" 836),(.str "Papered.says" 837),(.str "/claim/cut.py" 838),(.int (296) 0),(.int (2) 0),(.int (0) 0),(.int (0) 0),(.int (3) 0),(.ref 476),(.bool true),(.int (181) 0),(.ref 477),.none,(.ref 478),(.ref 479),(.ref 480),(.int (841) 0),(.int (296) 0),(.str "/claim/cut.py" 842)]),#[]⟩)::(nat_lit 482,oM "says" "Papered.says" 71 1 p8 481)::(nat_lit 484,⟨(.type "dict"),none,(.dict #[en P "__module__" 818 (.str "duskbook.settlers" 719),en P "__firstlineno__" 822 (.int (287) 821),en P "__init__" 835 (.ref 475),en P "says" 843 (.ref 482),en P "__static_attributes__" 848 (.ref 483),en P "__doc__" 849 .none] 2),#[]⟩)::(nat_lit 485,⟨(.type "type"),none,(.cls ⟨"Papered",[(.ref 423)],[(.ref 485),(.ref 423),(.type "object")],484,"Papered",true,[],[],false,none,false⟩),#[(some (.ref 461)),none,(some (.str "Papered" 811)),(some (.str "Papered" 819)),(some (.builtin "object.__new__")),(some (.bool true))]⟩)::(nat_lit 493,oC "play_out" 852 298 3 488 (.ref 490) (.ref 491) 492 181 861)::(nat_lit 494,oF "play_out" 72 p8 493)::(nat_lit 498,oC "rows_by_beacon" 866 308 1 495 .none .none 497 181 869)::(nat_lit 499,oF "rows_by_beacon" 74 p9 498)::(nat_lit 505,oC "is_plan_row" 872 310 2 500 (.ref 502) (.ref 503) 504 181 877)::(nat_lit 506,oF "is_plan_row" 75 p9 505)::(nat_lit 512,oC "come_to" 880 312 2 507 (.ref 509) (.ref 510) 511 181 886)::(nat_lit 513,oF "come_to" 76 p9 512)::(nat_lit 517,oC "either_is_kept" 889 317 2 514 .none .none 516 181 892)::(nat_lit 518,oF "either_is_kept" 77 p9 517)::(nat_lit 522,oC "plan_good" 895 320 4 519 .none .none 521 181 898)::(nat_lit 523,oF "plan_good" 78 p9 522)::(nat_lit 527,oC "is_sum_row" 901 325 2 524 .none .none 526 181 904)::(nat_lit 528,oF "is_sum_row" 79 p9 527)::(nat_lit 534,oC "replaced" 907 327 2 529 (.ref 531) (.ref 532) 533 181 915)::(nat_lit 535,oF "replaced" 80 p9 534)::(nat_lit 539,oC "sums_good" 918 333 4 536 .none .none 538 181 921)::(nat_lit 540,oF "sums_good" 81 p9 539)::(nat_lit 544,oC "are_some_of" 924 338 2 541 .none .none 543 181 927)::(nat_lit 545,oF "are_some_of" 82 p9 544)::(nat_lit 549,oC "ahead_of" 930 340 2 546 .none .none 548 181 933)::(nat_lit 550,oF "ahead_of" 83 p9 549)::(nat_lit 556,oC "is_row" 936 342 3 551 (.ref 553) (.ref 554) 555 181 942)::(nat_lit 557,oF "is_row" 84 p9 556)::(nat_lit 561,oC "holds_where_lit" 945 344 3 558 .none .none 560 181 948)::(nat_lit 562,oF "holds_where_lit" 85 p9 561)::(nat_lit 566,oC "rows_good" 951 346 6 563 .none .none 565 181 954)::(nat_lit 567,oF "rows_good" 86 p9 566)::(nat_lit 573,oC "keeper_good" 957 353 4 568 (.ref 570) (.ref 571) 572 181 966)::(nat_lit 574,oF "keeper_good" 87 p9 573)::(nat_lit 580,oC "good" 971 366 5 575 (.ref 577) (.ref 578) 579 181 979)::(nat_lit 581,oF "good" 89 KW 580)::(nat_lit 587,oC "is_hand" 984 371 1 582 (.ref 584) (.ref 585) 586 181 988)::(nat_lit 588,oF "is_hand" 91 dn 587)::(nat_lit 592,oC "check_hands" 991 373 2 589 .none .none 591 181 994)::(nat_lit 593,oF "check_hands" 92 dn 592)::(nat_lit 606,⟨(.type "code"),none,(.fields #[(.str "__init__" 1009),(.str "Watch.__init__" 1010),(.str "/claim/cut.py" 1011),(.int (382) 0),(.int (3) 0),(.int (0) 0),(.int (0) 0),(.int (3) 0),(.ref 601),(.bool true),(.int (181) 0),(.ref 602),.none,(.ref 603),(.ref 604),(.ref 605),(.int (1015) 0),(.int (382) 0),(.str "/claim/cut.py" 1016)]),#[]⟩)::(nat_lit 607,oM "__init__" "Watch.__init__" 93 0 dn 606)::(nat_lit 613,⟨(.type "code"),none,(.fields #[(.str "turn" 1018),(.str "Watch.turn" 1019),(.str "/claim/cut.py" 1020),(.int (388) 0),(.int (1) 0),(.int (0) 0),(.int (0) 0),(.int (3) 0),(.ref 608),(.bool true),(.int (181) 0),(.ref 609),.none,(.ref 610),(.ref 611),(.ref 612),(.int (1022) 0),(.int (388) 0),(.str "/claim/cut.py" 1023)]),#[]⟩)::(nat_lit 614,oM "turn" "Watch.turn" 93 1 dn 613)::(nat_lit 620,⟨(.type "code"),none,(.fields #[(.str "evening" 1025),(.str "Watch.evening" 1026),(.str "/claim/cut.py" 1027),(.int (393) 0),(.int (1) 0),(.int (0) 0),(.int (0) 0),(.int (3) 0),(.ref 615),(.bool true),(.int (181) 0),(.ref 616),.none,(.ref 617),(.ref 618),(.ref 619),(.int (1029) 0),(.int (393) 0),(.str "/claim/cut.py" 1030)]),#[]⟩)::(nat_lit 621,oM "evening" "Watch.evening" 93 2 dn 620)::(nat_lit 627,⟨(.type "code"),none,(.fields #[(.str "left" 1032),(.str "Watch.left" 1033),(.str "/claim/cut.py" 1034),(.int (396) 0),(.int (1) 0),(.int (0) 0),(.int (0) 0),(.int (3) 0),(.ref 622),(.bool true),(.int (181) 0),(.ref 623),.none,(.ref 624),(.ref 625),(.ref 626),(.int (1039) 0),(.int (396) 0),(.str "/claim/cut.py" 1040)]),#[]⟩)::(nat_lit 628,oM "left" "Watch.left" 93 3 dn 627)::(nat_lit 634,⟨(.type "code"),none,(.fields #[(.str "winner" 1042),(.str "Watch.winner" 1043),(.str "/claim/cut.py" 1044),(.int (402) 0),(.int (1) 0),(.int (0) 0),(.int (0) 0),(.int (3) 0),(.ref 629),(.bool true),(.int (181) 0),(.ref 630),.none,(.ref 631),(.ref 632),(.ref 633),(.int (1046) 0),(.int (402) 0),(.str "/claim/cut.py" 1047)]),#[]⟩)::(nat_lit 635,oM "winner" "Watch.winner" 93 4 dn 634)::(nat_lit 641,⟨(.type "code"),none,(.fields #[(.str "settle" 1049),(.str "Watch.settle" 1050),(.str "/claim/cut.py" 1051),(.int (407) 0),(.int (2) 0),(.int (0) 0),(.int (0) 0),(.int (3) 0),(.ref 636),(.bool true),(.int (181) 0),(.ref 637),.none,(.ref 638),(.ref 639),(.ref 640),(.int (1054) 0),(.int (407) 0),(.str "/claim/cut.py" 1055)]),#[]⟩)::(nat_lit 642,oM "settle" "Watch.settle" 93 5 dn 641)::(nat_lit 648,⟨(.type "code"),none,(.fields #[(.str "back" 1057),(.str "Watch.back" 1058),(.str "/claim/cut.py" 1059),(.int (415) 0),(.int (1) 0),(.int (0) 0),(.int (0) 0),(.int (3) 0),(.ref 643),(.bool true),(.int (181) 0),(.ref 644),.none,(.ref 645),(.ref 646),(.ref 647),(.int (1061) 0),(.int (415) 0),(.str "/claim/cut.py" 1062)]),#[]⟩)::(nat_lit 649,oM "back" "Watch.back" 93 6 dn 648)::(nat_lit 651,⟨(.type "dict"),none,(.dict #[en P "__module__" 1004 (.str "duskbook.watches" 982),en P "__firstlineno__" 1008 (.int (380) 1007),en P "__init__" 1017 (.ref 607),en P "turn" 1024 (.ref 614),en P "evening" 1031 (.ref 621),en P "left" 1041 (.ref 628),en P "winner" 1048 (.ref 635),en P "settle" 1056 (.ref 642),en P "back" 1063 (.ref 649),en P "__static_attributes__" 1067 (.ref 650),en P "__dict__" 1069 (.ref 653),en P "__weakref__" 1071 (.ref 654),en P "__doc__" 1072 .none] 4),#[]⟩)::(nat_lit 652,⟨(.type "type"),none,(.cls ⟨"Watch",[(.type "object")],[(.ref 652),(.type "object")],651,"Watch",true,[],[],false,none,false⟩),#[none,none,(some (.str "Watch" 997)),(some (.str "Watch" 1005)),(some (.builtin "object.__new__")),(some (.bool true))]⟩)::(nat_lit 662,oC "_law_cell" 1077 420 2 657 (.ref 659) (.ref 660) 661 181 1082)::(nat_lit 663,oF "_law_cell" 95 bp 662)::(nat_lit 669,oC "_law_mixed" 1085 424 2 664 (.ref 666) (.ref 667) 668 181 1090)::(nat_lit 670,oF "_law_mixed" 96 bp 669)::(nat_lit 676,oC "_law_bits" 1093 426 2 671 (.ref 673) (.ref 674) 675 181 1101)::(nat_lit 677,oF "_law_bits" 97 bp 676)::(nat_lit 681,oC "_law_so" 1104 433 3 678 .none .none 680 181 1107)::(nat_lit 682,oF "_law_so" 98 bp 681)::(nat_lit 686,oC "_law_hands" 1110 442 2 683 .none .none 685 181 1113)::(nat_lit 687,oF "_law_hands" 99 bp 686)::(nat_lit 691,oC "_law_own" 1116 444 3 688 .none .none 690 181 1119)::(nat_lit 692,oF "_law_own" 100 bp 691)::(nat_lit 696,oC "_law_plan" 1122 446 3 693 .none .none 695 181 1125)::(nat_lit 697,oF "_law_plan" 101 bp 696)::(nat_lit 703,oC "_law_comes" 1128 453 2 698 (.ref 700) (.ref 701) 702 181 1136)::(nat_lit 704,oF "_law_comes" 102 bp 703)::(nat_lit 710,oC "_law_either" 1139 460 3 705 (.ref 707) (.ref 708) 709 181 1146)::(nat_lit 711,oF "_law_either" 103 bp 710)::(nat_lit 717,oC "_law_eithers" 1149 467 4 712 (.ref 714) (.ref 715) 716 181 1162)::(nat_lit 718,oF "_law_eithers" 104 bp 717)::(nat_lit 722,oC "_law_sum_rows" 1165 477 3 719 .none .none 721 181 1168)::(nat_lit 723,oF "_law_sum_rows" 105 bp 722)::(nat_lit 727,oC "_law_sum" 1171 484 2 724 .none .none 726 181 1174)::(nat_lit 728,oF "_law_sum" 106 bp 727)::(nat_lit 732,oC "_law_sums" 1177 494 2 729 .none .none 731 181 1180)::(nat_lit 733,oF "_law_sums" 107 bp 732)::(nat_lit 739,oC "_law_lit" 1183 497 4 734 (.ref 736) (.ref 737) 738 181 1192)::(nat_lit 740,oF "_law_lit" 108 bp 739)::(nat_lit 744,oC "_law_rows" 1195 502 3 741 .none .none 743 181 1198)::(nat_lit 745,oF "_law_rows" 109 bp 744)::(nat_lit 749,oC "_law_if" 1201 512 4 746 .none .none 748 181 1204)::(nat_lit 750,oF "_law_if" 110 bp 749)::(nat_lit 754,oC "_law_ifs" 1207 520 4 751 .none .none 753 181 1210)::(nat_lit 755,oF "_law_ifs" 111 bp 754)::(nat_lit 761,oC "_law_numbers_of" 1213 532 1 756 (.ref 758) (.ref 759) 760 181 1220)::(nat_lit 762,oF "_law_numbers_of" 112 bp 761)::(nat_lit 768,oC "_law_paper" 1223 540 4 763 (.ref 765) (.ref 766) 767 181 1232)::(nat_lit 769,oF "_law_paper" 113 bp 768)::(nat_lit 773,oC "_law_played" 1235 552 6 770 .none .none 772 181 1238)::(nat_lit 774,oF "_law_played" 114 bp 773)::(nat_lit 778,oC "law" 1241 561 1 775 .none .none 777 181 1244)::(nat_lit 779,oF "law" 115 bp 778)::[]
def hk:Hook:=kHook K (2::3::20::21::27::28::29::33::34::40::41::47::48::61::65::66::70::71::136::137::141::142::146::147::153::154::158::159::165::166::170::171::177::178::189::190::194::195::201::202::208::209::215::216::220::221::334::335::339::340::346::347::353::354::358::359::391::392::405::406::412::413::419::420::422::423::440::441::447::448::454::455::457::458::468::474::475::481::482::484::485::493::494::498::499::505::506::512::513::517::518::522::523::527::528::534::535::539::540::544::545::549::550::556::557::561::562::566::567::573::574::580::581::587::588::592::593::606::607::613::614::620::621::627::628::634::635::641::642::648::649::651::652::662::663::669::670::676::677::681::682::686::687::691::692::696::697::703::704::710::711::717::718::722::723::727::728::732::733::739::740::744::745::749::750::754::755::761::762::768::769::773::774::778::779::[]) (λ_=>by kernel_rfl)
def Q:P7:={ pg with main:={ pg.main with body:=[Lw.top 115] } }
def ls:AK:=(["both_added","added","HANDS","beacons_with","is_rising","contrary","led_to","is_road","EXCHANGED_KINDS","exchanged_rule","exchanged","DuskError","NoHands","Over","NoLight","NoneSettled","BEACON_COUNT","either_holds","sum_holds","if_holds","rule_holds","broken_rules","holds","beacons_in","beacons_of","is_void","without","either_left","sum_left","if_left","rule_left","left_behind","is_place","body_is_known","is_step","is_derivation","derived","is_broken","lead_there_and_back","clash_good","cross_good","late_good","odd_good","first_ones","is_first_part","is_last_part","lone_good","either_paper_good","storm_good","row_of"]++["is_odd_count","plan_said","sums_said","rows_said","cross_said","late_said","odd_said","lone_said","said","Settler","Rowed","Papered","play_out","rows_by_beacon","is_plan_row","come_to","either_is_kept","plan_good","is_sum_row","replaced","sums_good","are_some_of","ahead_of","is_row","holds_where_lit","rows_good","keeper_good","good","is_hand","check_hands","Watch","_law_cell","_law_mixed","_law_bits","_law_so","_law_hands","_law_own","_law_plan","_law_comes","_law_either","_law_eithers","_law_sum_rows","_law_sum","_law_sums","_law_lit","_law_rows","_law_if","_law_ifs","_law_numbers_of","_law_paper"]++["_law_played"]).map Str.ofString
noncomputable abbrev Xt(s:Shared):Bool:=xlAt Q [] s&&recOk (RowW.records (OpenRow.toRowW PySem.Challenge.rw_duskbook_k42_whole_keepers_papers_win.row)) s
def Fv:∀w:World,(λos=>((staticsOk (importedModules pg.main.body) (boot_heap w.params) (tw w.params)&&namesBound pg (tw w.params)&&gensDone (j4 w os)&&laidKept (boot_heap w.params) (tw w.params)),openSeen Q ls (importedModules pg.main.body) Xt true (j4 w os),Hook.obs hk (j4 w os)))=λ_=>(true,openGood Q ls,Hook.val hk w):=by
 intro w;kernel_rfl
def left:LeftO pg Q ls Xt (Hook.obs hk) (Hook.val hk) 10470:=LeftO.of_pieces   op size run (by decide) Fv
end Op
end
noncomputable def PySem.W.Fast.tw14861093084020032003:PySem.Program:=PySem.Challenge.pw_duskbook_k42_whole_keepers_papers_win
theorem PySem.W.Fast.te14861093084020032003:PySem.Challenge.pw_duskbook_k42_whole_keepers_papers_win=PySem.W.Fast.tw14861093084020032003:=rfl
open PySem PySem.W PyProof.Rows
theorem PySem.Challenge.cw_duskbook_k42_whole_keepers_papers_win_holds : PySem.Challenge.rw_duskbook_k42_whole_keepers_papers_win.Holds := by
 w_on;o_law
 refine holds_open (q:=Op.Q) (loose:=Op.ls) (Xt:=Op.Xt) (XP:=XL Op.Q []) (Yf:=Hook.obs Op.hk) (Ya:=Hook.val Op.hk) (YP:=InK Op.K) (N:=10470) Op.left (Hook.of Op.hk) (Hook.keeps Op.hk) (λs e=>xl_of s (Bool.and_eq_true_iff.mp e).1) XL.keeps (by rfl) (by rfl) (by rfl) (λs e=>recFacts_of (Bool.and_eq_true_iff.mp e).2) (by rfl) (by assumption) (by decide +kernel) ⟨rfl,rfl,rfl,rfl,rfl,by decide +kernel⟩ ?hw ?hc
 (case hw=>w_witness2)
 k_fill
 refine Lw.walk Lw.law_true (l:=PySem.Challenge.rw_duskbook_k42_whole_keepers_papers_win) rfl rfl (K:=Op.K) (λw h Y=>Y) ?F
 case F=>
  intro w mg fa h KX G hmg;refine' Lw.all_mk KX G hmg ?_ ?_ ?_ ?_ ?_ ?_ ?_ ?_ ?_ ?_ ?_ ?_ ?_ ?_ ?_ ?_ ?_ ?_ ?_ ?_ ?_ ?_ ?_ ?_ ?_ ?_ ?_ ?_ ?_ ?_ ?_ ?_ ?_ ?_ ?_ ?_ ?_ ?_ ?_ ?_ ?_ ?_ ?_ ?_ ?_ ?_ ?_ ?_ ?_ ?_ ?_ ?_ ?_ ?_ ?_ ?_ ?_ ?_ ?_ ?_ ?_ ?_ ?_ ?_ ?_ ?_ ?_ ?_ ?_ ?_ ?_ ?_ ?_ ?_ ?_ ?_ ?_ ?_ ?_ ?_ ?_ ?_ ?_ ?_ ?_ ?_ ?_ ?_ ?_ ?_ ?_ ?_ ?_ ?_ ?_ ?_ ?_ ?_ ?_ ?_ ?_ ?_ ?_ ?_ ?_ ?_ ?_ ?_ ?_ ?_ ?_ ?_ ?_ ?_ ?_ ?_ ?_
  all_goals (try (first|(refine' M.mq_mk ?a ?pg ?hd ?po ?sa ?i ?n ?l ?cd ?k;(case a=>first|k_is|kernel_rfl);(case pg=>first|k_is|kernel_rfl);(case hd=>first|k_is|kernel_rfl);(case po=>first|k_is|kernel_rfl);(case sa=>first|k_is|kernel_rfl);(case i=>first|k_is|kernel_rfl);(case n=>first|k_is|kernel_rfl);(case l=>first|k_is|kernel_rfl);(case cd=>first|k_is|kernel_rfl);(case k=>first|k_is|kernel_rfl))|(refine' M.nq_mk ?a ?pg ?hd ?po ?sa ?n;(case a=>first|k_is|kernel_rfl);(case pg=>first|k_is|kernel_rfl);(case hd=>first|k_is|kernel_rfl);(case po=>first|k_is|kernel_rfl);(case sa=>first|k_is|kernel_rfl);(case n=>first|k_is|kernel_rfl))|(refine' M.iqc_mk ?a ?mk ?kc ?i ?n ?l ?cd ?k;(case a=>first|k_is|kernel_rfl);(case mk=>first|k_is|kernel_rfl);(case kc=>first|k_is|kernel_rfl);(case i=>first|k_is|kernel_rfl);(case n=>first|k_is|kernel_rfl);(case l=>first|k_is|kernel_rfl);(case cd=>first|k_is|kernel_rfl);(case k=>first|k_is|kernel_rfl))|(refine' M.iqz_mk ?a ?mk ?kc ?i ?n ?l ?cd ?d;(case a=>first|k_is|kernel_rfl);(case mk=>first|k_is|kernel_rfl);(case kc=>first|k_is|kernel_rfl);(case i=>first|k_is|kernel_rfl);(case n=>first|k_is|kernel_rfl);(case l=>first|k_is|kernel_rfl);(case cd=>first|k_is|kernel_rfl);(case d=>first|k_is|kernel_rfl))|(refine' M.kq_mk (mc:=.type "type") ?e ?i ?l ?cd ?k ?s ?r ?g ?h;(case e=>first|k_is|kernel_rfl);(case i=>first|k_is|kernel_rfl);(case l=>first|k_is|kernel_rfl);(case cd=>first|k_is|kernel_rfl);(case k=>first|k_is|kernel_rfl);(case s=>first|k_is|kernel_rfl);(case r=>first|k_is|kernel_rfl);(case g=>first|k_is|kernel_rfl);(case h=>first|k_is|kernel_rfl))|(refine' M.isk_mk ?a ?a0 ?pg ?hd ?po ?sa ?e ?f ?g ?m ?k;(case a=>first|k_is|kernel_rfl);(case a0=>first|k_is|kernel_rfl);(case pg=>first|k_is|kernel_rfl);(case hd=>first|k_is|kernel_rfl);(case po=>first|k_is|kernel_rfl);(case sa=>first|k_is|kernel_rfl);(case e=>first|k_is|kernel_rfl);(case f=>first|k_is|kernel_rfl);(case g=>first|k_is|kernel_rfl);(case m=>first|k_is|kernel_rfl);(case k=>first|k_is|kernel_rfl))|(refine' Lw.fk_mk ?a ?l ?c ?k;(case a=>k_is);(case l=>k_is);(case c=>k_is);(case k=>k_is))|k_is))
